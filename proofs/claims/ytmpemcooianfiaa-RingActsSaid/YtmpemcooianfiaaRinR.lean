/- The program's ring: within, place, has, Room, Ready, Ticket: they only read. -/
import Derived.Test.YtmpemcooianfiaaRinM
namespace Go.Proofs.Ytmpemcooianfiaa
open Go Go.RowKit
set_option linter.unusedVariables false
set_option maxRecDepth 20000
/-- Has a ticket a place? -/
def inW (next n : Nat) (t : Int) : Bool := decide ((next : Int) ≤ t) && decide (t - (next : Int) < (n : Int))
theorem inW_at {next n : Nat} {t : Int} : inW next n t = true ↔ ∃ i : Nat, i < n ∧ t = ((next + i : Nat) : Int) := by
  unfold inW
  simp only [Bool.and_eq_true, decide_eq_true_eq]
  constructor
  · rintro ⟨h1, h2⟩
    exact ⟨(t - next).toNat, by omega, by omega⟩
  · rintro ⟨i, h1, rfl⟩
    omega
section
variable {w w' : World} {F : Nat → Prop} {g b n next : Nat} {W : List (Option It)} {rs : List (List Value)}
theorem RPr.drawn (h : RPr w F g b n next W rs) (q : Nat) : RPr (w.drewN q) F g b n next W rs := h.keep (fun _ _ => rfl) (Nat.le_refl _)
theorem within_0 (h : RPr w F g b n next W rs) (t : Int) (hn : n ≤ 64) (hx : next ≤ 100000) (t0 : -9223372036854775808 ≤ t) (t1 : t < 9223372036854775808) :
    Calls Try.prog 19 #[.pointer (some ⟨g, 0, none⟩), .int .i64 t] w fun e w' => e = .returned (.bool (inW next n t)) ∧ ∃ m, w' = w.drewN m := by
  have c0 := h.c0
  have c1 := h.c1
  clear h
  unfold inW
  by_cases h0 : (next : Int) ≤ t
  · have d0 : decide ((next : Int) ≤ t) = true := by simpa using h0
    have hs : IntKind.i64.wrap (t - (next : Int)) = t - (next : Int) := by simp [IntKind.wrap, IntKind.bits, IntKind.signed]; omega
    rw [d0, Bool.true_and]
    go_enter Try.func19, Try.ntmps19
    go_wp2_with fail
    go_quiet (fail)
    go_wp2_with fail
    go_ret
    exact ⟨rfl, _, rfl⟩
  · have d0 : decide ((next : Int) ≤ t) = false := by simpa using h0
    rw [d0, Bool.false_and]
    clear h0
    go_enter Try.func19, Try.ntmps19
    go_wp2_with fail
    go_quiet (fail)
    go_wp2_with fail
    go_ret
    exact ⟨rfl, _, rfl⟩
theorem within_any (h : RPr w F g b n next W rs) (t : Int) (hn : n ≤ 64) (hx : next ≤ 100000) (t0 : -9223372036854775808 ≤ t) (t1 : t < 9223372036854775808) (q : Nat) :
    Calls Try.prog 19 #[.pointer (some ⟨g, 0, none⟩), .int .i64 t] (w.drewN q) fun e w' => e = .returned (.bool (inW next n t)) ∧ ∃ m, w' = w.drewN m :=
  (within_0 (h.drawn q) t hn hx t0 t1).mono fun e w' hh => ⟨hh.1, by obtain ⟨m, rfl⟩ := hh.2; exact ⟨_, World.drewN_drewN _ _ _⟩⟩
theorem place_0 (h : RPr w F g b n next W rs) (t : Nat) (hn : n ≤ 64) (hx : t ≤ 200000) (hn0 : 1 ≤ n) :
    Calls Try.prog 20 #[.pointer (some ⟨g, 0, none⟩), .int .i64 (t : Int)] w fun e w' => e = .returned (.pointer (some ⟨b, t % n * 8, none⟩)) ∧ ∃ m, w' = w.drewN m := by
  have c0 := h.c0
  clear h
  obtain ⟨j, hj⟩ : ∃ j, j = t % n := ⟨_, rfl⟩
  have hjn : j < n := by rw [hj]; exact Nat.mod_lt _ (by omega)
  have hm : Int.tmod (t : Int) (n : Int) = (j : Int) := by rw [hj]; rfl
  rw [← hj]
  have hnz : ((n : Int) == 0) = false := by simp; omega
  have hcl := place_cells
  clear hj
  go_enter Try.func20, Try.ntmps20
  go_wp2_with fail
  go_quiet (fail)
  go_wp2_with fail
  go_ret
  exact ⟨rfl, _, rfl⟩
theorem place_any (h : RPr w F g b n next W rs) (t : Nat) (hn : n ≤ 64) (hx : t ≤ 200000) (hn0 : 1 ≤ n) (q : Nat) :
    Calls Try.prog 20 #[.pointer (some ⟨g, 0, none⟩), .int .i64 (t : Int)] (w.drewN q) fun e w' => e = .returned (.pointer (some ⟨b, t % n * 8, none⟩)) ∧ ∃ m, w' = w.drewN m :=
  (place_0 (h.drawn q) t hn hx hn0).mono fun e w' hh => ⟨hh.1, by obtain ⟨m, rfl⟩ := hh.2; exact ⟨_, World.drewN_drewN _ _ _⟩⟩
/-- What a place that a ticket has holds. -/
def isAt (next n : Nat) (W : List (Option It)) (t : Int) : Bool := inW next n t && (W[(t - (next : Int)).toNat]?.getD none).isSome
theorem plc_there {o : Option It} : (plc o)[7]? = some (.bool o.isSome) := by cases o <;> rfl
theorem has_0 (h : RPr w F g b n next W rs) (t : Int) (hn : n ≤ 64) (hx : next ≤ 100000) (t0 : -9223372036854775808 ≤ t) (t1 : t < 9223372036854775808) :
    Calls Try.prog 18 #[.pointer (some ⟨g, 0, none⟩), .int .i64 t] w fun e w' => e = .returned (.bool (isAt next n W t)) ∧ ∃ m, w' = w.drewN m := by
  have HW := Lib.hid fun q => within_any h t hn hx t0 t1 q
  unfold isAt
  by_cases hi : inW next n t = true
  · obtain ⟨i, hil, rfl⟩ := inW_at.1 hi
    rw [hi] at HW ⊢
    rw [show (((next + i : Nat) : Int) - (next : Int)).toNat = i by omega, Bool.true_and]
    have hWi : W[i]? = some (W[i]'(by rw [h.hn]; exact hil)) := List.getElem?_eq_getElem _
    obtain ⟨o, ho⟩ : ∃ o, W[i]? = some o := ⟨_, hWi⟩
    rw [ho, Option.getD_some]
    have HP := Lib.hid fun q => place_any h (next + i) hn (by omega) (by omega) q
    have d7 := h.pl ho (j := (next + i) % n) rfl 7 _ plc_there
    obtain ⟨j, hj⟩ : ∃ j, j = (next + i) % n := ⟨_, rfl⟩
    rw [← hj] at HP d7
    obtain ⟨p, hp⟩ : ∃ p, p = o.isSome := ⟨_, rfl⟩
    rw [← hp] at d7 ⊢
    have hcl := place_cells
    clear hWi ho hj h hi t0 t1 hp
    go_enter Try.func18, Try.ntmps18
    go_wp2_with (first | (go_at_call 19; refine (HW.out 0).mono ?_; rintro e w1 ⟨rfl, m1, rfl⟩) | (go_at_call 20; refine (HP.out _).mono ?_; rintro e w1 ⟨rfl, m2, rfl⟩))
    go_ret
    exact ⟨rfl, _, rfl⟩
  · have hi' : inW next n t = false := by simpa using hi
    rw [hi'] at HW ⊢
    rw [Bool.false_and]
    clear hi hi' h
    go_enter Try.func18, Try.ntmps18
    go_wp2_with (first | (go_at_call 19; refine (HW.out 0).mono ?_; rintro e w1 ⟨rfl, m1, rfl⟩))
    go_ret
    exact ⟨rfl, _, rfl⟩
theorem has_any (h : RPr w F g b n next W rs) (t : Int) (hn : n ≤ 64) (hx : next ≤ 100000) (t0 : -9223372036854775808 ≤ t) (t1 : t < 9223372036854775808) (q : Nat) :
    Calls Try.prog 18 #[.pointer (some ⟨g, 0, none⟩), .int .i64 t] (w.drewN q) fun e w' => e = .returned (.bool (isAt next n W t)) ∧ ∃ m, w' = w.drewN m :=
  (has_0 (h.drawn q) t hn hx t0 t1).mono fun e w' hh => ⟨hh.1, by obtain ⟨m, rfl⟩ := hh.2; exact ⟨_, World.drewN_drewN _ _ _⟩⟩
theorem isAt_head (hn : W.length = n) (h1 : 1 ≤ n) : isAt next n W (next : Int) = (headW W).isSome := by
  unfold isAt
  rw [(inW_at (next := next) (n := n) (t := (next : Int))).2 ⟨0, by omega, by simp⟩, Bool.true_and, show ((next : Int) - (next : Int)).toNat = 0 by omega]
  rcases W with _ | ⟨_ | x, r⟩
  · simp at hn; omega
  · rfl
  · rfl
theorem putR_in (hn : W.length = n) {t : Int} (h : inW next n t = true) : putR next W t = if isAt next n W t = true then 2 else 0 := by
  obtain ⟨i, hi, rfl⟩ := inW_at.1 h
  unfold isAt putR
  rw [h, Bool.true_and, if_neg (by omega), if_neg (by omega)]
  have e : (((next + i : Nat) : Int) - (next : Int)).toNat = i := by omega
  rw [e, List.getElem?_eq_getElem (by omega : i < W.length)]
  cases W[i] <;> simp
theorem putR_out (hn : W.length = n) {t : Int} (h : inW next n t = false) : putR next W t = if t < (next : Int) then 2 else 16 := by
  unfold putR
  split
  · rfl
  · rw [if_pos]
    unfold inW at h
    simp at h
    omega
theorem room_R (hn : W.length = n) (t : Int) : decide (putR next W t = 0) = (inW next n t && !isAt next n W t) := by
  cases h : inW next n t with
  | true =>
    rw [putR_in hn h]
    cases isAt next n W t <;> simp
  | false =>
    rw [putR_out hn h]
    split <;> simp
theorem room_0 (h : RPr w F g b n next W rs) (t : Int) (hn : n ≤ 64) (hx : next ≤ 100000) (t0 : -9223372036854775808 ≤ t) (t1 : t < 9223372036854775808) :
    Calls Try.prog 13 #[.pointer (some ⟨g, 0, none⟩), .int .i64 t] w fun e w' => e = .returned (.bool (decide (putR next W t = 0))) ∧ ∃ m, w' = w.drewN m := by
  have HW := Lib.hid fun q => within_any h t hn hx t0 t1 q
  have HS := Lib.hid fun q => has_any h t hn hx t0 t1 q
  rw [room_R h.hn]
  obtain ⟨p, hp⟩ : ∃ p, p = isAt next n W t := ⟨_, rfl⟩
  obtain ⟨r, hr⟩ : ∃ r, r = inW next n t := ⟨_, rfl⟩
  rw [← hp] at HS ⊢
  rw [← hr] at HW ⊢
  clear hp hr h
  cases r
  all_goals
    cases p
    all_goals
      go_enter Try.func13, Try.ntmps13
      go_wp2_with (first | (go_at_call 19; refine (HW.out 0).mono ?_; rintro e w1 ⟨rfl, m1, rfl⟩) | (go_at_call 18; refine (HS.out _).mono ?_; rintro e w1 ⟨rfl, m2, rfl⟩))
      go_ret
      exact ⟨rfl, _, rfl⟩
theorem ready_0 (h : RPr w F g b n next W rs) (hn : n ≤ 64) (hx : next ≤ 100000) (h1 : 1 ≤ n) :
    Calls Try.prog 17 #[.pointer (some ⟨g, 0, none⟩)] w fun e w' => e = .returned (.bool (headW W).isSome) ∧ ∃ m, w' = w.drewN m := by
  have HS := Lib.hid fun q => has_any h (next : Int) hn hx (by omega) (by omega) q
  rw [isAt_head h.hn h1] at HS
  have c1 := h.c1
  clear h
  go_enter Try.func17, Try.ntmps17
  go_wp2_with (go_at_call 18; refine (HS.out 0).mono ?_; rintro e w1 ⟨rfl, m2, rfl⟩)
  go_ret
  exact ⟨rfl, _, rfl⟩
theorem ticket_0 (h : RPr w F g b n next W rs) :
    Calls Try.prog 16 #[.pointer (some ⟨g, 0, none⟩)] w fun e w' => e = .returned (.int .i64 (next : Int)) ∧ ∃ m, w' = w.drewN m := by
  have c1 := h.c1
  clear h
  go_enter Try.func16, Try.ntmps16
  go_wp2_with fail
  go_ret
  exact ⟨rfl, 0, rfl⟩
end
end Go.Proofs.Ytmpemcooianfiaa
