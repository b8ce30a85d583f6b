/- slices.Clone of whole numbers; Free; Bytes. -/
import Derived.Test.YtgjmgbpphfccaaaPOct
import Derived.Lib.SliceRun
namespace Go.Proofs.Ytgjmgbpphfccaaa
open Go Go.RowKit
set_option linter.unusedVariables false

theorem iclone_nil (w : World) : Calls Try.prog 28 #[.slice none 0 0] w fun e w' => e = .returned (.slice none 0 0) ∧ w = w' := by
  have q22 : ∀ (w : World) (a : Option Addr) (n c n' c' : Nat), (binOp .eql 41 (.slice a n c) (.slice none n' c')).run Try.prog w = .ok (.bool a.isNone) w := fun w a n c n' c' => Lib.run_eql_slice_nil w _ _ a n c n' c' Try.underlying41
  go_enter Try.func28, Try.ntmps28
  go_wp2
  go_ret
  exact ⟨rfl, rfl⟩
/-- slices.Clone: a row of the call's own. -/
theorem iclone_any (A : Option Addr) (n c : Nat) (xs : List Int) (w : World) (hr : RowI .i64 w A n xs) (hnil : A = none → c = 0) (hn : n ≤ 100000) :
    Calls Try.prog 28 #[.slice A n c] w fun e w' => ∃ v', e = .returned v' ∧ w'.ownsRow w.heap.size 3 1 v' n (xs.map (Value.int .i64)) ∧ Below w.heap.size w w' := by
  rcases A with _ | a
  · obtain rfl := hnil rfl
    have h0 : n = 0 := by
      rcases Nat.eq_zero_or_pos n with h0 | h0
      · exact h0
      · obtain ⟨_, _, h, _⟩ := hr.2 h0
        cases h
    subst h0
    have : xs = [] := List.eq_nil_of_length_eq_zero hr.1
    subst this
    exact (iclone_nil w).mono fun e w' ⟨he, hw⟩ => ⟨_, he, World.ownsRow_nil _ _ _ _, by rw [← hw]; exact Below.refl _ _⟩
  · have q22 : ∀ (w : World) (a : Option Addr) (n c n' c' : Nat), (binOp .eql 41 (.slice a n c) (.slice none n' c')).run Try.prog w = .ok (.bool a.isNone) w := fun w a n c n' c' => Lib.run_eql_slice_nil w _ _ a n c n' c' Try.underlying41
    obtain ⟨v', w', happ, hown, hgrow⟩ := app_run .i64 41 3 8 Try.underlying41 info_int (w.alloc (.cells #[] 3)) w.heap.size (.slice (some ⟨w.heap.size, 0, none⟩) 0 0) 0 [] (World.ownsRow_made w #[] 0 (Nat.le_refl _) (Nat.zero_le _) rfl) (some a) n c xs (hr.alloc _) (fun h => by cases h) (by omega) (by unfold maxLen; omega) (by simp)
    rw [Nat.zero_add, List.nil_append] at hown
    have hb : Below w.heap.size w w' := ((Below.refl _ w).alloc (Nat.le_refl _) _).grown hgrow (by simp) (by intro k hk; simp [Value.ownBlock] at hk; omega)
    have HAPP := Lib.hid happ; clear happ
    have HOWN := Lib.hid hown; clear hown
    clear hgrow hr
    go_enter Try.func28, Try.ntmps28
    go_wp2_with (at_builtin; refine wpList_append_run rfl _ _ 41 rfl rfl _ _ _ _ rfl rfl HAPP.out ?_)
    go_ret
    exact ⟨v', rfl, HOWN.out, hb⟩

section
variable {w : World} {B g gb size : Nat} {F : Nat → Prop} {FV : Value} {Vs : List Value} {os : List (List Int)} {hs ln : List Nat}
theorem PoolC.lineAt (h : PoolC w B F g gb FV Vs size os hs ln) : ∃ A c, FV = .slice A ln.length c ∧ RowI .i64 w A ln.length (ints ln) ∧ ln.length ≤ c ∧ c ≤ maxLen ∧ (A = none → c = 0) := by
  obtain ⟨A, c, hv, hr, hc, hm⟩ := row_of_own (k := .i64) (xs := ints ln) h.free
  obtain ⟨A', c', hv', _, _, hn, _⟩ := own_cells h.free
  rw [hv] at hv'
  injection hv' with e1 _ e3
  subst e1; subst e3
  exact ⟨A, c, hv, hr, hc, hm, fun e => (hn e).2⟩
/-- Free: the line, in new memory. -/
theorem free_any (h : PoolC w B F g gb FV Vs size os hs ln) (hn : ln.length ≤ 64) :
    Calls Try.prog 22 #[.pointer (some ⟨g, 0, none⟩)] w fun e w' => ∃ v', e = .returned v' ∧ w'.ownsRow w.heap.size 3 1 v' ln.length (iv ln) ∧ Below w.heap.size w w' := by
  obtain ⟨A, c, rfl, hr, hc, hm, hz⟩ := h.lineAt
  have c2 := h.c2
  have HC := Lib.hid (iclone_any A ln.length c (ints ln) w hr hz (by omega))
  clear h hr hz
  go_enter Try.func22, Try.ntmps22
  go_wp2_with fail
  refine HC.out.mono ?_; rintro e w' ⟨v', rfl, ho, hb⟩
  obtain ⟨A2, c2', rfl, _⟩ := own_cells ho
  go_wp2_with fail
  go_ret
  exact ⟨_, rfl, ho, hb⟩

/-- How many octets the first i buffers have. -/
def sumL (os : List (List Int)) (i : Nat) : Nat := ((os.take i).map List.length).sum
theorem sumL_succ (os : List (List Int)) (i : Nat) (h : i < os.length) : sumL os (i + 1) = sumL os i + (os.getD i []).length := by
  unfold sumL
  rw [List.take_add_one, List.getElem?_eq_getElem h, List.map_append, List.sum_append]
  simp [List.getD, List.getElem?_eq_getElem h]
def allL (os : List (List Int)) : Nat := (os.map List.length).sum
theorem sumL_all (os : List (List Int)) : sumL os os.length = allL os := by simp [sumL, allL]
theorem sumL_le (os : List (List Int)) (M : Nat) (hM : ∀ o ∈ os, o.length ≤ M) : ∀ i, i ≤ os.length → sumL os i ≤ i * M
  | 0, _ => by simp [sumL]
  | i + 1, h => by
    rw [sumL_succ os i (by omega)]
    have h1 := sumL_le os M hM i (by omega)
    have h2 : (os.getD i []).length ≤ M := by
      have : i < os.length := by omega
      simp [List.getD, List.getElem?_eq_getElem this]
      exact hM _ (List.getElem_mem this)
    rw [Nat.add_mul]; omega

set_option maxHeartbeats 1000000 in
/-- Bytes: how many octets the buffers have. -/
theorem bytes_any (h : PoolC w B F g gb FV Vs size os hs ln) (hn : hs.length ≤ 64) (hM : ∀ o ∈ os, o.length ≤ 10000) :
    Calls Try.prog 23 #[.pointer (some ⟨g, 0, none⟩)] w fun e w' => e = .returned (.int .i64 (allL os : Nat)) ∧ Below w.heap.size w w' := by
  have c1 := h.c1
  have hlo := h.lo
  have HB := Lib.hid h
  have HM := Lib.hid (sumL_le os 10000 hM)
  clear h hM
  have HLO := Lib.hid hlo; clear hlo
  go_enter Try.func23, Try.ntmps23
  go_wp2_with fail
  go_loopw [3, 11] (fun v3 v11 wr => ∃ i : Nat, i ≤ hs.length ∧ v11 = .int .i64 (i : Int) ∧ v3 = .int .i64 (sumL os i : Int) ∧ Below w.heap.size w wr) (fun _ v11 _ => hs.length - (intOf v11).toNat)
  case atStart => exact ⟨0, by omega, rfl, rfl, Below.refl _ _⟩
  case round =>
    obtain ⟨i, hi, rfl, rfl, hb⟩ := hrel
    by_cases hlt : i < hs.length
    · obtain ⟨A, c, _, cO, _⟩ := (HB.out.below hb).octAt hlt
      have cH := (HB.out.below hb).cH hlt
      have hsum := HM.out i (by have := HLO.out; omega)
      have hsum1 := HM.out (i + 1) (by have := HLO.out; omega)
      have HS := Lib.hid (sumL_succ os i (by have := HLO.out; omega))
      have hpos := Int.natCast_nonneg (sumL os i)
      rw [HS.out] at hsum1
      obtain ⟨k, hk⟩ : ∃ k, k = (os.getD i []).length := ⟨_, rfl⟩
      obtain ⟨m, hm⟩ : ∃ m, m = sumL os i := ⟨_, rfl⟩
      rw [← hk] at cO hsum1 HS
      rw [← hm] at hsum1 hsum hpos HS ⊢
      have HMM := Lib.hid hm
      clear hk hm
      go_wp2_with fail
      refine ⟨⟨i + 1, by omega, by go_num, ?_, hb.alloc hb.size _⟩, by simp [intOf]; omega⟩
      rw [HS.out]
      go_num
    · have hie : i = hs.length := by omega
      have HIE := Lib.hid hie; clear hie
      have HALL := Lib.hid (sumL_all os)
      go_wp2_with fail
      go_ret
      refine ⟨?_, hb⟩
      have h1 := HIE.out
      rw [← HLO.out] at h1
      show Ending.returned (.int .i64 (sumL os i : Int)) = _
      rw [h1, HALL.out]
end
end Go.Proofs.Ytgjmgbpphfccaaa
