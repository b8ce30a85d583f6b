/- Texts. -/
import Derived.Test.YtaapbmdojkjphaaGreatZ08
import Derived.Test.YtaapbmdojkjphaaGreatZ09
import Derived.Test.YtaapbmdojkjphaaGreatZ10
import Derived.Test.YtaapbmdojkjphaaGreatZ11
import Derived.Test.YtaapbmdojkjphaaGreatZ12
import Derived.Test.YtaapbmdojkjphaaGreatZ13
import Derived.Test.YtaapbmdojkjphaaGreatZ14
import Derived.Deep.RegionHeldLaw
import Derived.BigQuiet
import Derived.Lib.SliceRun
import Derived.Deep.MidRow
namespace Go.Proofs.YtaapbmdojkjphaaGreat
open Go Go.RowKit
theorem refGet_any (s : ByteArray) (w : World) (hm : s.size ≤ maxLen) :
    Calls Tryz.prog 14 #[.string s] w fun e w' => e = .returned (.tuple #[.int .i64 (getI (nums s)).1, .int .i64 (getI (nums s)).2]) ∧ Below w.heap.size w w' := by
  have hl := nums_length s
  rcases Nat.eq_zero_or_pos s.size with h0 | h0
  · have : nums s = [] := List.eq_nil_of_length_eq_zero (by omega)
    rw [this]
    exact refGet_nil s w h0
  · have hb := nums_byte s
    have h := refGet_some s w h0 hm
    cases hq : nums s with
    | nil => rw [hq] at hl; simp at hl; omega
    | cons x t =>
      rw [hq] at h hb
      rw [get_same x t (hb x (by simp)).1]
      exact h
end Go.Proofs.YtaapbmdojkjphaaGreat
namespace Go.Proofs.YtaapbmdojkjphaaGreat
open Go Go.RowKit
set_option linter.unusedVariables false
set_option maxRecDepth 20000
theorem rgetF_back (l : List Int) : ∀ (f n : Nat), rgetF l f n = (65533, 1) ∨ putI (rgetF l f n).1 = l.take (rgetF l f n).2.toNat
  | 0, n => .inl rfl
  | f + 1, n => by
    unfold rgetF
    by_cases h : okI l n = true
    · rw [if_pos h]
      right
      unfold okI at h
      rw [Bool.and_eq_true, decide_eq_true_iff] at h
      simpa using h.2
    · rw [if_neg h]
      exact rgetF_back l f (n + 1)
theorem get_back {l : List Int} (hl : l ≠ []) (hb : ∀ x ∈ l, 0 ≤ x ∧ x < 256) : (putI (getI l).1 = l.take (getI l).2.toNat) ↔ (getI l).2 = szI (getI l).1 := by
  have hbd := getI_bounds hl
  have his := getI_is l
  rcases l with _ | ⟨x, t⟩
  · exact absurd rfl hl
  have hs := get_same x t (hb x (by simp)).1
  have hsz := szI_len his
  constructor
  · intro h
    have := congrArg List.length h
    rw [List.length_take] at this
    omega
  · intro h
    rcases rgetF_back (x :: t) 4 1 with h1 | h1
    · rw [hs, h1] at h
      exact absurd h (by decide)
    · rw [hs]; exact h1
theorem nums_drop (s : ByteArray) (k : Nat) : nums (s.extract k s.size) = (nums s).drop k := by
  unfold nums
  rw [← List.map_drop]
  congr 1
  rw [ByteArray.data_extract, Array.toList_extract, List.extract_eq_take_drop]
  exact List.take_of_length_le (by rw [List.length_drop]; exact Nat.le_refl _)
set_option maxHeartbeats 4000000 in
theorem rpoints_any (s : ByteArray) (w : World) (hs : s.size ≤ 200) :
    Calls Tryz.prog 16 #[.string s] w (DecV s w) := by
  go_enter Tryz.func16, Tryz.ntmps16
  go_wp2_with fail
  go_loopw [0, 4] (fun vs vo wr => ∃ (S : ByteArray) (q pc : Nat) (P : Option Addr) (xs : List Int), vs = .string S ∧ vo = .slice P q pc ∧ q + S.size ≤ 200 ∧
    Hid (wr.ownsRow w.heap.size 3 1 (.slice P q pc) q (xs.map (.int .i64)) ∧ Below w.heap.size w wr ∧ pointsL (nums s) = (pointsL (nums S)).map (fun r => xs ++ r))) (fun vs _ _ => match vs with | .string S => S.size | _ => 0)
  case atStart => exact ⟨s, 0, 0, none, [], rfl, rfl, by omega, Lib.hid ⟨ownI_nil _ _, Below.refl _ _, by cases pointsL (nums s) <;> rfl⟩⟩
  case round =>
    obtain ⟨S, q, pc, P, xs, rfl, rfl, hq, H⟩ := hrel
    rcases Nat.eq_zero_or_pos S.size with h0 | h0
    · have h1 : ¬ ((0 : Int) < (S.size : Int)) := by omega
      have HN := Lib.hid (show nums S = [] from List.eq_nil_of_length_eq_zero (by rw [nums_length]; exact h0))
      clear h0
      go_wp2
      go_ret2
      refine ⟨H.out.2.1, .inr ⟨P, q, pc, xs, rfl, ?_, H.out.1⟩⟩
      rw [H.out.2.2, HN.out, pointsL_nil]
      simp
    · have hne : nums S ≠ [] := fun e => by have := nums_length S; rw [e] at this; simp at this; omega
      have hgb := getI_bounds hne
      have hgp := pointsL_cons hne
      have hbk := get_back hne (nums_byte S)
      have his := getI_is (nums S)
      rw [nums_length] at hgb
      have HG := Lib.hid fun w => refGet_any S w (by unfold maxLen; omega)
      obtain ⟨g1, hg1⟩ : ∃ g, g = (getI (nums S)).1 := ⟨_, rfl⟩
      obtain ⟨g2, hg2⟩ : ∃ g, g = (getI (nums S)).2 := ⟨_, rfl⟩
      rw [← hg2] at hgb
      rw [← hg1, ← hg2] at HG hgp hbk
      rw [← hg1] at his
      obtain ⟨m, hm⟩ := Int.eq_ofNat_of_zero_le (show 0 ≤ g2 by omega)
      subst hm
      clear hg1 hg2
      have HP := Lib.hid fun w => refPut_is g1 w his
      have hcm := str_cmp (putI g1) (S.extract 0 m) (putI_byte g1 his) (nums_extract S m)
      have hms : m ≤ S.size := by omega
      have hm1 : 1 ≤ m := by omega
      have h1 : ((0 : Int) < (S.size : Int)) := by omega
      have HM := Lib.hid (And.intro hms (And.intro hm1 hq))
      have hms' : (m : Int) ≤ (S.size : Int) := by omega
      have hm0 : (0 : Int) ≤ (m : Int) := by omega
      by_cases hz : (m : Int) = szI g1
      · rw [if_pos hz] at hgp
        rw [decide_eq_true (by simpa using hbk.2 hz)] at hcm
        have HGP := Lib.hid hgp
        clear hz hgp hbk his hgb
        go_wp2_with (go_at_call 14; (with_reducible refine (HG.out _).mono ?_); rintro e w1 ⟨rfl, hb1⟩; have HB1 := Lib.hid hb1; clear hb1)
        clear hq hne h1 hms hm1 HG
        go_region_held_law (fun _ => True) (trivial) ((go_at_call 15; refine (HP.out _).mono ?_; rintro e w2 ⟨rfl, hb2⟩))
        all_goals
          have hb1 := HB1.out
          have hq := HM.out.2.2
          have hb3 : Below wr.heap.size wr w2 := (hb1.trans ((Below.refl _ _).drew.mono (Nat.le_refl _) |>.mono hb1.size)).trans (hb2.mono hb1.size)
          obtain ⟨P', pc', w3, ha, how, hbl, hkp⟩ := appI_at (W := w) (w := w2.alloc (.cells #[.int .i64 g1] 3)) (own_alloc (own_kept H.out.1 hb3) _) (RowI.new .i64 w2 [g1] 3) (fun e => by cases e) (by omega) (by simp) ((H.out.2.1.trans (hb3.mono H.out.2.1.size)).alloc (Nat.le_trans H.out.2.1.size hb3.size) _)
          have HA := Lib.hid ha
          have HW := Lib.hid (And.intro how (And.intro hbl hkp))
          clear ha how hbl hkp
          go_wp2_with (at_builtin; refine wpList_append_run rfl _ _ 46 rfl rfl _ _ _ _ rfl rfl HA.out ?_)
          have hsz : (S.extract m S.size).size = S.size - m := by rw [ByteArray.size_extract]; omega
          have hmm := HM.out
          refine ⟨⟨S.extract m S.size, q + 1, pc', P', xs ++ [g1], rfl, rfl, by omega, Lib.hid ⟨HW.out.1, HW.out.2.1, ?_⟩⟩, by show (S.extract m S.size).size < S.size; omega⟩
          rw [H.out.2.2, HGP.out, nums_drop, show ((m : Int)).toNat = m by simp]
          cases pointsL ((nums S).drop m) with
          | none => rfl
          | some r => simp
      · rw [if_neg hz] at hgp
        rw [decide_eq_false (by simpa using fun h => hz (hbk.1 h))] at hcm
        have HGP := Lib.hid hgp
        clear hz hgp hbk his hgb
        go_wp2_with (go_at_call 14; (with_reducible refine (HG.out _).mono ?_); rintro e w1 ⟨rfl, hb1⟩; have HB1 := Lib.hid hb1; clear hb1)
        clear hq hne h1 hms hm1 HG
        go_region_held_law (fun _ => True) (trivial) ((go_at_call 15; refine (HP.out _).mono ?_; rintro e w2 ⟨rfl, hb2⟩))
        all_goals
          have hb1 := HB1.out
          go_wp2
          go_ret2
          exact ⟨(H.out.2.1.trans (hb1.mono H.out.2.1.size)).trans (((Below.refl w1.heap.size w1).drew.trans hb2).mono (Nat.le_trans H.out.2.1.size hb1.size)), .inl ⟨rfl, by rw [H.out.2.2, HGP.out]; rfl⟩⟩
end Go.Proofs.YtaapbmdojkjphaaGreat
namespace Go.Proofs.YtaapbmdojkjphaaGreat
open Go Go.RowKit
set_option linter.unusedVariables false
set_option maxRecDepth 20000
structure TV where
  t : TokL
  A : Option Addr
  m : Nat
  c : Nat
def TV.cells (x : TV) : List Value := tokC5 x.t x.A x.m x.c
def cellsT5 (xs : List TV) : List Value := xs.flatMap TV.cells
theorem cellsT5_length (xs : List TV) : (cellsT5 xs).length = xs.length * 5 := by
  induction xs with
  | nil => rfl
  | cons p s ih =>
    show (p.cells ++ cellsT5 s).length = _
    rw [List.length_append, ih, List.length_cons, show p.cells.length = 5 from rfl]
    omega
theorem cellsT5_at : ∀ (xs : List TV) (j : Nat) (x : TV), xs[j]? = some x → ∀ i v, x.cells[i]? = some v → (cellsT5 xs)[j * 5 + i]? = some v
  | [], j, x, h, _, _, _ => by simp at h
  | p :: s, 0, x, h, i, v, hv => by
    simp only [List.getElem?_cons_zero, Option.some.injEq] at h
    subst h
    have hi : i < 5 := (List.getElem?_eq_some_iff.1 hv).1
    show (p.cells ++ cellsT5 s)[0 * 5 + i]? = _
    rw [Nat.zero_mul, Nat.zero_add, List.getElem?_append_left (show i < p.cells.length from hi)]
    exact hv
  | p :: s, j + 1, x, h, i, v, hv => by
    have ih := cellsT5_at s j x (by simpa using h) i v hv
    show (p.cells ++ cellsT5 s)[(j + 1) * 5 + i]? = _
    rw [List.getElem?_append_right (by show 5 ≤ _; omega), show (j + 1) * 5 + i - p.cells.length = j * 5 + i by show _ - 5 = _; omega]
    exact ih
theorem TV.cells_one (x : TV) : ∀ u ∈ x.cells, u.oneCell' = true := by
  intro u hu
  simp only [TV.cells, tokC5, List.mem_cons, List.not_mem_nil, or_false] at hu
  rcases hu with rfl | rfl | rfl | rfl | rfl <;> rfl
theorem info_tok : (Tryz.prog.info? 51).map (fun i => (i.zero, i.size, i.bytes)) = some (some (.agg #[.int .i64 0, .int .i64 0, .slice none 0 0, .int .i64 0, .int .i64 0]), 5, 56) := by kernel_rfl
def ToksG (B : Nat) (w : World) (P : Option Addr) (q pc : Nat) (xs : List TV) : Prop :=
  w.ownsRow B 51 5 (.slice P q pc) q (cellsT5 xs) ∧ ∀ x ∈ xs, RowF (fun b => B ≤ b ∧ (Value.slice P q pc).ownBlock ≠ some b) w x.A x.m x.t.set
section
variable {B q pc : Nat} {w w' : World} {P : Option Addr} {xs : List TV} {x : TV}
theorem ToksG.start (B : Nat) (w : World) : ToksG B w none 0 0 [] := ⟨World.ownsRow_nil _ _ _ _, fun x hx => by cases hx⟩
theorem ToksG.below (h : ToksG B w P q pc xs) (hb : Below w.heap.size w w') : ToksG B w' P q pc xs :=
  ⟨row_keep h.1 fun k hk _ => hb.block k hk, fun x hx => (h.2 x hx).below hb⟩
theorem ToksG.len (h : ToksG B w P q pc xs) : xs.length = q := by have := h.1.1; rw [cellsT5_length] at this; omega
theorem ToksG.push (h : ToksG B w P q pc xs) {d : Nat} (hd : w.heap[d]? = some (.cells x.cells.toArray 51 (0, 0))) (hx : RowF (fun b => B ≤ b ∧ (Value.slice P q pc).ownBlock ≠ some b) w x.A x.m x.t.set) (hq : q ≤ 100000) (hb : B ≤ w.heap.size) :
    ∃ P' pc' w', (Builtin.append_ #[49, 49] 49 #[.slice P q pc, .slice (some ⟨d, 0, none⟩) 1 1]).run Tryz.prog w = .ok (.slice P' (q + 1) pc') w' ∧ ToksG B w' P' (q + 1) pc' (xs ++ [x]) ∧ Below B w w' := by
  obtain ⟨i0, hi, hz0, hz1, hz2⟩ := info_parts info_tok
  have hcells : ∀ j u, x.cells[j]? = some u → w.cell? ((⟨d, 0, none⟩ : Addr).add j) = some u := by
    intro j u hu
    rw [show (⟨d, 0, none⟩ : Addr).add j = ⟨d, 0 + j, none⟩ by unfold Addr.add; split <;> simp_all, cell_of_row w d (0 + j) _ 51 (0, 0) hd, Nat.zero_add]
    simpa using hu
  obtain ⟨V', w', h1, h2, h3, _, h4⟩ := run_append_own_at (P := Tryz.prog) w B 49 49 51 i0 _ 5 56 Tryz.underlying49 hi hz0 hz1 hz2 rfl (by decide) _ q _ h.1 ⟨d, 0, none⟩ 1 1 x.cells rfl hcells x.cells_one (by unfold maxLen; omega) (by omega) hb
  have hb' : Below B w w' := (Below.refl _ _).grown h3 hb (by intro k hk; exact (row_lt h.1 hk).1)
  have key : ∀ b, (B ≤ b ∧ (Value.slice P q pc).ownBlock ≠ some b) → b < w.heap.size → (B ≤ b ∧ V'.ownBlock ≠ some b) ∧ w'.heap[b]? = w.heap[b]? := by
    intro b hF hlt
    refine ⟨⟨hF.1, fun e => ?_⟩, h3.block b hlt fun e => hF.2 e.symm⟩
    rcases h4 with h4 | h4
    · exact hF.2 (h4 ▸ e)
    · rw [h4] at e
      injection e with e
      omega
  have e : cellsT5 xs ++ x.cells = cellsT5 (xs ++ [x]) := by simp [cellsT5]
  rw [e] at h2
  have hN : ∀ y ∈ xs ++ [x], RowF (fun b => B ≤ b ∧ V'.ownBlock ≠ some b) w' y.A y.m y.t.set := fun y hy => by
    rcases List.mem_append.1 hy with hy | hy
    · exact (h.2 y hy).move h3.size key
    · rw [List.mem_singleton] at hy
      subst hy
      exact hx.move h3.size key
  rcases h2.2 with ⟨rfl, h0⟩ | ⟨b, cap, cu, rfl, _⟩
  · omega
  · exact ⟨_, _, w', h1, ⟨h2, hN⟩, hb'⟩
theorem ToksG.toks (h : ToksG B w P q pc xs) : ToksAt (fun b => B ≤ b ∧ b < w.heap.size) w P q (xs.map TV.t) ∧ q ≤ pc := by
  have hl := h.len
  have hcap : q ≤ pc := by
    rcases h.1.2 with ⟨e, h0⟩ | ⟨g, cap, cur, e, _, _, hnc, _⟩
    · omega
    · injection e with _ _ e3; omega
  refine ⟨⟨by rw [List.length_map, hl], fun h0 => ?_⟩, hcap⟩
  rcases h.1.2 with ⟨e, h0'⟩ | ⟨g, cap, cur, e, hB, hg, hnc, hcm, hcs, ht⟩
  · omega
  · injection e with e1 _ e3
    subst e1; subst e3
    refine ⟨g, 0, rfl, (Array.getElem?_eq_some_iff.1 hg).1, fun j t htj => ?_⟩
    rw [List.getElem?_map] at htj
    obtain ⟨x, hx, rfl⟩ := Option.map_eq_some_iff.1 htj
    have hj : j < xs.length := (List.getElem?_eq_some_iff.1 hx).1
    refine ⟨x.A, x.m, x.c, fun i v hv => ?_, (h.2 x (List.mem_of_getElem? hx)).1, fun b o hm hA => ?_⟩
    · have hi : i < 5 := (List.getElem?_eq_some_iff.1 hv).1
      have := cellsT5_at xs j x hx i v hv
      rw [cell_of_row w g (0 + j * 5 + i) cur 51 (0, 0) hg, ← this, ← ht, List.getElem?_take_of_lt (by omega), Array.getElem?_toList, Nat.zero_add]
    · obtain ⟨b', o', hA', hlt, _⟩ := (h.2 x (List.mem_of_getElem? hx)).1.2 hm
      rw [hA] at hA'
      injection hA' with hA'
      injection hA' with e1 _
      subst e1
      exact ⟨((h.2 x (List.mem_of_getElem? hx)).2 b o hm hA).1, hlt⟩
end
theorem int_elem9 : Tryz.prog.elem 46 = 3 := by kernel_rfl
theorem int_size9 (w : World) : (sizeOf 3).run Tryz.prog w = .ok 1 w := by kernel_rfl
theorem int_slice9 : Tryz.prog.underlying 46 = some (.slice (Tryz.prog.elem 46)) := by rw [int_elem9]; exact Tryz.underlying46
theorem cutI_from (A : Option Addr) (n c l : Nat) (hl : l ≤ n) :
    ∃ A', (∀ w : World, (Instr.slice 46 (.slice A n c) (some (.int .i64 (l : Int))) none none).run Tryz.prog w = .ok (.slice A' (n - l) (c - l)) w) ∧
      (∀ (w : World) (xs : List Int), RowI .i64 w A n xs → n ≤ c → RowI .i64 w A' (n - l) (xs.drop l)) := by
  refine ⟨if c = l then A else A.map (·.add (l * 1)), fun w => ?_, fun w xs h hnc => ?_⟩
  · have hr := run_slice_l (P := Tryz.prog) (w := w) (t := 46) (a := A) (len := n) (cap := c) (ht := int_slice9) (kl := .i64) (l := (l : Int)) (h0 := by omega) (h1 := by omega)
    rw [hr, int_elem9, int_size9]
    simp [Result.andThen, sliced]
  · refine ⟨by rw [List.length_drop, h.1], fun h0 => ?_⟩
    obtain ⟨b, o, hA, hlt, hc⟩ := h.2 (by omega)
    rw [if_neg (by omega), hA]
    refine ⟨b, o + l, by simp [Addr.add], hlt, fun j hj => ?_⟩
    rw [Nat.add_assoc, hc (l + j) (by omega)]
    simp [List.getD, List.getElem?_drop]
end Go.Proofs.YtaapbmdojkjphaaGreat
namespace Go.Proofs.YtaapbmdojkjphaaGreat
open Go Go.RowKit
set_option linter.unusedVariables false
set_option maxRecDepth 20000
def RoomN (w a : World) : Prop := Below w.heap.size w a ∧ w.heap.size < a.heap.size ∧ a.heap[w.heap.size]? = some (.cells #[.int .i64 0, .slice none 0 0, .int .i64 0, .int .i64 0, .slice none 0 0] 27 (0, 0))
section
variable {w a b : World}
theorem RoomN.base (h : RoomN w a) : Below w.heap.size w a := h.1
theorem RoomN.lt (h : RoomN w a) : w.heap.size < a.heap.size := h.2.1
theorem RoomN.is (h : RoomN w a) : a.heap[w.heap.size]? = some (.cells #[.int .i64 0, .slice none 0 0, .int .i64 0, .int .i64 0, .slice none 0 0] 27 (0, 0)) := h.2.2
theorem RoomN.start (w : World) : RoomN w (w.alloc (.cells #[.int .i64 0, .slice none 0 0, .int .i64 0, .int .i64 0, .slice none 0 0] 27)) := ⟨(Below.refl _ _).alloc (Nat.le_refl _) _, by simp, heap_alloc_new w _⟩
theorem RoomN.next (h : RoomN w a) {B : Nat} (hb : Below B a b) (hB : w.heap.size < B) : RoomN w b := ⟨h.1.trans (hb.mono (Nat.le_of_lt hB)), Nat.lt_of_lt_of_le h.2.1 hb.size, (hb.block _ hB).trans h.2.2⟩
theorem RoomN.over (h : RoomN w a) {r : Nat} (hr : w.heap.size < r) (hb : Below r a b) : RoomN w b := h.next hb hr
theorem RoomN.alloc (h : RoomN w a) (o : Obj) : RoomN w (a.alloc o) := h.next ((Below.refl _ _).alloc (Nat.le_refl _) o) h.2.1
theorem RoomN.put (h : RoomN w a) (v0 v1 v2 v3 v4 : Value) : Below w.heap.size w (put5 a w.heap.size v0 v1 v2 v3 v4) := h.1.trans (put5_below a (Nat.le_refl _) _ _ _ _ _)
theorem RoomN.facts (h : RoomN w a) : a.cell? ⟨w.heap.size, 0, none⟩ = some (.int .i64 0) ∧ a.cell? ⟨w.heap.size, 1, none⟩ = some (.slice none 0 0) ∧ a.cell? ⟨w.heap.size, 2, none⟩ = some (.int .i64 0) ∧ a.cell? ⟨w.heap.size, 3, none⟩ = some (.int .i64 0) ∧ a.cell? ⟨w.heap.size, 4, none⟩ = some (.slice none 0 0) ∧ ∀ j, a.frozen? ⟨w.heap.size, j, none⟩ = false := box_facts h.2.2
theorem RoomN.cells (h : RoomN w a) (v0 v1 v2 v3 v4 : Value) : (put5 a w.heap.size v0 v1 v2 v3 v4).cell? ⟨w.heap.size, 0, none⟩ = some v0 ∧ (put5 a w.heap.size v0 v1 v2 v3 v4).cell? ⟨w.heap.size, 1, none⟩ = some v1 ∧ (put5 a w.heap.size v0 v1 v2 v3 v4).cell? ⟨w.heap.size, 2, none⟩ = some v2 ∧ (put5 a w.heap.size v0 v1 v2 v3 v4).cell? ⟨w.heap.size, 3, none⟩ = some v3 ∧ (put5 a w.heap.size v0 v1 v2 v3 v4).cell? ⟨w.heap.size, 4, none⟩ = some v4 ∧ ∀ j, (put5 a w.heap.size v0 v1 v2 v3 v4).frozen? ⟨w.heap.size, j, none⟩ = false := box_facts (put5_heap h.2.2 _ _ _ _ _)
end
theorem info_sz {ty : TypeId} {z : Option Value} {s n : Nat} (h : (Tryz.prog.info? ty).map (fun i => (i.zero, i.size, i.bytes)) = some (z, s, n)) : (Tryz.prog.info? ty).map (·.size) = some s := by
  cases hi : Tryz.prog.info? ty with
  | none => rw [hi] at h; cases h
  | some i =>
    rw [hi] at h
    simp only [Option.map_some, Option.some.injEq, Prod.mk.injEq] at h ⊢
    exact h.2.1
theorem wpList_store_node {ops : Array Oper} {rest : List Oper} {op : Oper} {a : Act} {w : World} {Q : Exit → Act → World → Prop} (hgd : op.guard = none) (x y : Operand) (ho : op.op = .store 27 x y) (G : Nat) (n : NV) {v0 v1 v2 v3 v4 : Value} (hx : a.eval x = .pointer (some ⟨G, 0, none⟩)) (hy : a.eval y = n.val)
    (hG : w.heap[G]? = some (.cells #[v0, v1, v2, v3, v4] 27 (0, 0))) (h : ∀ w4, w4.heap[G]? = some (.cells #[.int .i64 n.op, .slice n.A n.ns n.cs, .int .i64 n.mn, .int .i64 n.mx, .slice n.D n.nk n.ck] 27 (0, 0)) → (∀ b, b ≠ G → w4.heap[b]? = w.heap[b]?) → w4.heap.size = w.heap.size → Below G w w4 → wpList Tryz.prog ops Q rest (a.put op.dst undef) w4) : wpList Tryz.prog ops Q (op :: rest) a w := by
  obtain ⟨c0, c1, c2, c3, c4, cf⟩ := box_facts hG
  refine wpList_store_mid hgd 27 x y ho G 0 #[.int .i64 n.op, .slice n.A n.ns n.cs, .int .i64 n.mn, .int .i64 n.mx, .slice n.D n.nk n.ck] hx hy (fun j hj => ?_) (info_sz info_node) (by simp [Value.oneCell']) ?_
  · have hj : j < 5 := hj
    refine ⟨?_, cf _⟩
    rcases (show j = 0 ∨ j = 1 ∨ j = 2 ∨ j = 3 ∨ j = 4 by omega) with rfl | rfl | rfl | rfl | rfl
    · rw [show 0 + 0 = 0 from rfl, c0]; rfl
    · rw [show 0 + 1 = 1 from rfl, c1]; rfl
    · rw [show 0 + 2 = 2 from rfl, c2]; rfl
    · rw [show 0 + 3 = 3 from rfl, c3]; rfl
    · rw [show 0 + 4 = 4 from rfl, c4]; rfl
  · exact h (put5 w G _ _ _ _ _) (put5_heap hG _ _ _ _ _) (fun b hb => put5_other w hb _ _ _ _ _) (put5_size _ _ _ _ _ _ _) (put5_below w (Nat.le_refl _) _ _ _ _ _)
def RParseV (s : ByteArray) (w : World) (e : Ending) (w' : World) : Prop :=
  Below w.heap.size w w' ∧ ((200 < s.size ∧ e = .returned (.tuple #[.agg #[.int .i64 0, .slice none 0 0, .int .i64 0, .int .i64 0, .slice none 0 0], .int .i64 16])) ∨ (s.size ≤ 200 ∧ parseT s = none ∧ e = .returned (.tuple #[.agg #[.int .i64 0, .slice none 0 0, .int .i64 0, .int .i64 0, .slice none 0 0], .int .i64 15])) ∨
    ∃ (x : NV) (n : Wood), s.size ≤ 200 ∧ parseT s = some n ∧ e = .returned (.tuple #[x.val, .int .i64 0]) ∧ NodesIn (fun _ => True) w' [x] n)
set_option maxHeartbeats 2000000 in
theorem rparse_big (s : ByteArray) (w : World) (hs : 200 < s.size) :
    Calls Tryz.prog 7 #[.string s] w (RParseV s w) := by
  have HR := Lib.hid (RoomN.start w)
  have h2 : (200 : Int) < (s.size : Int) := by omega
  go_enter Tryz.func7, Tryz.ntmps7
  go_wp2
  (try simp only [Exit.inBlock, Exit.then])
  refine bodyPost_ret (v := .tuple #[.agg #[.int .i64 0, .slice none 0 0, .int .i64 0, .int .i64 0, .slice none 0 0], .int .i64 16]) ?_ rfl ?_
  · rw [results_cell_tmp rfl]; go_simp
  · exact ⟨HR.out.base, .inl ⟨hs, rfl⟩⟩
set_option maxHeartbeats 4000000 in
theorem rparse_octets (s : ByteArray) (w : World) (hs : s.size ≤ 200) (hp : pointsL (nums s) = none) :
    Calls Tryz.prog 7 #[.string s] w (RParseV s w) := by
  have HR1 := Lib.hid (RoomN.start w)
  have h2 : ¬ (200 : Int) < (s.size : Int) := by omega
  have HD := Lib.hid fun w => show Calls Tryz.prog 16 #[.string s] w fun e w' => e = .returned (.tuple #[.slice none 0 0, .bool false]) ∧ Below w.heap.size w w' from (rpoints_any s w hs).mono fun e w' hv => by
    obtain ⟨hb, ⟨he, _⟩ | ⟨P, q, pc, xs, he, hx, ho⟩⟩ := hv
    · exact ⟨he, hb⟩
    · rw [hp] at hx; cases hx
  have HP := Lib.hid hp
  clear hp
  go_enter Tryz.func7, Tryz.ntmps7
  go_wp2_with (go_at_call 16; (with_reducible refine (HD.out _).mono ?_); rintro e w2 ⟨rfl, hb⟩; have HR2 := Lib.hid (HR1.out.next hb HR1.out.lt); clear hb)
  go_loopw [] (fun wr => wr = w2) (fun _ => 0)
  case atStart => rfl
  case round =>
    have hrel' := hrel
    subst hrel'
    have HR3 := Lib.hid (HR2.out.alloc (.cells #[.int .i64 0, .slice none 0 0, .int .i64 0, .int .i64 0, .slice none 0 0] 27))
    obtain ⟨q0, q1, q2, q3, q4, qf⟩ := HR3.out.facts
    go_wp2
    obtain ⟨z0, z1, z2, z3, z4, _⟩ := HR3.out.cells (.int .i64 0) (.slice none 0 0) (.int .i64 0) (.int .i64 0) (.slice none 0 0)
    simp only [put5] at z0 z1 z2 z3 z4
    (try simp only [Exit.inBlock, Exit.then])
    refine bodyPost_ret (v := .tuple #[.agg #[.int .i64 0, .slice none 0 0, .int .i64 0, .int .i64 0, .slice none 0 0], .int .i64 15]) ?_ rfl ?_
    · rw [results_cell_tmp rfl]; go_simp
    · exact ⟨HR3.out.put _ _ _ _ _, .inr (.inl ⟨hs, by unfold parseT; rw [HP.out]; rfl, rfl⟩)⟩
theorem tok_push {B q pc : Nat} {wr w1 : World} {P A : Option Addr} {m c : Nat} {xs : List TV} {t : TokL} (h : ToksG B wr P q pc xs) (hb : Below wr.heap.size wr w1) (ho : w1.ownsRow wr.heap.size 74 2 (.slice A m c) m (cellsG t.set)) (hq : q ≤ 100000) (hB : B ≤ wr.heap.size) :
    ∃ P' pc' w', (Builtin.append_ #[49, 49] 49 #[.slice P q pc, .slice (some ⟨w1.heap.size + 1, 0, none⟩) 1 1]).run Tryz.prog ((w1.alloc (.cells #[.int .i64 t.kind, .int .i64 t.r, .slice A m c, .int .i64 t.mn, .int .i64 t.mx] 51)).alloc (.cells #[.int .i64 t.kind, .int .i64 t.r, .slice A m c, .int .i64 t.mn, .int .i64 t.mx] 51)) = .ok (.slice P' (q + 1) pc') w' ∧
      ToksG B w' P' (q + 1) pc' (xs ++ [⟨t, A, m, c⟩]) ∧ Below B wr w' := by
  obtain ⟨X, hX⟩ : ∃ X, X = (w1.alloc (.cells #[.int .i64 t.kind, .int .i64 t.r, .slice A m c, .int .i64 t.mn, .int .i64 t.mx] 51)).alloc (.cells #[.int .i64 t.kind, .int .i64 t.r, .slice A m c, .int .i64 t.mn, .int .i64 t.mx] 51) := ⟨_, rfl⟩
  have hb1 : Below w1.heap.size w1 X := by rw [hX]; exact ((Below.refl _ _).alloc (Nat.le_refl _) _).alloc (by simp) _
  have hd : X.heap[w1.heap.size + 1]? = some (.cells #[.int .i64 t.kind, .int .i64 t.r, .slice A m c, .int .i64 t.mn, .int .i64 t.mx] 51 (0, 0)) := by
    rw [hX]
    exact hp_new (by simp)
  rw [← hX]
  have hrow : RowF (fun b => B ≤ b ∧ (Value.slice P q pc).ownBlock ≠ some b) w1 A m t.set := (rowF_own ho).move (Nat.le_refl _) fun b hF hlt => ⟨⟨by have hF : wr.heap.size ≤ b := hF; omega, fun e => by have := (row_lt h.1 e).2; have hF : wr.heap.size ≤ b := hF; omega⟩, rfl⟩
  obtain ⟨P', pc', w', h1, h2, h3⟩ := ((h.below hb).below hb1).push (x := ⟨t, A, m, c⟩) hd (hrow.below hb1) hq (Nat.le_trans hB (Nat.le_trans hb.size hb1.size))
  exact ⟨P', pc', w', h1, h2, ((hb.mono hB).trans (hb1.mono (Nat.le_trans hB hb.size))).trans h3⟩
set_option maxHeartbeats 8000000 in
theorem rparse_points (s : ByteArray) (w : World) (hs : s.size ≤ 200) {l : List Int} (hp : pointsL (nums s) = some l) :
    Calls Tryz.prog 7 #[.string s] w (RParseV s w) := by
  have HR1 := Lib.hid (RoomN.start w)
  have h2 : ¬ (200 : Int) < (s.size : Int) := by omega
  have hll : l.length ≤ 200 := by have := pointsL_len _ _ _ (Nat.le_refl _) hp; rw [nums_length] at this; omega
  have HD := Lib.hid fun w => show Calls Tryz.prog 16 #[.string s] w fun e w' => ∃ P q pc, e = .returned (.tuple #[.slice P q pc, .bool true]) ∧ w'.ownsRow w.heap.size 3 1 (.slice P q pc) q (l.map (.int .i64)) ∧ Below w.heap.size w w' from (rpoints_any s w hs).mono fun e w' hv => by
    obtain ⟨hb, ⟨_, hn⟩ | ⟨P, q, pc, xs, he, hx, ho⟩⟩ := hv
    · rw [hp] at hn; cases hn
    · rw [hp] at hx; injection hx with hx; subst hx
      exact ⟨P, q, pc, he, ho, hb⟩
  have HP := Lib.hid (And.intro hp (pointsL_is hp))
  have HT : Hid (∀ r, toksL l.length l = r → parseT s = r.bind fun ts => runT 0 ts [] .nil .nil false) := Lib.hid fun r hr => by
    unfold parseT
    rw [hp]
    show treeL l = _
    unfold treeL
    rw [hr]
  clear hp
  go_enter Tryz.func7, Tryz.ntmps7
  go_wp2_with (go_at_call 16; (with_reducible refine (HD.out _).mono ?_); rintro e w2 ⟨P0, q0, pc0, rfl, ho, hb⟩; have HR2 := Lib.hid (HR1.out.next hb HR1.out.lt); have HO := Lib.hid (ownI_row ho); clear ho hb)
  have hq0 : q0 ≤ 200 := by have := HO.out.1.1; omega
  go_loopw [4, 6] (fun vr vl wr => ∃ (n c q pc : Nat) (A P : Option Addr) (lr : List Int) (xs : List TV), vr = .slice A n c ∧ vl = .slice P q pc ∧ q + n ≤ 200 ∧
    Hid (Below w2.heap.size w2 wr ∧ RowI .i64 w2 A n lr ∧ n ≤ c ∧ (∀ x ∈ lr, 0 ≤ x ∧ x ≤ 1114111) ∧ ToksG w2.heap.size wr P q pc xs ∧ (∀ x ∈ xs, TokOk x.t) ∧ toksL l.length l = (toksL lr.length lr).map (fun ts => xs.map TV.t ++ ts))) (fun vr _ _ => match vr with | .slice _ n _ => n | _ => 0)
  case atStart => exact ⟨q0, pc0, 0, 0, P0, none, l, [], rfl, rfl, by omega, Lib.hid ⟨Below.refl _ _, HO.out.1, HO.out.2.1, HP.out.2, ToksG.start _ _, (fun x hx => by cases hx), by cases toksL l.length l <;> rfl⟩⟩
  case round =>
    obtain ⟨n, c, q, pc, A, P, lr, xs, rfl, rfl, hqn, H⟩ := hrel
    have HRr := Lib.hid (HR2.out.next H.out.1 HR2.out.lt)
    rcases Nat.eq_zero_or_pos n with h0 | h0
    · subst h0
      have hlr : lr = [] := List.eq_nil_of_length_eq_zero H.out.2.1.1
      have hts : toksL l.length l = some (xs.map TV.t) := by
        rw [H.out.2.2.2.2.2.2, hlr]
        show some (xs.map TV.t ++ []) = _
        rw [List.append_nil]
      have hpt := HT.out _ hts
      have HR3 := Lib.hid (HRr.out.alloc (.cells #[.int .i64 0, .slice none 0 0, .int .i64 0, .int .i64 0, .slice none 0 0] 27))
      have htk := H.out.2.2.2.2.1.toks
      have hTr := rtree_any 200 (xs.map TV.t) 0 P q pc (wr.alloc (.cells #[.int .i64 0, .slice none 0 0, .int .i64 0, .int .i64 0, .slice none 0 0] 27)) (fun b => w2.heap.size ≤ b ∧ b < wr.heap.size) (by rw [List.length_map, H.out.2.2.2.2.1.len]; omega) (fun b hb => by have hb := hb.2; simp; omega) (by omega) (htk.1.below ((Below.refl _ _).alloc (Nat.le_refl _) _)) (by omega) htk.2 (fun t ht => by obtain ⟨x, hx, rfl⟩ := List.mem_map.1 ht; exact H.out.2.2.2.2.2.1 x hx)
      have e0 : treeT 0 (xs.map TV.t) = parseT s := by rw [hpt]; exact if_neg (by omega)
      rw [e0, show ((0 : Nat) : Int) = 0 from rfl] at hTr
      clear hts htk e0 hpt hlr
      rcases hT : parseT s with _ | T
      · rw [hT] at hTr
        have HTr := Lib.hid hTr
        have HN := Lib.hid hT
        clear hTr hT
        go_wp2_with (first
          | (go_at_call 18; (with_reducible refine HTr.out.mono ?_); rintro e w3 ⟨rfl, hb⟩; have HBx := Lib.hid (show w3.heap[wr.heap.size]? = some (.cells #[.int .i64 0, .slice none 0 0, .int .i64 0, .int .i64 0, .slice none 0 0] 27 (0, 0)) from (hb.block _ (by simp)).trans (heap_alloc_new wr _)); have HR4 := Lib.hid (HR3.out.next hb HR3.out.lt); clear hb)
          | (refine wpList_store_node rfl (.tmp 9) (.tmp 45) rfl wr.heap.size ⟨0, none, 0, 0, 0, 0, none, 0, 0⟩ rfl rfl HBx.out ?_; intro w4 hb4 ho4 hs4 hw4; have HR5 := Lib.hid (HR4.out.over HRr.out.lt hw4); have HO4 := Lib.hid (And.intro ho4 hs4); obtain ⟨y0, y1, y2, y3, y4, yf⟩ := box_facts hb4; obtain ⟨r0, r1, r2, r3, r4, rf⟩ := HR5.out.facts; clear hb4 ho4 hs4 hw4))
        obtain ⟨z0, z1, z2, z3, z4, _⟩ := HR5.out.cells (.int .i64 0) (.slice none 0 0) (.int .i64 0) (.int .i64 0) (.slice none 0 0)
        simp only [put5] at z0 z1 z2 z3 z4
        (try simp only [Exit.inBlock, Exit.then])
        refine bodyPost_ret (v := .tuple #[.agg #[.int .i64 0, .slice none 0 0, .int .i64 0, .int .i64 0, .slice none 0 0], .int .i64 15]) ?_ rfl ?_
        · rw [results_cell_tmp rfl]; go_simp
        · exact ⟨HR5.out.put _ _ _ _ _, .inr (.inl ⟨hs, HN.out, rfl⟩)⟩
      · rw [hT] at hTr
        have HTr := Lib.hid hTr
        have HN := Lib.hid hT
        clear hTr hT
        go_wp2_with (first
          | (go_at_call 18; (with_reducible refine HTr.out.mono ?_); rintro e w3 ⟨⟨x, rfl, hN⟩, hb⟩; have HBx := Lib.hid (show w3.heap[wr.heap.size]? = some (.cells #[.int .i64 0, .slice none 0 0, .int .i64 0, .int .i64 0, .slice none 0 0] 27 (0, 0)) from (hb.block _ (by simp)).trans (heap_alloc_new wr _)); have HR4 := Lib.hid (HR3.out.next hb HR3.out.lt); clear hb; have HNx := Lib.hid hN; clear hN; simp only [NV.val])
          | (refine wpList_store_node rfl (.tmp 9) (.tmp 45) rfl wr.heap.size x rfl rfl HBx.out ?_; intro w4 hb4 ho4 hs4 hw4; have HR5 := Lib.hid (HR4.out.over HRr.out.lt hw4); have HO4 := Lib.hid (And.intro ho4 hs4); obtain ⟨y0, y1, y2, y3, y4, yf⟩ := box_facts hb4; obtain ⟨r0, r1, r2, r3, r4, rf⟩ := HR5.out.facts; clear hb4 ho4 hs4 hw4))
        obtain ⟨z0, z1, z2, z3, z4, _⟩ := HR5.out.cells (.int .i64 x.op) (.slice x.A x.ns x.cs) (.int .i64 x.mn) (.int .i64 x.mx) (.slice x.D x.nk x.ck)
        simp only [put5] at z0 z1 z2 z3 z4
        (try simp only [Exit.inBlock, Exit.then])
        refine bodyPost_ret (v := .tuple #[x.val, .int .i64 0]) ?_ rfl ?_
        · rw [results_cell_tmp rfl]; go_simp
          rfl
        · refine ⟨HR5.out.put _ _ _ _ _, .inr (.inr ⟨x, T, hs, HN.out, rfl, HNx.out.move (by show w3.heap.size ≤ (put5 w4 _ _ _ _ _ _).heap.size; rw [put5_size]; exact Nat.le_of_eq HO4.out.2.symm) fun b hF hlt => ⟨trivial, ?_⟩⟩)⟩
          have h1 := HRr.out.lt
          have hsz : (wr.alloc (.cells #[.int .i64 0, .slice none 0 0, .int .i64 0, .int .i64 0, .slice none 0 0] 27)).heap.size = wr.heap.size + 1 := by simp
          rcases hF with hF2 | hF
          · have hF := hF2
            have h3 := HR2.out.lt
            have hF := hF.1
            exact (put5_other w4 (by omega) _ _ _ _ _).trans (HO4.out.1 b (by have := hF2.2; omega))
          · exact (put5_other w4 (by omega) _ _ _ _ _).trans (HO4.out.1 b (by omega))
    · have hl0 : lr ≠ [] := fun e => by have := H.out.2.1.1; rw [e] at this; simp at this; omega
      have HTk := Lib.hid (rtok_any lr hl0 A n c wr (H.out.2.1.below H.out.1 (Nat.le_refl _)) (by omega) H.out.2.2.1 H.out.2.2.2.1)
      have n0 : (0 : Int) < (n : Int) := by omega
      rcases hT : tokL lr with _ | ⟨t, rest⟩
      · have HX := Lib.hid hT
        have HN := Lib.hid (show parseT s = none by
          refine (HT.out none ?_)
          rw [H.out.2.2.2.2.2.2]
          rcases lr with _ | ⟨r, lr⟩
          · exact absurd rfl hl0
          · rw [toksL_none hT]; rfl)
        clear hT hl0
        go_wp2_with (go_at_call 17; (with_reducible refine HTk.out.mono ?_); rintro e w3 ⟨hv, hb⟩; unfold tokR at hv; rw [HX.out] at hv; dsimp only at hv; subst hv; have HR3 := Lib.hid (HRr.out.next hb HRr.out.lt); have y := (fun o => box_facts (NodeAlloc HR3.out.is o)); have y0 := fun o => (y o).1; have y1 := fun o => (y o).2.1; have y2 := fun o => (y o).2.2.1; have y3 := fun o => (y o).2.2.2.1; have y4 := fun o => (y o).2.2.2.2.1; have yf := fun o => (y o).2.2.2.2.2; clear y hb)
        have HR4 := Lib.hid (HR3.out.alloc (.cells #[.int .i64 0, .int .i64 0, .slice none 0 0, .int .i64 0, .int .i64 0] 51))
        obtain ⟨z0, z1, z2, z3, z4, _⟩ := HR4.out.cells (.int .i64 0) (.slice none 0 0) (.int .i64 0) (.int .i64 0) (.slice none 0 0)
        simp only [put5] at z0 z1 z2 z3 z4
        (try simp only [Exit.inBlock, Exit.then])
        refine bodyPost_ret (v := .tuple #[.agg #[.int .i64 0, .slice none 0 0, .int .i64 0, .int .i64 0, .slice none 0 0], .int .i64 15]) ?_ rfl ?_
        · rw [results_cell_tmp rfl]; go_simp
        · exact ⟨HR4.out.put _ _ _ _ _, .inr (.inl ⟨hs, HN.out, rfl⟩)⟩
      · have HX := Lib.hid hT
        have hto := tokL_ok hT
        have htl : toksL lr.length lr = (toksL rest.length rest).map fun ts => t :: ts := by
          rcases lr with _ | ⟨r, lr⟩
          · exact absurd rfl hl0
          · exact toksL_some hT
        have HTL := Lib.hid (And.intro hto htl)
        clear hT hl0 hto htl
        go_wp2_with (first
          | (go_at_call 17; (with_reducible refine HTk.out.mono ?_); rintro e w3 ⟨hv, hb⟩; unfold tokR at hv; rw [HX.out] at hv; dsimp only at hv; obtain ⟨A', m, c', k, rfl, hk1, hk2, hk3, ho⟩ := hv; unfold tokV; have hkn : k ≤ n := (by have := H.out.2.1.1; omega); have HK := Lib.hid (And.intro hk1 (And.intro hkn hk3)); have k0 : ¬ (k : Int) = 0 := (by omega); have k1 : ((k : Int) == 0) = false := (by simpa using k0); obtain ⟨A2, hcut, hrc⟩ := cutI_from A n c k hkn; have HRC := Lib.hid hrc; have HPu := Lib.hid (tok_push H.out.2.2.2.2.1 hb ho (by omega) H.out.1.size); obtain ⟨P', pc', w', HA⟩ : ∃ P' pc' w', Hid ((Builtin.append_ #[49, 49] 49 #[.slice P q pc, .slice (some ⟨w3.heap.size + 1, 0, none⟩) 1 1]).run Tryz.prog ((w3.alloc (.cells #[.int .i64 t.kind, .int .i64 t.r, .slice A' m c', .int .i64 t.mn, .int .i64 t.mx] 51)).alloc (.cells #[.int .i64 t.kind, .int .i64 t.r, .slice A' m c', .int .i64 t.mn, .int .i64 t.mx] 51)) = .ok (.slice P' (q + 1) pc') w' ∧ ToksG w2.heap.size w' P' (q + 1) pc' (xs ++ [⟨t, A', m, c'⟩]) ∧ Below w2.heap.size wr w') := (by obtain ⟨P', pc', w', h⟩ := HPu.out; exact ⟨P', pc', w', Lib.hid h⟩); clear hb ho hk1 hkn hk2 hk3 hrc HPu)
          | (at_builtin; refine wpList_append_run rfl _ _ 49 rfl rfl _ _ _ _ rfl rfl HA.out.1 ?_))
        have hkk := HK.out
        refine ⟨⟨n - k, c - k, q + 1, pc', A2, P', rest, xs ++ [⟨t, A', m, c'⟩], rfl, rfl, by omega, Lib.hid ⟨H.out.1.trans HA.out.2.2, ?_, by have := H.out.2.2.1; omega, fun x hx => ?_, HA.out.2.1, fun x hx => ?_, ?_⟩⟩, by show n - k < n; omega⟩
        · rw [hkk.2.2]; exact HRC.out w2 lr H.out.2.1 H.out.2.2.1
        · rw [hkk.2.2] at hx; exact H.out.2.2.2.1 x (List.mem_of_mem_drop hx)
        · rcases List.mem_append.1 hx with hx | hx
          · exact H.out.2.2.2.2.2.1 x hx
          · rw [List.mem_singleton] at hx; subst hx; exact HTL.out.1
        · rw [H.out.2.2.2.2.2.2, HTL.out.2]
          cases toksL rest.length rest with
          | none => rfl
          | some r => simp
theorem rparse_any (s : ByteArray) (w : World) : Calls Tryz.prog 7 #[.string s] w (RParseV s w) := by
  by_cases hs : 200 < s.size
  · exact rparse_big s w hs
  · rcases hp : pointsL (nums s) with _ | l
    · exact rparse_octets s w (by omega) hp
    · exact rparse_points s w (by omega) hp
end Go.Proofs.YtaapbmdojkjphaaGreat
namespace Go.Proofs.YtaapbmdojkjphaaGreat
open Go Go.RowKit
set_option linter.unusedVariables false
theorem canonF_len : ∀ {s : List (Int × Int)} {lo : Int}, 0 ≤ lo → CanonF lo s → s = [] ∨ 2 * (s.length : Int) + lo ≤ 1114113
  | [], _, _, _ => .inl rfl
  | p :: s, lo, h0, ⟨h1, h2, h3, h4⟩ => by
    refine .inr ?_
    have := canonF_len (by omega) h4
    rw [List.length_cons]
    rcases this with rfl | this
    · simp; omega
    · push_cast; omega
theorem canon_len {s : List (Int × Int)} (h : Canon s) : s.length ≤ 600000 := by
  rcases canonF_len (Int.le_refl 0) h with rfl | h
  · simp
  · omega
def CntOk (mn mx : Int) : Prop := 0 ≤ mn ∧ mn ≤ 50 ∧ (mx = -1 ∨ mn ≤ mx ∧ mx ≤ 50)
def TokQ (t : TokL) : Prop := t.set.length ≤ 600000 ∧ CntOk t.mn t.mx
theorem cnt0 : CntOk 0 0 := ⟨by decide, by decide, .inr ⟨by decide, by decide⟩⟩
theorem tokS_q {r : Int} : TokQ (tokS r) := ⟨Nat.zero_le _, cnt0⟩
theorem tokC_q {s : List (Int × Int)} (h : s.length ≤ 600000) : TokQ (tokC s) := ⟨h, cnt0⟩
theorem tokN_q {a b : Int} (h : CntOk a b) : TokQ (tokN a b) := ⟨Nat.zero_le _, h⟩
theorem numL_q {l r : List Int} {a : Int} (h : numL l = some (a, r)) : 0 ≤ a ∧ a ≤ 50 := by
  unfold numL at h
  repeat' split at h
  all_goals first
    | (cases h; done)
    | (injection h with h; injection h with h _; subst h
       simp only [isDig, Bool.and_eq_true, decide_eq_true_eq] at *
       omega)
theorem braceL_q {l r : List Int} {t : TokL} (h : braceL l = some (t, r)) : TokQ t := by
  unfold braceL at h
  split at h
  · rename_i h1
    injection h with h; injection h with h _; subst h
    have := numL_q h1
    exact tokN_q ⟨this.1, this.2, .inr ⟨Int.le_refl _, this.2⟩⟩
  · rename_i h1
    injection h with h; injection h with h _; subst h
    have := numL_q h1
    exact tokN_q ⟨this.1, this.2, .inl rfl⟩
  · rename_i h1
    have k1 := numL_q h1
    split at h
    · rename_i h2
      have k2 := numL_q h2
      split at h
      · cases h
      · injection h with h; injection h with h _; subst h
        exact tokN_q ⟨k1.1, k1.2, .inr ⟨by omega, k2.2⟩⟩
    · cases h
  · cases h
theorem namedS_q (r : Int) : (namedS r).length ≤ 4 := by
  unfold namedS
  split
  · decide
  · split
    · decide
    · split <;> decide
theorem escL_q {r : Int} {s : List (Int × Int)} {b : Bool} (h : escL r = some (s, b)) : s.length ≤ 600000 := by
  unfold escL at h
  repeat' split at h
  all_goals first
    | (cases h; done)
    | (injection h with h; injection h with h _; subst h; first | exact canon_len (setOf_canon _) | exact Nat.le_trans (namedS_q r) (by decide) | exact (show 1 ≤ 600000 by decide))
theorem classL_q {l r : List Int} {s : List (Int × Int)} (h : classL l = some (s, r)) : s.length ≤ 600000 := by
  unfold classL at h
  split at h
  · obtain ⟨p, _, h⟩ := Option.map_eq_some_iff.1 h
    injection h with h _; subst h
    exact canon_len (setOf_canon _)
  · obtain ⟨p, _, h⟩ := Option.map_eq_some_iff.1 h
    injection h with h _; subst h
    exact canon_len (setOf_canon _)
theorem tokL_q {l r : List Int} {t : TokL} (h : tokL l = some (t, r)) : TokQ t := by
  cases l with
  | nil => cases h
  | cons c l =>
    rw [tokL.eq_def] at h
    dsimp only at h
    repeat' split at h
    all_goals first
      | (injection h with h; injection h with h _; subst h; first | exact tokS_q | exact tokN_q ⟨by decide, by decide, .inl rfl⟩ | exact tokN_q ⟨by decide, by decide, .inr ⟨by decide, by decide⟩⟩ | exact tokC_q (show 2 ≤ 600000 by decide) | exact tokC_q (show 1 ≤ 600000 by decide))
      | exact braceL_q h
      | (cases h; done)
      | skip
    · obtain ⟨⟨s, q⟩, h1, h⟩ := Option.map_eq_some_iff.1 h
      injection h with h _; subst h
      exact tokC_q (classL_q h1)
    · obtain ⟨⟨s, b⟩, h1, h⟩ := Option.map_eq_some_iff.1 h
      injection h with h _; subst h
      exact tokC_q (escL_q h1)
theorem toksL_q : ∀ (f : Nat) (l : List Int) (ts : List TokL), toksL f l = some ts → ts.length ≤ l.length ∧ ∀ t ∈ ts, TokQ t
  | _, [], ts, h => by
    rw [toksL] at h
    injection h with h; subst h
    exact ⟨Nat.le_refl _, fun t ht => nomatch ht⟩
  | 0, _ :: _, _, h => by cases h
  | f + 1, r :: l, ts, h => by
    rw [toksL] at h
    split at h
    · cases h
    · rename_i t l' ht
      obtain ⟨us, hu, h⟩ := Option.map_eq_some_iff.1 h
      subst h
      have h1 := tokL_lt ht
      obtain ⟨h2, h3⟩ := toksL_q f l' us hu
      refine ⟨by rw [List.length_cons]; omega, fun u hu => ?_⟩
      rcases List.mem_cons.1 hu with rfl | hu
      · exact tokL_q ht
      · exact h3 u hu
def QW (T : Wood) : Prop := TreeOk T ∧ LenOk T
theorem treeOk_app : ∀ {a b : Wood}, TreeOk a → TreeOk b → TreeOk (a.app b)
  | .nil, _, _, h => h
  | .cons .., _, ⟨h1, h2, h3, h4⟩, hb => ⟨h1, h2, h3, treeOk_app h4 hb⟩
theorem lenOk_app : ∀ {a b : Wood}, LenOk a → LenOk b → LenOk (a.app b)
  | .nil, _, _, h => h
  | .cons .., _, ⟨h1, h2, h3, h4, h5⟩, hb => ⟨h1, h2, h3, h4, lenOk_app h5 hb⟩
theorem QW.app {a b : Wood} (h : QW a) (k : QW b) : QW (a.app b) := ⟨treeOk_app h.1 k.1, lenOk_app h.2 k.2⟩
theorem QW.nil : QW .nil := ⟨trivial, trivial⟩
theorem q_leaf {op : Int} {s : List (Int × Int)} (h : op = 0 ∨ op = 1 ∨ op = 2 ∨ op = 3) (hs : s.length ≤ 600000) : QW (leaf op s) :=
  ⟨⟨by omega, by omega, trivial, trivial⟩, by show (0 : Nat) ≤ 1000; omega, fun h => by omega, fun h => by omega, trivial, trivial⟩
theorem q_one {op : Int} (h : op = 4 ∨ op = 5) : ∀ {l : Wood}, QW l → l.len ≤ 1000 → QW (oneN op l) ∧ (oneN op l).len = 1
  | .nil, _, _ => ⟨q_leaf (.inl rfl) (Nat.zero_le _), rfl⟩
  | .cons o s a z k .nil, h', _ => ⟨h', rfl⟩
  | .cons o s a z k (.cons o' s' a' z' k' x), h', hl => ⟨⟨⟨by omega, Nat.zero_le _, h'.1, trivial⟩, hl, fun _ => by simp only [Wood.len]; omega, fun h6 => by omega, h'.2, trivial⟩, rfl⟩
theorem q_rep {mn mx : Int} (hc : CntOk mn mx) : ∀ {p : Wood}, QW p → QW (repLast mn mx p) ∧ (repLast mn mx p).len = p.len
  | .nil, h => ⟨h, rfl⟩
  | .cons o s a z k .nil, h' => ⟨⟨⟨by omega, Nat.zero_le _, h'.1, trivial⟩, by show (1 : Nat) ≤ 1000; omega, fun h5 => by omega, fun _ => ⟨hc.1, by have := hc.2.1; omega, by have := hc.2.2; omega⟩, h'.2, trivial⟩, rfl⟩
  | .cons o s a z k (.cons o' s' a' z' k' x), ⟨⟨h1, h2, h3, h4⟩, ⟨k1, k2, k3, k4, k5⟩⟩ => by
    have := q_rep hc (p := .cons o' s' a' z' k' x) ⟨h4, k5⟩
    rw [repLast.eq_3 _ _ _ _ _ _ _ _ (by intro e; cases e)]
    exact ⟨⟨⟨h1, h2, h3, this.1.1⟩, k1, k2, k3, k4, this.1.2⟩, by simp only [Wood.len] at this ⊢; omega⟩
theorem q_fin {a p : Wood} (ha : QW a) (hp : QW p) (hal : a.len ≤ 900) (hpl : p.len ≤ 900) : QW (finN a p) ∧ (finN a p).len = 1 := by
  obtain ⟨h1, h2⟩ := q_one (Or.inl rfl) hp (by omega)
  exact q_one (op := 5) (Or.inr rfl) (ha.app h1) (by rw [Wood.len_app]; omega)
theorem runT_q (D : Nat) : ∀ (ts : List TokL) (st : List (Wood × Wood)) (a p : Wood) (lo : Bool) (T : Wood) (L : Nat), L + ts.length ≤ 800 → (∀ t ∈ ts, TokQ t) → (∀ q ∈ st, (QW q.1 ∧ q.1.len ≤ L) ∧ (QW q.2 ∧ q.2.len ≤ L)) → (QW a ∧ a.len ≤ L) → (QW p ∧ p.len ≤ L) → runT D ts st a p lo = some T → QW T ∧ T.len = 1
  | [], [], a, p, lo, T, L, hL, _, _, ha, hp, h => by
    rw [runT] at h
    injection h with h; subst h
    exact q_fin ha.1 hp.1 (by simp at hL; omega) (by simp at hL; omega)
  | [], _ :: _, _, _, _, _, _, _, _, _, _, _, h => by cases h
  | t :: ts, st, a, p, lo, T, L, hL, ht, hst, ha, hp, h => by
    obtain ⟨hs, hc⟩ := ht t (by simp)
    rw [List.length_cons] at hL
    have ih := fun st a p lo h1 h2 h3 => runT_q D ts st a p lo T (L + 1) (by omega) (fun t h => ht t (by simp [h])) h1 h2 h3
    have hst' : ∀ q ∈ st, (QW q.1 ∧ q.1.len ≤ L + 1) ∧ (QW q.2 ∧ q.2.len ≤ L + 1) := fun q hq => by
      obtain ⟨⟨h1, h2⟩, h3, h4⟩ := hst q hq
      exact ⟨⟨h1, by omega⟩, h3, by omega⟩
    have ha' : QW a ∧ a.len ≤ L + 1 := ⟨ha.1, by omega⟩
    have one1 : ∀ {q : Wood}, q.len = 1 → QW q → QW (p.app q) ∧ (p.app q).len ≤ L + 1 := fun h1 h2 => ⟨hp.1.app h2, by rw [Wood.len_app]; omega⟩
    have nl : QW .nil ∧ Wood.nil.len ≤ L + 1 := ⟨QW.nil, Nat.zero_le _⟩
    rw [runT.eq_def] at h
    dsimp only at h
    split at h
    · exact ih _ _ _ _ hst' ha' (one1 rfl (q_leaf (.inr (.inl rfl)) hs)) h
    · split at h
      · split at h
        · have k := q_rep hc hp.1
          exact ih _ _ _ _ hst' ha' ⟨k.1, by omega⟩ h
        · cases h
      · split at h
        · have k := q_one (op := 4) (Or.inl rfl) hp.1 (by omega)
          exact ih _ _ _ _ hst' ⟨ha.1.app k.1, by rw [Wood.len_app]; omega⟩ nl h
        · split at h
          · exact ih _ _ _ _ hst' ha' (one1 rfl (q_leaf (.inr (.inr (.inl rfl))) (Nat.zero_le _))) h
          · split at h
            · exact ih _ _ _ _ hst' ha' (one1 rfl (q_leaf (.inr (.inr (.inr rfl))) (Nat.zero_le _))) h
            · split at h
              · cases st with
                | nil => cases h
                | cons q st =>
                  obtain ⟨a', p'⟩ := q
                  have k := q_fin ha.1 hp.1 (by omega) (by omega)
                  have q := hst (a', p') (by simp)
                  exact ih _ _ _ _ (fun q hq => hst' q (by simp [hq])) ⟨q.1.1, by have := q.1.2; simp at this; omega⟩ ⟨q.2.1.app k.1, by rw [Wood.len_app]; have := q.2.2; simp at this; omega⟩ h
              · split at h
                · exact ih _ _ _ _ (fun q hq => by
                    rcases List.mem_cons.1 hq with rfl | hq
                    · exact ⟨⟨ha.1, by have := ha.2; simp; omega⟩, hp.1, by have := hp.2; simp; omega⟩
                    · exact hst' q hq) nl nl h
                · cases h
theorem parseT_q {s : ByteArray} {T : Wood} (hs : s.size ≤ 200) (h : parseT s = some T) : TreeOk T ∧ LenOk T ∧ T.len = 1 := by
  unfold parseT at h
  obtain ⟨l, h1, h2⟩ := Option.bind_eq_some_iff.1 h
  have h3 := pointsL_len _ _ _ (Nat.le_refl _) h1
  rw [nums_length] at h3
  unfold treeL at h2
  obtain ⟨ts, h4, h5⟩ := Option.bind_eq_some_iff.1 h2
  obtain ⟨k1, k2⟩ := toksL_q _ _ _ h4
  obtain ⟨i1, i2⟩ := runT_q 0 ts [] .nil .nil false T 0 (by omega) k2 (fun q hq => by cases hq) ⟨QW.nil, Nat.le_refl _⟩ ⟨QW.nil, Nat.le_refl _⟩ h5
  exact ⟨i1.1, i1.2, i2⟩
end Go.Proofs.YtaapbmdojkjphaaGreat
namespace Go.Proofs.YtaapbmdojkjphaaGreat
open Go Go.RowKit
set_option linter.unusedVariables false
set_option maxRecDepth 20000
def plainFs (cs : List Int) (i : Nat) : Nat → List InstL := charF [(cs.getD i 0, cs.getD i 0)]
theorem leafs_nth : ∀ (cs : List Int) (j : Nat), j < cs.length → (leafs cs).nth j = leaf 1 [(cs.getD j 0, cs.getD j 0)]
  | [], j, h => by simp at h
  | c :: cs, 0, _ => rfl
  | c :: cs, j + 1, h => by
    have := leafs_nth cs j (by simpa using h)
    rw [leafs, Wood.nth, this]
    rfl
theorem cnt_leafs : ∀ cs, cntW (leafs cs) = cs.length
  | [] => rfl
  | c :: cs => by
    rw [leafs, cntW, cnt_leafs cs, List.length_cons, show opCnt 1 0 0 Wood.nil.len (cntW .nil) = 1 from rfl]
    omega
theorem cnt_plain {cs : List Int} (h : cs ≠ []) : cntW (finN .nil (leafs cs)) = cs.length := by
  rw [fin_letters cs h]
  split
  · exact cnt_leafs cs
  · rw [cntW, cnt_leafs]; rfl
theorem plain_tree {B g : Nat} {w0 : World} (hBw : B ≤ w0.heap.size) {x : NV} {cs : List Int} (h0 : cs ≠ []) (h20 : cs.length ≤ 200) (h : NodesIn (fun b => b < B) w0 [x] (finN .nil (leafs cs))) : TreeX B g w0 x.val (rowCode (plainFs cs) cs.length) := by
  have h1 := h.one
  rw [fin_letters cs h0] at h1
  by_cases hl : cs.length = 1
  · rw [if_pos hl] at h1
    obtain ⟨c, rfl⟩ := List.length_eq_one_iff.1 hl
    have := kid_charX (g := g) hBw (s := [(c, c)]) (by simp) h1
    have e : rowCode (plainFs [c]) [c].length = charF [(c, c)] := by
      funext q
      rfl
    rw [e]
    exact this
  · rw [if_neg hl] at h1
    obtain ⟨op, s', mn', mx', k, A, D, ns, cs', nk, ck, e, hx, hr, hk⟩ := h1
    injection e with e1 e2 e3 e4 e5 _
    subst e1; subst e2; subst e3; subst e4; subst e5
    rw [hx]
    have hnk : nk = cs.length := by rw [← hk.1, leafs_len]
    subst hnk
    exact tree_catX hBw (row_addsX hk (by omega) hBw (plainFs cs) fun j hj v hv => kid_charX hBw (by simp) (by rw [leafs_nth cs j hj] at hv; exact hv))
theorem plain_codes (cs : List Int) : rowCode (plainFs cs) cs.length 0 = plainI 0 cs := by
  have := row_plain cs 0 cs.length (Nat.le_refl _)
  rw [List.take_length] at this
  exact this
theorem plain_compile {F : Nat → Prop} {w1 : World} {x : NV} {cs : List Int} (h0 : cs ≠ []) (h20 : cs.length ≤ 200) (h : NodesIn F w1 [x] (finN .nil (leafs cs))) (ho : TreeOk (finN .nil (leafs cs))) (hl : LenOk (finN .nil (leafs cs))) : ∀ w2, Below w1.heap.size w1 w2 →
    Calls Tryz.prog 20 #[.agg #[.int .i64 x.op, .slice x.A x.ns x.cs, .int .i64 x.mn, .int .i64 x.mx, .slice x.D x.nk x.ck]] w2 fun e w' => ∃ P pc l, e = .returned (.tuple #[.slice P (cs.length + 1) pc, .int .i64 0]) ∧ InsF (fun b => w2.heap.size ≤ b) w' P (cs.length + 1) l ∧ codes l = plainP cs ∧ Below w2.heap.size w2 w' := fun w2 hb => by
  have h2 : NodesIn (fun b => b < w2.heap.size) w2 [x] (finN .nil (leafs cs)) := h.move hb.size fun b _ hlt => ⟨Nat.lt_of_lt_of_le hlt hb.size, hb.block b hlt⟩
  have hc := cnt_plain h0
  have hL := len_anyP _ _ (Nat.le_refl _) _ h2.one ho hl
  rw [hc, show min cs.length bigN = cs.length from Nat.min_eq_left (Nat.le_trans h20 (by decide))] at hL
  have := compile_X (f := rowCode (plainFs cs) cs.length) (by rw [plain_codes, plainI_len]) (by omega) (fun v hv => by
    rw [plain_codes] at hv
    obtain ⟨i, hi⟩ := List.getElem?_of_mem hv
    rw [plainI_at] at hi
    obtain ⟨c, _, e⟩ := Option.map_eq_some_iff.1 hi
    rw [← e]
    show (1 : Nat) ≤ 2000000
    omega) hL fun g => plain_tree (Nat.le_refl _) h0 h20 h2
  rw [plain_codes] at this
  exact this
end Go.Proofs.YtaapbmdojkjphaaGreat
