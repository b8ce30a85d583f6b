/- The document's braces: the second count. -/
import Derived.Test.YtbhbdhjkicmecaaM02
import Derived.Test.YtbhbdhjkicmecaaM05
import Derived.Test.YtbhbdhjkicmecaaM07
import Derived.Test.YtbhbdhjkicmecaaM08
import Derived.Test.YtbhbdhjkicmecaaM10
import Derived.BigQuiet
import Derived.Deep.RegionHeldLaw
namespace Go.Proofs.Ytbhbdhjkicmecaa
open Go Go.RowKit
set_option linter.unusedVariables false
set_option maxRecDepth 20000

/-- What stands behind the comma is read as a count. -/
theorem rbrace_head2 {l l' : List Int} {a : Int} {b o n c : Nat} {W : World} {k : Nat} (hr : RowI .i64 W (some ⟨b, o, none⟩) n l) (hn : n ≤ 1000) (hd : 44 :: l' = l.drop k) (hk : k + (44 :: l').length = n) :
    Hid (∀ w, Below W.heap.size W w → Calls Try.prog 37 #[.slice (some ⟨b, o + (k + 1), none⟩) (n - (k + 1)) (c - (k + 1))] w fun e w' => e = .returned (.tuple #[.int .i64 (numV l').1, .int .i64 (numV l').2]) ∧ w = w') := by
  have h1 := rowI_from hr (m := k + 1) (by rw [List.length_cons] at hk; omega)
  have h2 : l.drop (k + 1) = l' := by
    rw [show l.drop (k + 1) = (l.drop k).drop 1 by rw [List.drop_drop], ← hd]; rfl
  rw [h2] at h1
  exact Lib.hid fun w h => rnum_any l' _ _ _ w (h1.below h (Nat.le_refl _)) (by omega)

set_option maxHeartbeats 4000000 in
theorem rbrace_no2 (l r' : List Int) (a y : Int) (hy : y ≠ 125) (A : Option Addr) (n c : Nat) (W : World) (hr : RowI .i64 W A n l) (hn : n ≤ 1000) (hnc : n ≤ c) (hl : numL l = some (a, 44 :: y :: r')) (h2 : numL (y :: r') = none) :
    Calls Try.prog 21 #[.slice A n c] W fun e w' => braceR l e ∧ Below W.heap.size W w' := by
  have HB := Lib.hid (show braceL l = none by unfold braceL; rw [hl]; simp [hy, h2])
  obtain ⟨k, b, o, k1, k2, rfl, hb, hkn, a0, a1, hdr, hc, HX⟩ := rbrace_head (c := c) hr hn hl
  have HY := rbrace_head2 (a := a) (c := c) hr hn hdr hkn
  rw [numL_none h2] at HY
  clear hdr
  rw [List.length_cons] at hkn
  have hk : ¬ (k : Int) = 0 := by omega
  have kb : ((k : Int) == 0) = false := by simpa using hk
  have hkn2 : (k : Int) < (n : Int) := by omega
  have c0 := hc 0 (by omega)
  rw [Nat.add_zero, show (44 :: y :: r').getD 0 0 = 44 from rfl] at c0
  rw [List.length_cons] at hkn
  have c1 := hc 1 (by omega)
  rw [show (44 :: y :: r').getD 1 0 = y from rfl] at c1
  have c2 := c1
  rw [← Nat.add_assoc] at c2
  have e1 : (y == 125) = false := by simpa using hy
  have hkn3 : (k : Int) + 1 < (n : Int) := by omega
  clear hr hl hc hkn h2
  go_enter Try.func21, Try.ntmps21
  go_wp2_with (fail)
  with_reducible refine (HX.out _ ((Below.refl _ _).alloc (Nat.le_refl _) _)).mono ?_
  rintro e w1 ⟨rfl, rfl⟩
  go_wp2_with (fail)
  with_reducible refine (HY.out _ ((Below.refl _ _).alloc (Nat.le_refl _) _)).mono ?_
  rintro e w1 ⟨rfl, rfl⟩
  go_wp2_with (fail)
  refine bodyPost_ret (v := .tuple #[.agg #[.int .i64 0, .int .i64 0, .slice none 0 0, .int .i64 0, .int .i64 0], .int .i64 0]) ?_ rfl ⟨?_, by go_grown⟩
  · rw [results_cell_tmp rfl]; go_simp
  · unfold braceR; rw [HB.out]

set_option maxHeartbeats 4000000 in
theorem rbrace_less (l r' : List Int) (a y : Int) (z : Int) (q : List Int) (hy : y ≠ 125) (A : Option Addr) (n c : Nat) (W : World) (hr : RowI .i64 W A n l) (hn : n ≤ 1000) (hnc : n ≤ c) (hl : numL l = some (a, 44 :: y :: r')) (h2 : numL (y :: r') = some (z, q)) (hz : z < a) :
    Calls Try.prog 21 #[.slice A n c] W fun e w' => braceR l e ∧ Below W.heap.size W w' := by
  have HB := Lib.hid (show braceL l = none by
    unfold braceL; rw [hl]
    rcases q with _ | ⟨x, q⟩
    · simp [hy, h2]
    · by_cases hx : x = 125
      · subst hx; simp [hy, h2, hz]
      · simp [hy, h2, hx])
  obtain ⟨k, b, o, k1, k2, rfl, hb, hkn, a0, a1, hdr, hc, HX⟩ := rbrace_head (c := c) hr hn hl
  have HY := rbrace_head2 (a := a) (c := c) hr hn hdr hkn
  obtain ⟨m, m1, m2, g1, g2, z0, z1, hv⟩ := numL_rest h2
  rw [hv] at HY
  rw [List.length_cons] at g2
  clear hdr
  rw [List.length_cons] at hkn
  have hk : ¬ (k : Int) = 0 := by omega
  have kb : ((k : Int) == 0) = false := by simpa using hk
  have hkn2 : (k : Int) < (n : Int) := by omega
  have c0 := hc 0 (by omega)
  rw [Nat.add_zero, show (44 :: y :: r').getD 0 0 = 44 from rfl] at c0
  rw [List.length_cons] at hkn
  have c1 := hc 1 (by omega)
  rw [show (44 :: y :: r').getD 1 0 = y from rfl] at c1
  have c2 := c1
  rw [← Nat.add_assoc] at c2
  have e1 : (y == 125) = false := by simpa using hy
  have hkn3 : (k : Int) + 1 < (n : Int) := by omega
  have hm : ¬ (m : Int) = 0 := by omega
  have mb : ((m : Int) == 0) = false := by simpa using hm
  clear hr hl hc hkn h2 g1 g2
  go_enter Try.func21, Try.ntmps21
  go_wp2_with (fail)
  with_reducible refine (HX.out _ ((Below.refl _ _).alloc (Nat.le_refl _) _)).mono ?_
  rintro e w1 ⟨rfl, rfl⟩
  go_wp2_with (fail)
  with_reducible refine (HY.out _ ((Below.refl _ _).alloc (Nat.le_refl _) _)).mono ?_
  rintro e w1 ⟨rfl, rfl⟩
  go_wp2_with (fail)
  refine bodyPost_ret (v := .tuple #[.agg #[.int .i64 0, .int .i64 0, .slice none 0 0, .int .i64 0, .int .i64 0], .int .i64 0]) ?_ rfl ⟨?_, by go_grown⟩
  · rw [results_cell_tmp rfl]; go_simp
  · unfold braceR; rw [HB.out]

set_option maxHeartbeats 4000000 in
theorem rbrace_end2 (l r' : List Int) (a y : Int) (z : Int) (hy : y ≠ 125) (A : Option Addr) (n c : Nat) (W : World) (hr : RowI .i64 W A n l) (hn : n ≤ 1000) (hnc : n ≤ c) (hl : numL l = some (a, 44 :: y :: r')) (h2 : numL (y :: r') = some (z, [])) (hz : a ≤ z) :
    Calls Try.prog 21 #[.slice A n c] W fun e w' => braceR l e ∧ Below W.heap.size W w' := by
  have HB := Lib.hid (show braceL l = none by unfold braceL; rw [hl]; simp [hy, h2])
  obtain ⟨k, b, o, k1, k2, rfl, hb, hkn, a0, a1, hdr, hc, HX⟩ := rbrace_head (c := c) hr hn hl
  have HY := rbrace_head2 (a := a) (c := c) hr hn hdr hkn
  obtain ⟨m, m1, m2, g1, g2, z0, z1, hv⟩ := numL_rest h2
  rw [hv] at HY
  rw [List.length_cons] at g2
  clear hdr
  rw [List.length_cons] at hkn
  have hk : ¬ (k : Int) = 0 := by omega
  have kb : ((k : Int) == 0) = false := by simpa using hk
  have hkn2 : (k : Int) < (n : Int) := by omega
  have c0 := hc 0 (by omega)
  rw [Nat.add_zero, show (44 :: y :: r').getD 0 0 = 44 from rfl] at c0
  rw [List.length_cons] at hkn
  have c1 := hc 1 (by omega)
  rw [show (44 :: y :: r').getD 1 0 = y from rfl] at c1
  have c2 := c1
  rw [← Nat.add_assoc] at c2
  have e1 : (y == 125) = false := by simpa using hy
  have hkn3 : (k : Int) + 1 < (n : Int) := by omega
  have hm : ¬ (m : Int) = 0 := by omega
  have mb : ((m : Int) == 0) = false := by simpa using hm
  have hx1 : (n : Int) ≤ (k : Int) + 1 + (m : Int) := by rw [List.length_nil] at g2; omega
  have hz2 : ¬ z < a := by omega
  clear hr hl hc hkn h2 g1 g2
  go_enter Try.func21, Try.ntmps21
  go_wp2_with (fail)
  with_reducible refine (HX.out _ ((Below.refl _ _).alloc (Nat.le_refl _) _)).mono ?_
  rintro e w1 ⟨rfl, rfl⟩
  go_wp2_with (fail)
  with_reducible refine (HY.out _ ((Below.refl _ _).alloc (Nat.le_refl _) _)).mono ?_
  rintro e w1 ⟨rfl, rfl⟩
  go_wp2_with (fail)
  refine bodyPost_ret (v := .tuple #[.agg #[.int .i64 0, .int .i64 0, .slice none 0 0, .int .i64 0, .int .i64 0], .int .i64 0]) ?_ rfl ⟨?_, by go_grown⟩
  · rw [results_cell_tmp rfl]; go_simp
  · unfold braceR; rw [HB.out]

set_option maxHeartbeats 4000000 in
theorem rbrace_oth2 (l r' : List Int) (a y : Int) (z x : Int) (q : List Int) (hx : x ≠ 125) (hy : y ≠ 125) (A : Option Addr) (n c : Nat) (W : World) (hr : RowI .i64 W A n l) (hn : n ≤ 1000) (hnc : n ≤ c) (hl : numL l = some (a, 44 :: y :: r')) (h2 : numL (y :: r') = some (z, x :: q)) (hz : a ≤ z) :
    Calls Try.prog 21 #[.slice A n c] W fun e w' => braceR l e ∧ Below W.heap.size W w' := by
  have HB := Lib.hid (show braceL l = none by unfold braceL; rw [hl]; simp [hy, h2, hx])
  obtain ⟨k, b, o, k1, k2, rfl, hb, hkn, a0, a1, hdr, hc, HX⟩ := rbrace_head (c := c) hr hn hl
  have HY := rbrace_head2 (a := a) (c := c) hr hn hdr hkn
  obtain ⟨m, m1, m2, g1, g2, z0, z1, hv⟩ := numL_rest h2
  rw [hv] at HY
  rw [List.length_cons] at g2
  clear hdr
  rw [List.length_cons] at hkn
  have hk : ¬ (k : Int) = 0 := by omega
  have kb : ((k : Int) == 0) = false := by simpa using hk
  have hkn2 : (k : Int) < (n : Int) := by omega
  have c0 := hc 0 (by omega)
  rw [Nat.add_zero, show (44 :: y :: r').getD 0 0 = 44 from rfl] at c0
  rw [List.length_cons] at hkn
  have c1 := hc 1 (by omega)
  rw [show (44 :: y :: r').getD 1 0 = y from rfl] at c1
  have c2 := c1
  rw [← Nat.add_assoc] at c2
  have e1 : (y == 125) = false := by simpa using hy
  have hkn3 : (k : Int) + 1 < (n : Int) := by omega
  have hm : ¬ (m : Int) = 0 := by omega
  have mb : ((m : Int) == 0) = false := by simpa using hm
  have hx1 : (k : Int) + 1 + (m : Int) < (n : Int) := by rw [List.length_cons] at g2; omega
  have hx2 := hc (1 + m) (by omega)
  rw [show (44 :: y :: r').getD (1 + m) 0 = x by rw [Nat.add_comm]; show (y :: r').getD m 0 = x; have g3 := congrArg (fun t => t.getD 0 0) g1; simpa [List.getD, List.getElem?_drop] using g3.symm] at hx2
  have hx3 := hx2
  rw [← Nat.add_assoc] at hx2
  rw [← Nat.add_assoc, ← Nat.add_assoc] at hx3
  have hx4 := hx3
  rw [Nat.add_assoc, Nat.add_assoc, ← Nat.add_assoc k] at hx4
  have hz2 : ¬ z < a := by omega
  have e3 : (x != 125) = true := by simpa using hx
  clear hr hl hc hkn h2 g1 g2
  go_enter Try.func21, Try.ntmps21
  go_wp2_with (fail)
  with_reducible refine (HX.out _ ((Below.refl _ _).alloc (Nat.le_refl _) _)).mono ?_
  rintro e w1 ⟨rfl, rfl⟩
  go_wp2_with (fail)
  with_reducible refine (HY.out _ ((Below.refl _ _).alloc (Nat.le_refl _) _)).mono ?_
  rintro e w1 ⟨rfl, rfl⟩
  go_wp2_with (fail)
  refine bodyPost_ret (v := .tuple #[.agg #[.int .i64 0, .int .i64 0, .slice none 0 0, .int .i64 0, .int .i64 0], .int .i64 0]) ?_ rfl ⟨?_, by go_grown⟩
  · rw [results_cell_tmp rfl]; go_simp
  · unfold braceR; rw [HB.out]

set_option maxHeartbeats 4000000 in
theorem rbrace_shut2 (l r' : List Int) (a y : Int) (z : Int) (q : List Int) (hy : y ≠ 125) (A : Option Addr) (n c : Nat) (W : World) (hr : RowI .i64 W A n l) (hn : n ≤ 1000) (hnc : n ≤ c) (hl : numL l = some (a, 44 :: y :: r')) (h2 : numL (y :: r') = some (z, 125 :: q)) (hz : a ≤ z) :
    Calls Try.prog 21 #[.slice A n c] W fun e w' => braceR l e ∧ Below W.heap.size W w' := by
  have HB := Lib.hid (show braceL l = some (tokN a z, q) by unfold braceL; rw [hl]; simp [hy, h2, show ¬ z < a by omega])
  obtain ⟨k, b, o, k1, k2, rfl, hb, hkn, a0, a1, hdr, hc, HX⟩ := rbrace_head (c := c) hr hn hl
  have HY := rbrace_head2 (a := a) (c := c) hr hn hdr hkn
  obtain ⟨m, m1, m2, g1, g2, z0, z1, hv⟩ := numL_rest h2
  rw [hv] at HY
  rw [List.length_cons] at g2
  clear hdr
  rw [List.length_cons] at hkn
  have hk : ¬ (k : Int) = 0 := by omega
  have kb : ((k : Int) == 0) = false := by simpa using hk
  have hkn2 : (k : Int) < (n : Int) := by omega
  have c0 := hc 0 (by omega)
  rw [Nat.add_zero, show (44 :: y :: r').getD 0 0 = 44 from rfl] at c0
  rw [List.length_cons] at hkn
  have c1 := hc 1 (by omega)
  rw [show (44 :: y :: r').getD 1 0 = y from rfl] at c1
  have c2 := c1
  rw [← Nat.add_assoc] at c2
  have e1 : (y == 125) = false := by simpa using hy
  have hkn3 : (k : Int) + 1 < (n : Int) := by omega
  have hm : ¬ (m : Int) = 0 := by omega
  have mb : ((m : Int) == 0) = false := by simpa using hm
  have hx1 : (k : Int) + 1 + (m : Int) < (n : Int) := by rw [List.length_cons] at g2; omega
  have hx2 := hc (1 + m) (by omega)
  rw [show (44 :: y :: r').getD (1 + m) 0 = 125 by rw [Nat.add_comm]; show (y :: r').getD m 0 = 125; have g3 := congrArg (fun t => t.getD 0 0) g1; simpa [List.getD, List.getElem?_drop] using g3.symm] at hx2
  have hx3 := hx2
  rw [← Nat.add_assoc] at hx2
  rw [← Nat.add_assoc, ← Nat.add_assoc] at hx3
  have hx4 := hx3
  rw [Nat.add_assoc, Nat.add_assoc, ← Nat.add_assoc k] at hx4
  have hz2 : ¬ z < a := by omega
  have HLN := Lib.hid (show (k + m + 2) + q.length = l.length by have := hr.1; rw [List.length_cons] at g2; omega)
  clear hr hl hc hkn h2 g1 g2
  go_enter Try.func21, Try.ntmps21
  go_wp2_with (fail)
  with_reducible refine (HX.out _ ((Below.refl _ _).alloc (Nat.le_refl _) _)).mono ?_
  rintro e w1 ⟨rfl, rfl⟩
  go_wp2_with (fail)
  with_reducible refine (HY.out _ ((Below.refl _ _).alloc (Nat.le_refl _) _)).mono ?_
  rintro e w1 ⟨rfl, rfl⟩
  go_wp2_with (fail)
  refine bodyPost_ret (v := .tuple #[.agg #[.int .i64 2, .int .i64 0, .slice none 0 0, .int .i64 a, .int .i64 z], .int .i64 ((k : Int) + (m : Int) + 2)]) ?_ rfl ⟨?_, by go_grown⟩
  · rw [results_cell_tmp rfl]; go_simp
  · unfold braceR; rw [HB.out]; exact ⟨k + m + 2, HLN.out, by omega, by rw [show ((k + m + 2 : Nat) : Int) = (k : Int) + (m : Int) + 2 by omega]; rfl⟩

/-- A count behind its brace. -/
theorem rbrace_any (l : List Int) (A : Option Addr) (n c : Nat) (W : World) (hr : RowI .i64 W A n l) (hn : n ≤ 1000) (hnc : n ≤ c) :
    Calls Try.prog 21 #[.slice A n c] W fun e w' => braceR l e ∧ Below W.heap.size W w' := by
  rcases hl : numL l with _ | ⟨a, _ | ⟨x, r⟩⟩
  · exact rbrace_none l A n c W hr hn hl
  · exact rbrace_end l a A n c W hr hn hl
  · by_cases h1 : x = 125
    · subst h1; exact rbrace_shut l r a A n c W hr hn hl
    · by_cases h2 : x = 44
      · subst h2
        rcases r with _ | ⟨y, r⟩
        · exact rbrace_comma l [] a A n c W hr hn hl
        · by_cases hy : y = 125
          · subst hy; exact rbrace_open l r a A n c W hr hn hl
          · rcases h3 : numL (y :: r) with _ | ⟨z, q⟩
            · exact rbrace_no2 l r a y hy A n c W hr hn hnc hl h3
            · by_cases hz : z < a
              · exact rbrace_less l r a y z q hy A n c W hr hn hnc hl h3 hz
              · rcases q with _ | ⟨x, q⟩
                · exact rbrace_end2 l r a y z hy A n c W hr hn hnc hl h3 (by omega)
                · by_cases hx : x = 125
                  · subst hx; exact rbrace_shut2 l r a y z q hy A n c W hr hn hnc hl h3 (by omega)
                  · exact rbrace_oth2 l r a y z x q hx hy A n c W hr hn hnc hl h3 (by omega)
      · exact rbrace_other l r a x h1 h2 A n c W hr hn hl
end Go.Proofs.Ytbhbdhjkicmecaa
/- The document's token. -/
namespace Go.Proofs.Ytbhbdhjkicmecaa
open Go Go.RowKit
set_option linter.unusedVariables false
set_option maxRecDepth 20000

/-- What the document's token answers. -/
def tokR (W w' : World) (e : Ending) (l : List Int) : Prop :=
  match tokL l with
  | none => e = .returned (.tuple #[.agg #[.int .i64 0, .int .i64 0, .slice none 0 0, .int .i64 0, .int .i64 0], .int .i64 0])
  | some (t, rest) => ∃ (A : Option Addr) (n c k : Nat), e = .returned (.tuple #[tokV t A n c, .int .i64 (k : Int)]) ∧ 1 ≤ k ∧ k ≤ l.length ∧ rest = l.drop k ∧ w'.ownsRow W.heap.size 58 2 (.slice A n c) n (cellsG t.set)
theorem tokR_none {W w' : World} {l : List Int} (h : tokL l = none) : tokR W w' (.returned (.tuple #[.agg #[.int .i64 0, .int .i64 0, .slice none 0 0, .int .i64 0, .int .i64 0], .int .i64 0])) l := by
  unfold tokR; rw [h]
theorem tokR_some {W w' : World} {l : List Int} {t : TokL} {rest : List Int} {A : Option Addr} {n c k : Nat} (h : tokL l = some (t, rest)) (h1 : 1 ≤ k) (h2 : k ≤ l.length) (h3 : rest = l.drop k) (ho : w'.ownsRow W.heap.size 58 2 (.slice A n c) n (cellsG t.set)) :
    tokR W w' (.returned (.tuple #[.agg #[.int .i64 t.kind, .int .i64 t.r, .slice A n c, .int .i64 t.mn, .int .i64 t.mx], .int .i64 (k : Int)])) l := by
  unfold tokR; rw [h]; exact ⟨A, n, c, k, rfl, h1, h2, h3, ho⟩

set_option maxHeartbeats 2000000 in
theorem rtok_sign (r : Int) (l : List Int) (hs : r = 124 ∨ r = 40 ∨ r = 41 ∨ r = 94 ∨ r = 36) (A : Option Addr) (n c : Nat) (W : World) (hr : RowI .i64 W A n (r :: l)) :
    Calls Try.prog 11 #[.slice A n c] W fun e w' => tokR W w' e (r :: l) ∧ Below W.heap.size W w' := by
  have hn : 0 < n := by have := hr.1; rw [List.length_cons] at this; omega
  obtain ⟨b, o, rfl, hb, hc⟩ := hr.2 hn
  have c0 : W.cell? ⟨b, o, none⟩ = some (.int .i64 r) := hc 0 hn
  clear hc hr
  rcases hs with rfl | rfl | rfl | rfl | rfl
  all_goals
    go_enter Try.func11, Try.ntmps11
    go_wp2
    first
      | (refine bodyPost_ret (v := .tuple #[.agg #[.int .i64 1, .int .i64 124, .slice none 0 0, .int .i64 0, .int .i64 (0)], .int .i64 1]) ?_ rfl ⟨tokR_some (l := 124 :: l) (k := 1) rfl (by omega) (by rw [List.length_cons]; omega) rfl (nilG _ _), by first | exact Below.refl _ _ | exact (Below.refl _ _).alloc (Nat.le_refl _) _⟩; rw [results_cell_tmp rfl]; go_simp)
      | (refine bodyPost_ret (v := .tuple #[.agg #[.int .i64 1, .int .i64 40, .slice none 0 0, .int .i64 0, .int .i64 (0)], .int .i64 1]) ?_ rfl ⟨tokR_some (l := 40 :: l) (k := 1) rfl (by omega) (by rw [List.length_cons]; omega) rfl (nilG _ _), by first | exact Below.refl _ _ | exact (Below.refl _ _).alloc (Nat.le_refl _) _⟩; rw [results_cell_tmp rfl]; go_simp)
      | (refine bodyPost_ret (v := .tuple #[.agg #[.int .i64 1, .int .i64 41, .slice none 0 0, .int .i64 0, .int .i64 (0)], .int .i64 1]) ?_ rfl ⟨tokR_some (l := 41 :: l) (k := 1) rfl (by omega) (by rw [List.length_cons]; omega) rfl (nilG _ _), by first | exact Below.refl _ _ | exact (Below.refl _ _).alloc (Nat.le_refl _) _⟩; rw [results_cell_tmp rfl]; go_simp)
      | (refine bodyPost_ret (v := .tuple #[.agg #[.int .i64 1, .int .i64 94, .slice none 0 0, .int .i64 0, .int .i64 (0)], .int .i64 1]) ?_ rfl ⟨tokR_some (l := 94 :: l) (k := 1) rfl (by omega) (by rw [List.length_cons]; omega) rfl (nilG _ _), by first | exact Below.refl _ _ | exact (Below.refl _ _).alloc (Nat.le_refl _) _⟩; rw [results_cell_tmp rfl]; go_simp)
      | (refine bodyPost_ret (v := .tuple #[.agg #[.int .i64 1, .int .i64 36, .slice none 0 0, .int .i64 0, .int .i64 (0)], .int .i64 1]) ?_ rfl ⟨tokR_some (l := 36 :: l) (k := 1) rfl (by omega) (by rw [List.length_cons]; omega) rfl (nilG _ _), by first | exact Below.refl _ _ | exact (Below.refl _ _).alloc (Nat.le_refl _) _⟩; rw [results_cell_tmp rfl]; go_simp)
set_option maxHeartbeats 2000000 in
theorem rtok_count (r : Int) (l : List Int) (hs : r = 42 ∨ r = 43 ∨ r = 63) (A : Option Addr) (n c : Nat) (W : World) (hr : RowI .i64 W A n (r :: l)) :
    Calls Try.prog 11 #[.slice A n c] W fun e w' => tokR W w' e (r :: l) ∧ Below W.heap.size W w' := by
  have hn : 0 < n := by have := hr.1; rw [List.length_cons] at this; omega
  obtain ⟨b, o, rfl, hb, hc⟩ := hr.2 hn
  have c0 : W.cell? ⟨b, o, none⟩ = some (.int .i64 r) := hc 0 hn
  clear hc hr
  rcases hs with rfl | rfl | rfl
  all_goals
    go_enter Try.func11, Try.ntmps11
    go_wp2
    first
      | (refine bodyPost_ret (v := .tuple #[.agg #[.int .i64 2, .int .i64 0, .slice none 0 0, .int .i64 0, .int .i64 (-1)], .int .i64 1]) ?_ rfl ⟨tokR_some (l := 42 :: l) (k := 1) rfl (by omega) (by rw [List.length_cons]; omega) rfl (nilG _ _), by first | exact Below.refl _ _ | exact (Below.refl _ _).alloc (Nat.le_refl _) _⟩; rw [results_cell_tmp rfl]; go_simp)
      | (refine bodyPost_ret (v := .tuple #[.agg #[.int .i64 2, .int .i64 0, .slice none 0 0, .int .i64 1, .int .i64 (-1)], .int .i64 1]) ?_ rfl ⟨tokR_some (l := 43 :: l) (k := 1) rfl (by omega) (by rw [List.length_cons]; omega) rfl (nilG _ _), by first | exact Below.refl _ _ | exact (Below.refl _ _).alloc (Nat.le_refl _) _⟩; rw [results_cell_tmp rfl]; go_simp)
      | (refine bodyPost_ret (v := .tuple #[.agg #[.int .i64 2, .int .i64 0, .slice none 0 0, .int .i64 0, .int .i64 (1)], .int .i64 1]) ?_ rfl ⟨tokR_some (l := 63 :: l) (k := 1) rfl (by omega) (by rw [List.length_cons]; omega) rfl (nilG _ _), by first | exact Below.refl _ _ | exact (Below.refl _ _).alloc (Nat.le_refl _) _⟩; rw [results_cell_tmp rfl]; go_simp)
set_option maxHeartbeats 2000000 in
theorem rtok_no (r : Int) (l : List Int) (hs : r = 93 ∨ r = 125) (A : Option Addr) (n c : Nat) (W : World) (hr : RowI .i64 W A n (r :: l)) :
    Calls Try.prog 11 #[.slice A n c] W fun e w' => tokR W w' e (r :: l) ∧ Below W.heap.size W w' := by
  have hn : 0 < n := by have := hr.1; rw [List.length_cons] at this; omega
  obtain ⟨b, o, rfl, hb, hc⟩ := hr.2 hn
  have c0 : W.cell? ⟨b, o, none⟩ = some (.int .i64 r) := hc 0 hn
  clear hc hr
  rcases hs with rfl | rfl
  all_goals
    go_enter Try.func11, Try.ntmps11
    go_wp2
    refine bodyPost_ret (v := .tuple #[.agg #[.int .i64 0, .int .i64 0, .slice none 0 0, .int .i64 0, .int .i64 0], .int .i64 0]) ?_ rfl ⟨tokR_none rfl, by first | exact Below.refl _ _ | exact (Below.refl _ _).alloc (Nat.le_refl _) _⟩
    rw [results_cell_tmp rfl]
    go_simp
end Go.Proofs.Ytbhbdhjkicmecaa
/- The document's token: braces, points, classes, what stands behind a backslash. -/
namespace Go.Proofs.Ytbhbdhjkicmecaa
open Go Go.RowKit
set_option linter.unusedVariables false
set_option maxRecDepth 20000

/-- The cells of a block of one token. -/
theorem boxT_facts {w : World} {r : Nat} {v0 v1 v2 v3 v4 : Value} (h : w.heap[r]? = some (.cells #[v0, v1, v2, v3, v4] 44 (0, 0))) :
    w.cell? ⟨r, 0, none⟩ = some v0 ∧ w.cell? ⟨r, 1, none⟩ = some v1 ∧ w.cell? ⟨r, 2, none⟩ = some v2 ∧ w.cell? ⟨r, 3, none⟩ = some v3 ∧ w.cell? ⟨r, 4, none⟩ = some v4 ∧ ∀ j, w.frozen? ⟨r, j, none⟩ = false :=
  ⟨cell_of_row w r 0 _ _ (0, 0) h, cell_of_row w r 1 _ _ (0, 0) h, cell_of_row w r 2 _ _ (0, 0) h, cell_of_row w r 3 _ _ (0, 0) h, cell_of_row w r 4 _ _ (0, 0) h, fun j => by simp [World.frozen?, h]⟩
theorem put5T_heap {w : World} {r : Nat} {v0 v1 v2 v3 v4 : Value} (h : w.heap[r]? = some (.cells #[v0, v1, v2, v3, v4] 44 (0, 0))) (a b c d e : Value) : (put5 w r a b c d e).heap[r]? = some (.cells #[a, b, c, d, e] 44 (0, 0)) :=
  heap_setCell_same _ r 4 _ _ _ (heap_setCell_same _ r 3 _ _ _ (heap_setCell_same _ r 2 _ _ _ (heap_setCell_same _ r 1 _ _ _ (heap_setCell_same _ r 0 _ _ _ h))))
def zeroT : Array Value := #[.int .i64 0, .int .i64 0, .slice none 0 0, .int .i64 0, .int .i64 0]
/-- A room for a token was made first; nothing that was there has turned since. -/
def RoomT (w a : World) : Prop := Below w.heap.size w a ∧ w.heap.size < a.heap.size ∧ a.heap[w.heap.size]? = some (.cells #[.int .i64 0, .int .i64 0, .slice none 0 0, .int .i64 0, .int .i64 0] 44 (0, 0))
section
variable {w a b : World}
theorem RoomT.start (w : World) : RoomT w (w.alloc (.cells #[.int .i64 0, .int .i64 0, .slice none 0 0, .int .i64 0, .int .i64 0] 44)) :=
  ⟨(Below.refl _ _).alloc (Nat.le_refl _) _, by simp, heap_alloc_new w _⟩
theorem RoomT.below (h : RoomT w a) (hb : Below a.heap.size a b) : RoomT w b :=
  ⟨h.1.trans (hb.mono (Nat.le_of_lt h.2.1)), Nat.lt_of_lt_of_le h.2.1 hb.size, (hb.block _ h.2.1).trans h.2.2⟩
theorem RoomT.base (h : RoomT w a) : Below w.heap.size w a := h.1
theorem RoomT.lt (h : RoomT w a) : w.heap.size < a.heap.size := h.2.1
theorem RoomT.alloc (h : RoomT w a) (o : Obj) : RoomT w (a.alloc o) := h.below ((Below.refl _ _).alloc (Nat.le_refl _) o)
theorem RoomT.facts (h : RoomT w a) : a.cell? ⟨w.heap.size, 0, none⟩ = some (.int .i64 0) ∧ a.cell? ⟨w.heap.size, 1, none⟩ = some (.int .i64 0) ∧ a.cell? ⟨w.heap.size, 2, none⟩ = some (.slice none 0 0) ∧ a.cell? ⟨w.heap.size, 3, none⟩ = some (.int .i64 0) ∧ a.cell? ⟨w.heap.size, 4, none⟩ = some (.int .i64 0) ∧ ∀ j, a.frozen? ⟨w.heap.size, j, none⟩ = false := boxT_facts h.2.2
theorem RoomT.cells (h : RoomT w a) (v0 v1 v2 v3 v4 : Value) : (put5 a w.heap.size v0 v1 v2 v3 v4).cell? ⟨w.heap.size, 0, none⟩ = some v0 ∧ (put5 a w.heap.size v0 v1 v2 v3 v4).cell? ⟨w.heap.size, 1, none⟩ = some v1 ∧ (put5 a w.heap.size v0 v1 v2 v3 v4).cell? ⟨w.heap.size, 2, none⟩ = some v2 ∧ (put5 a w.heap.size v0 v1 v2 v3 v4).cell? ⟨w.heap.size, 3, none⟩ = some v3 ∧ (put5 a w.heap.size v0 v1 v2 v3 v4).cell? ⟨w.heap.size, 4, none⟩ = some v4 ∧ ∀ j, (put5 a w.heap.size v0 v1 v2 v3 v4).frozen? ⟨w.heap.size, j, none⟩ = false := boxT_facts (put5T_heap h.2.2 _ _ _ _ _)
theorem RoomT.put (h : RoomT w a) (v0 v1 v2 v3 v4 : Value) : Below w.heap.size w (put5 a w.heap.size v0 v1 v2 v3 v4) := h.1.trans (put5_below a (Nat.le_refl _) _ _ _ _ _)
/-- A row made since stays where the room is filled. -/
theorem RoomT.own (h : RoomT w a) {P : Option Addr} {q pc B : Nat} {s : List (Int × Int)} (hB : w.heap.size < B) (ho : a.ownsRow B 58 2 (.slice P q pc) q (cellsG s)) (v0 v1 v2 v3 v4 : Value) : (put5 a w.heap.size v0 v1 v2 v3 v4).ownsRow w.heap.size 58 2 (.slice P q pc) q (cellsG s) := by
  have h1 : (put5 a w.heap.size v0 v1 v2 v3 v4).ownsRow B 58 2 (.slice P q pc) q (cellsG s) := row_keep ho fun k hk hv => put5_other a (r := w.heap.size) (by have := (row_lt ho hv).1; omega) _ _ _ _ _
  exact row_base h1 fun j hj => by have := (row_lt h1 hj).1; omega
end
/-- The rest of a count is what is left of the code points. -/
theorem braceL_drop {l rest : List Int} {t : TokL} (h : braceL l = some (t, rest)) : rest = l.drop (l.length - rest.length) := by
  have key : ∀ (k : Nat) (q l : List Int), q = l.drop k → k + q.length = l.length → q = l.drop (l.length - q.length) := fun k q l h1 h2 => by
    rw [show l.length - q.length = k by omega]; exact h1
  have cons : ∀ (x : Int) (q l : List Int) (k : Nat), x :: q = l.drop k → k + (x :: q).length = l.length → q = l.drop (k + 1) ∧ k + 1 + q.length = l.length := fun x q l k h1 h2 => by
    refine ⟨?_, by rw [List.length_cons] at h2; omega⟩
    rw [show l.drop (k + 1) = (l.drop k).drop 1 by rw [List.drop_drop], ← h1]; rfl
  unfold braceL at h
  split at h
  · rename_i a l' h1
    injection h with h; injection h with _ h; subst h
    obtain ⟨k, _, _, e1, e2, _⟩ := numL_rest h1
    obtain ⟨f1, f2⟩ := cons _ _ _ _ e1 e2
    exact key _ _ _ f1 f2
  · rename_i a l' h1
    injection h with h; injection h with _ h; subst h
    obtain ⟨k, _, _, e1, e2, _⟩ := numL_rest h1
    obtain ⟨f1, f2⟩ := cons _ _ _ _ e1 e2
    obtain ⟨f1, f2⟩ := cons _ _ _ _ f1 f2
    exact key _ _ _ f1 f2
  · rename_i a l' _ h1
    split at h
    · rename_i b l'' h2
      split at h
      · cases h
      · injection h with h; injection h with _ h; subst h
        obtain ⟨k, _, _, e1, e2, _⟩ := numL_rest h1
        obtain ⟨f1, f2⟩ := cons _ _ _ _ e1 e2
        obtain ⟨m, _, _, g1, g2, _⟩ := numL_rest h2
        have g1' : 125 :: l'' = l.drop (k + 1 + m) := by rw [g1, f1, List.drop_drop]
        obtain ⟨f1, f2⟩ := cons _ _ _ _ g1' (by omega)
        exact key _ _ _ f1 f2
    · cases h
  · cases h
theorem braceL_set {l rest : List Int} {t : TokL} (h : braceL l = some (t, rest)) : t.set = [] := by
  unfold braceL at h
  split at h
  · injection h with h; injection h with h _; subst h; rfl
  · injection h with h; injection h with h _; subst h; rfl
  · split at h
    · split at h
      · cases h
      · injection h with h; injection h with h _; subst h; rfl
    · cases h
  · cases h

/-- Where the place behind the first code point lies. -/
theorem tail_row {W : World} {b o n c : Nat} {r : Int} {l : List Int} (hr : RowI .i64 W (some ⟨b, o, none⟩) n (r :: l)) : RowI .i64 W (some ⟨b, o + 1, none⟩) (n - 1) l ∧ (n = 1 → RowI .i64 W (some ⟨b, o, none⟩) 0 l) := by
  have hl := hr.1
  rw [List.length_cons] at hl
  refine ⟨by simpa [Addr.add] using rowI_from hr (m := 1) (by omega), fun h => ?_⟩
  have : l = [] := List.eq_nil_of_length_eq_zero (by omega)
  subst this
  exact ⟨rfl, fun h => absurd h (by omega)⟩

set_option maxHeartbeats 2000000 in
theorem rtok_brace (l : List Int) (A : Option Addr) (n c : Nat) (W : World) (hr : RowI .i64 W A n (123 :: l)) (hn : n ≤ 1000) (hnc : n ≤ c) :
    Calls Try.prog 11 #[.slice A n c] W fun e w' => tokR W w' e (123 :: l) ∧ Below W.heap.size W w' := by
  have hlen := hr.1
  rw [List.length_cons] at hlen
  have hn0 : 0 < n := by omega
  obtain ⟨b, o, rfl, hb, hc⟩ := hr.2 hn0
  have c0 : W.cell? ⟨b, o, none⟩ = some (.int .i64 123) := hc 0 hn0
  have HS := Lib.hid (RoomT.start W)
  have HP : Hid (∀ A' n' c' w, Below W.heap.size W w → RowI .i64 W A' n' l → n' ≤ 1000 → n' ≤ c' → Calls Try.prog 21 #[.slice A' n' c'] w fun e w' => braceR l e ∧ Below w.heap.size w w') := Lib.hid fun A' n' c' w h h' h1 h2 => rbrace_any l A' n' c' w (h'.below h (Nat.le_refl _)) h1 h2
  have HR := Lib.hid (tail_row (c := c) hr)
  have HL := Lib.hid hlen
  clear hr hc hlen
  rcases hbr : braceL l with _ | ⟨t, rest⟩
  · have HB := Lib.hid hbr
    clear hbr
    by_cases hc1 : 1 < c
    · go_enter Try.func11, Try.ntmps11
      go_wp2_with (go_at_call 21; (with_reducible refine (HP.out _ _ _ _ HS.out.base HR.out.1 (by omega) (by omega)).mono ?_); rintro e w1 ⟨hv, hb1⟩; unfold braceR at hv; rw [HB.out] at hv; dsimp only at hv; subst hv; have HS1 := Lib.hid (HS.out.below hb1); have HS2 := Lib.hid (HS1.out.alloc (.cells #[.int .i64 0, .int .i64 0, .slice none 0 0, .int .i64 0, .int .i64 0] 44)); obtain ⟨q0, q1, q2, q3, q4, qf⟩ := HS2.out.facts; clear hb1)
      obtain ⟨z0, z1, z2, z3, z4, _⟩ := HS2.out.cells (.int .i64 0) (.int .i64 0) (.slice none 0 0) (.int .i64 0) (.int .i64 0)
      simp only [put5] at z0 z1 z2 z3 z4
      (try simp only [Exit.inBlock, Exit.then])
      refine bodyPost_ret (v := .tuple #[.agg #[.int .i64 0, .int .i64 0, .slice none 0 0, .int .i64 0, .int .i64 0], .int .i64 0]) ?_ rfl ⟨tokR_none (by rw [tok_brace]; exact HB.out), HS2.out.put _ _ _ _ _⟩
      rw [results_cell_tmp rfl]; go_simp
    · obtain rfl : n = 1 := by omega
      obtain rfl : c = 1 := by omega
      go_enter Try.func11, Try.ntmps11
      go_wp2_with (go_at_call 21; (with_reducible refine (HP.out _ _ _ _ HS.out.base (HR.out.2 rfl) (by omega) (by omega)).mono ?_); rintro e w1 ⟨hv, hb1⟩; unfold braceR at hv; rw [HB.out] at hv; dsimp only at hv; subst hv; have HS1 := Lib.hid (HS.out.below hb1); have HS2 := Lib.hid (HS1.out.alloc (.cells #[.int .i64 0, .int .i64 0, .slice none 0 0, .int .i64 0, .int .i64 0] 44)); obtain ⟨q0, q1, q2, q3, q4, qf⟩ := HS2.out.facts; clear hb1)
      obtain ⟨z0, z1, z2, z3, z4, _⟩ := HS2.out.cells (.int .i64 0) (.int .i64 0) (.slice none 0 0) (.int .i64 0) (.int .i64 0)
      simp only [put5] at z0 z1 z2 z3 z4
      (try simp only [Exit.inBlock, Exit.then])
      refine bodyPost_ret (v := .tuple #[.agg #[.int .i64 0, .int .i64 0, .slice none 0 0, .int .i64 0, .int .i64 0], .int .i64 0]) ?_ rfl ⟨tokR_none (by rw [tok_brace]; exact HB.out), HS2.out.put _ _ _ _ _⟩
      rw [results_cell_tmp rfl]; go_simp
  · have HB := Lib.hid hbr
    have HD := Lib.hid (braceL_drop hbr)
    have HK : Hid (∀ (w : World) (B : Nat), w.ownsRow B 58 2 (.slice none 0 0) 0 (cellsG t.set)) := Lib.hid fun w B => by rw [braceL_set hbr]; exact nilG _ _
    have hl0 : 0 < l.length := by
      have := braceL_lt hbr
      omega
    have hc1 : 1 < c := by have := HL.out; omega
    have hn1 : 1 < n := by have := HL.out; omega
    clear hbr
    go_enter Try.func11, Try.ntmps11
    go_wp2_with (go_at_call 21; (with_reducible refine (HP.out _ _ _ _ HS.out.base HR.out.1 (by omega) (by omega)).mono ?_); rintro e w1 ⟨hv, hb1⟩; unfold braceR at hv; rw [HB.out] at hv; dsimp only at hv; obtain ⟨j, hj1, hj2, rfl⟩ := hv; unfold tokV; have HJ := Lib.hid (And.intro hj1 hj2); have j0 : ¬ (j : Int) = 0 := (by omega); have j1 : ((j : Int) == 0) = false := (by simpa using j0); have jw : IntKind.i64.wrap ((j : Int) + 1) = (j : Int) + 1 := (by rw [IntKind.wrap_i64]; have := HL.out; omega); clear hj1 hj2; have HS1 := Lib.hid (HS.out.below hb1); have HS2 := Lib.hid (HS1.out.alloc (.cells #[.int .i64 t.kind, .int .i64 t.r, .slice none 0 0, .int .i64 t.mn, .int .i64 t.mx] 44)); obtain ⟨q0, q1, q2, q3, q4, qf⟩ := HS2.out.facts; clear hb1)
    obtain ⟨z0, z1, z2, z3, z4, _⟩ := HS2.out.cells (.int .i64 t.kind) (.int .i64 t.r) (.slice none 0 0) (.int .i64 t.mn) (.int .i64 t.mx)
    simp only [put5] at z0 z1 z2 z3 z4
    (try simp only [Exit.inBlock, Exit.then])
    refine bodyPost_ret (v := .tuple #[.agg #[.int .i64 t.kind, .int .i64 t.r, .slice none 0 0, .int .i64 t.mn, .int .i64 t.mx], .int .i64 ((j : Int) + 1)]) ?_ rfl ⟨?_, HS2.out.put _ _ _ _ _⟩
    · rw [results_cell_tmp rfl]; go_simp
    · rw [show (j : Int) + 1 = ((j + 1 : Nat) : Int) by omega]
      refine tokR_some (by rw [tok_brace]; exact HB.out) (by omega) (by rw [List.length_cons]; have := HJ.out.1; omega) (HD.out.trans ?_) ?_
      · rw [List.drop_succ_cons, show l.length - rest.length = j by have := HJ.out.1; omega]
      · exact HK.out _ _
end Go.Proofs.Ytbhbdhjkicmecaa
/- The document's token: the dot, the class, the backslash, any other. -/
namespace Go.Proofs.Ytbhbdhjkicmecaa
open Go Go.RowKit
set_option linter.unusedVariables false
set_option maxRecDepth 20000

/-- A row of ranges made behind the room. -/
theorem ownG_two (W : World) (X : Obj) (s : List (Int × Int)) (hl : s.length ≤ 1000000) (k : Nat) (hk : k = s.length) : ((W.alloc X).alloc (.cells (cellsG s).toArray 58)).ownsRow W.heap.size 58 2 (.slice (some ⟨W.heap.size + 1, 0, none⟩) k k) k (cellsG s) := by
  subst hk
  have h := ownG_made (W.alloc X) s hl
  have e : (W.alloc X).heap.size = W.heap.size + 1 := by simp
  rw [e] at h
  exact row_base h fun j hj => by have := (row_lt h hj).1; omega

set_option maxHeartbeats 2000000 in
theorem rtok_dot (l : List Int) (A : Option Addr) (n c : Nat) (W : World) (hr : RowI .i64 W A n (46 :: l)) :
    Calls Try.prog 11 #[.slice A n c] W fun e w' => tokR W w' e (46 :: l) ∧ Below W.heap.size W w' := by
  have hn : 0 < n := by have := hr.1; rw [List.length_cons] at this; omega
  obtain ⟨b, o, rfl, hb, hc⟩ := hr.2 hn
  have c0 : W.cell? ⟨b, o, none⟩ = some (.int .i64 46) := hc 0 hn
  clear hc hr
  go_enter Try.func11, Try.ntmps11
  go_wp2
  refine bodyPost_ret (v := .tuple #[.agg #[.int .i64 0, .int .i64 0, .slice (some ⟨W.heap.size + 1, 0, none⟩) 2 2, .int .i64 0, .int .i64 0], .int .i64 1]) ?_ rfl ⟨tokR_some (l := 46 :: l) (t := tokC [(0, 9), (11, 1114111)]) (k := 1) rfl (by omega) (by rw [List.length_cons]; omega) rfl ?_, ?_⟩
  · rw [results_cell_tmp rfl]; go_simp
  · exact ownG_two W _ [(0, 9), (11, 1114111)] (by simp) _ rfl
  · exact ((Below.refl _ _).alloc (Nat.le_refl _) _).alloc (by simp) _
set_option maxHeartbeats 2000000 in
theorem rtok_other (r : Int) (l : List Int) (h : ¬ (r = 124 ∨ r = 40 ∨ r = 41 ∨ r = 94 ∨ r = 36 ∨ r = 42 ∨ r = 43 ∨ r = 63 ∨ r = 123 ∨ r = 46 ∨ r = 91 ∨ r = 92 ∨ r = 93 ∨ r = 125)) (A : Option Addr) (n c : Nat) (W : World) (hr : RowI .i64 W A n (r :: l)) :
    Calls Try.prog 11 #[.slice A n c] W fun e w' => tokR W w' e (r :: l) ∧ Below W.heap.size W w' := by
  have hn : 0 < n := by have := hr.1; rw [List.length_cons] at this; omega
  obtain ⟨b, o, rfl, hb, hc⟩ := hr.2 hn
  have c0 : W.cell? ⟨b, o, none⟩ = some (.int .i64 r) := hc 0 hn
  have HT := Lib.hid (show tokL (r :: l) = some (tokC [(r, r)], l) from tok_plain l (by unfold signB; rw [decide_eq_false_iff_not]; simp only [List.mem_cons, List.not_mem_nil, or_false]; omega))
  obtain ⟨e1, e2, e3, e4, e5, e6, e7⟩ : (r == 124) = false ∧ (r == 40) = false ∧ (r == 41) = false ∧ (r == 94) = false ∧ (r == 36) = false ∧ (r == 42) = false ∧ (r == 43) = false := by simp; omega
  obtain ⟨f1, f2, f3, f4, f5, f6, f7⟩ : (r == 63) = false ∧ (r == 123) = false ∧ (r == 46) = false ∧ (r == 91) = false ∧ (r == 92) = false ∧ (r == 93) = false ∧ (r == 125) = false := by simp; omega
  clear hc hr h
  go_enter Try.func11, Try.ntmps11
  go_wp2
  go_region
  go_wp2
  refine bodyPost_ret (v := .tuple #[.agg #[.int .i64 0, .int .i64 0, .slice (some ⟨W.heap.size + 1, 0, none⟩) 1 1, .int .i64 0, .int .i64 0], .int .i64 1]) ?_ rfl ⟨tokR_some (l := r :: l) (t := tokC [(r, r)]) (k := 1) HT.out (by omega) (by rw [List.length_cons]; omega) rfl ?_, ?_⟩
  · rw [results_cell_tmp rfl]; go_simp
  · exact ownG_kept (ownG_two W _ [(r, r)] (by simp) _ rfl) ((Below.refl _ _).drew)
  · exact (((Below.refl _ _).alloc (Nat.le_refl _) _).alloc (by simp) _).drew
set_option maxHeartbeats 4000000 in
theorem rtok_class (l : List Int) (A : Option Addr) (n c : Nat) (W : World) (hr : RowI .i64 W A n (91 :: l)) (hn : n ≤ 200) (hnc : n ≤ c) (hw : ∀ x ∈ l, 0 ≤ x ∧ x ≤ 1114111) :
    Calls Try.prog 11 #[.slice A n c] W fun e w' => tokR W w' e (91 :: l) ∧ Below W.heap.size W w' := by
  have hlen := hr.1
  rw [List.length_cons] at hlen
  have hn0 : 0 < n := by omega
  obtain ⟨b, o, rfl, hb, hc⟩ := hr.2 hn0
  have c0 : W.cell? ⟨b, o, none⟩ = some (.int .i64 91) := hc 0 hn0
  have HS := Lib.hid (RoomT.start W)
  have HP : Hid (∀ A' n' c' w, Below W.heap.size W w → RowI .i64 W A' n' l → n' ≤ 200 → n' ≤ c' → Calls Try.prog 22 #[.slice A' n' c'] w fun e w' => clsV w w' e (classL l) l ∧ Below w.heap.size w w') := Lib.hid fun A' n' c' w h h' h1 h2 => rclass_any l A' n' c' w (h'.below h (Nat.le_refl _)) h1 h2 hw
  have HR := Lib.hid (tail_row (c := c) hr)
  have HL := Lib.hid hlen
  clear hr hc hlen hw
  rcases hbr : classL l with _ | ⟨s, rest⟩
  · have HB := Lib.hid hbr
    clear hbr
    by_cases hc1 : 1 < c
    · go_enter Try.func11, Try.ntmps11
      go_wp2_with (go_at_call 22; (with_reducible refine (HP.out _ _ _ _ HS.out.base HR.out.1 (by omega) (by omega)).mono ?_); rintro e w1 ⟨hv, hb1⟩; unfold clsV at hv; rw [HB.out] at hv; dsimp only at hv; subst hv; have HS1 := Lib.hid (HS.out.below hb1); obtain ⟨q0, q1, q2, q3, q4, qf⟩ := HS1.out.facts; clear hb1)
      obtain ⟨z0, z1, z2, z3, z4, _⟩ := HS1.out.cells (.int .i64 0) (.int .i64 0) (.slice none 0 0) (.int .i64 0) (.int .i64 0)
      simp only [put5] at z0 z1 z2 z3 z4
      (try simp only [Exit.inBlock, Exit.then])
      refine bodyPost_ret (v := .tuple #[.agg #[.int .i64 0, .int .i64 0, .slice none 0 0, .int .i64 0, .int .i64 0], .int .i64 0]) ?_ rfl ⟨?_, HS1.out.put _ _ _ _ _⟩
      · rw [results_cell_tmp rfl]; go_simp
      · exact tokR_none (by rw [tok_class, HB.out]; rfl)
    · obtain rfl : n = 1 := by omega
      obtain rfl : c = 1 := by omega
      go_enter Try.func11, Try.ntmps11
      go_wp2_with (go_at_call 22; (with_reducible refine (HP.out _ _ _ _ HS.out.base (HR.out.2 rfl) (by omega) (by omega)).mono ?_); rintro e w1 ⟨hv, hb1⟩; unfold clsV at hv; rw [HB.out] at hv; dsimp only at hv; subst hv; have HS1 := Lib.hid (HS.out.below hb1); obtain ⟨q0, q1, q2, q3, q4, qf⟩ := HS1.out.facts; clear hb1)
      obtain ⟨z0, z1, z2, z3, z4, _⟩ := HS1.out.cells (.int .i64 0) (.int .i64 0) (.slice none 0 0) (.int .i64 0) (.int .i64 0)
      simp only [put5] at z0 z1 z2 z3 z4
      (try simp only [Exit.inBlock, Exit.then])
      refine bodyPost_ret (v := .tuple #[.agg #[.int .i64 0, .int .i64 0, .slice none 0 0, .int .i64 0, .int .i64 0], .int .i64 0]) ?_ rfl ⟨?_, HS1.out.put _ _ _ _ _⟩
      · rw [results_cell_tmp rfl]; go_simp
      · exact tokR_none (by rw [tok_class, HB.out]; rfl)
  · have HB := Lib.hid hbr
    have hl0 : 0 < l.length := by
      have := classL_lt hbr
      omega
    have hc1 : 1 < c := by have := HL.out; omega
    have hn1 : 1 < n := by have := HL.out; omega
    clear hbr
    go_enter Try.func11, Try.ntmps11
    go_wp2_with (go_at_call 22; (with_reducible refine (HP.out _ _ _ _ HS.out.base HR.out.1 (by omega) (by omega)).mono ?_); rintro e w1 ⟨hv, hb1⟩; unfold clsV at hv; rw [HB.out] at hv; dsimp only at hv; obtain ⟨P, q, pc, k, rfl, hk1, hk2, hk3, ho⟩ := hv; have HJ := Lib.hid (And.intro hk1 (And.intro hk2 (And.intro hk3 ho))); have j0 : ¬ (k : Int) = 0 := (by omega); have j1 : ((k : Int) == 0) = false := (by simpa using j0); have jw : IntKind.i64.wrap ((k : Int) + 1) = (k : Int) + 1 := (by rw [IntKind.wrap_i64]; have := HL.out; omega); clear hk1 hk2 hk3 ho; have ho := (show Hid (w1.ownsRow (W.heap.size + 1) 58 2 (.slice P q pc) q (cellsG s)) from Lib.hid (by have h := HJ.out.2.2.2; rwa [show (W.alloc (.cells #[.int .i64 0, .int .i64 0, .slice none 0 0, .int .i64 0, .int .i64 0] 44)).heap.size = W.heap.size + 1 by simp] at h)); have HS1 := Lib.hid (HS.out.below hb1); obtain ⟨q0, q1, q2, q3, q4, qf⟩ := HS1.out.facts; clear hb1)
    obtain ⟨z0, z1, z2, z3, z4, _⟩ := HS1.out.cells (.int .i64 0) (.int .i64 0) (.slice P q pc) (.int .i64 0) (.int .i64 0)
    simp only [put5] at z0 z1 z2 z3 z4
    (try simp only [Exit.inBlock, Exit.then])
    refine bodyPost_ret (v := .tuple #[.agg #[.int .i64 0, .int .i64 0, .slice P q pc, .int .i64 0, .int .i64 0], .int .i64 ((k : Int) + 1)]) ?_ rfl ⟨?_, HS1.out.put _ _ _ _ _⟩
    · rw [results_cell_tmp rfl]; go_simp
    · rw [show (k : Int) + 1 = ((k + 1 : Nat) : Int) by omega]
      exact tokR_some (t := tokC s) (by rw [tok_class, HB.out]; rfl) (by omega) (by rw [List.length_cons]; have := HJ.out.2.1; omega) (by rw [List.drop_succ_cons]; exact HJ.out.2.2.1) (HS1.out.own (Nat.lt_succ_self _) ho.out _ _ _ _ _)
set_option maxHeartbeats 4000000 in
theorem rtok_back (l : List Int) (A : Option Addr) (n c : Nat) (W : World) (hr : RowI .i64 W A n (92 :: l)) :
    Calls Try.prog 11 #[.slice A n c] W fun e w' => tokR W w' e (92 :: l) ∧ Below W.heap.size W w' := by
  have hlen := hr.1
  rw [List.length_cons] at hlen
  have hn0 : 0 < n := by omega
  obtain ⟨b, o, rfl, hb, hc⟩ := hr.2 hn0
  have c0 : W.cell? ⟨b, o, none⟩ = some (.int .i64 92) := hc 0 hn0
  have HS := Lib.hid (RoomT.start W)
  rcases l with _ | ⟨x, l⟩
  · obtain rfl : n = 1 := by simpa using hlen.symm
    clear hr hc hlen
    go_enter Try.func11, Try.ntmps11
    go_wp2
    refine bodyPost_ret (v := .tuple #[.agg #[.int .i64 0, .int .i64 0, .slice none 0 0, .int .i64 0, .int .i64 0], .int .i64 0]) ?_ rfl ⟨tokR_none rfl, HS.out.base⟩
    rw [results_cell_tmp rfl]; go_simp
  · rw [List.length_cons] at hlen
    have c1 : W.cell? ⟨b, o + 1, none⟩ = some (.int .i64 x) := hc 1 (by omega)
    have n2 : ¬ (n : Int) < 2 := by omega
    have n3 : 1 < n := by omega
    have HE := Lib.hid fun w => resc_any x w
    clear hr hc hlen
    rcases he : escL x with _ | ⟨s, is⟩
    · have HX := Lib.hid he
      clear he
      go_enter Try.func11, Try.ntmps11
      go_wp2_with (go_at_call 23; (with_reducible refine (HE.out _).mono ?_); rintro e w1 ⟨hv, hb1⟩; unfold escV at hv; rw [HX.out] at hv; dsimp only at hv; subst hv; have HS1 := Lib.hid (HS.out.below hb1); obtain ⟨q0, q1, q2, q3, q4, qf⟩ := HS1.out.facts; clear hb1)
      obtain ⟨z0, z1, z2, z3, z4, _⟩ := HS1.out.cells (.int .i64 0) (.int .i64 0) (.slice none 0 0) (.int .i64 0) (.int .i64 0)
      simp only [put5] at z0 z1 z2 z3 z4
      (try simp only [Exit.inBlock, Exit.then])
      refine bodyPost_ret (v := .tuple #[.agg #[.int .i64 0, .int .i64 0, .slice none 0 0, .int .i64 0, .int .i64 0], .int .i64 0]) ?_ rfl ⟨?_, HS1.out.put _ _ _ _ _⟩
      · rw [results_cell_tmp rfl]; go_simp
      · exact tokR_none (by rw [tok_back, HX.out]; rfl)
    · have HX := Lib.hid he
      clear he
      go_enter Try.func11, Try.ntmps11
      go_wp2_with (go_at_call 23; (with_reducible refine (HE.out _).mono ?_); rintro e w1 ⟨hv, hb1⟩; unfold escV at hv; rw [HX.out] at hv; dsimp only at hv; obtain ⟨P, q, pc, rfl, ho⟩ := hv; have HO := (show Hid (w1.ownsRow (W.heap.size + 1) 58 2 (.slice P q pc) q (cellsG s)) from Lib.hid (by rwa [show (W.alloc (.cells #[.int .i64 0, .int .i64 0, .slice none 0 0, .int .i64 0, .int .i64 0] 44)).heap.size = W.heap.size + 1 by simp] at ho)); clear ho; have HS1 := Lib.hid (HS.out.below hb1); obtain ⟨q0, q1, q2, q3, q4, qf⟩ := HS1.out.facts; clear hb1)
      obtain ⟨z0, z1, z2, z3, z4, _⟩ := HS1.out.cells (.int .i64 0) (.int .i64 0) (.slice P q pc) (.int .i64 0) (.int .i64 0)
      simp only [put5] at z0 z1 z2 z3 z4
      (try simp only [Exit.inBlock, Exit.then])
      refine bodyPost_ret (v := .tuple #[.agg #[.int .i64 0, .int .i64 0, .slice P q pc, .int .i64 0, .int .i64 0], .int .i64 2]) ?_ rfl ⟨?_, HS1.out.put _ _ _ _ _⟩
      · rw [results_cell_tmp rfl]; go_simp
      · exact tokR_some (t := tokC s) (k := 2) (by rw [tok_back, HX.out]; rfl) (by omega) (by simp) rfl (HS1.out.own (Nat.lt_succ_self _) HO.out _ _ _ _ _)
/-- The first token. -/
theorem rtok_any (l : List Int) (h0 : l ≠ []) (A : Option Addr) (n c : Nat) (W : World) (hr : RowI .i64 W A n l) (hn : n ≤ 200) (hnc : n ≤ c) (hw : ∀ x ∈ l, 0 ≤ x ∧ x ≤ 1114111) :
    Calls Try.prog 11 #[.slice A n c] W fun e w' => tokR W w' e l ∧ Below W.heap.size W w' := by
  rcases l with _ | ⟨r, l⟩
  · exact absurd rfl h0
  by_cases h1 : r = 124 ∨ r = 40 ∨ r = 41 ∨ r = 94 ∨ r = 36
  · exact rtok_sign r l h1 A n c W hr
  by_cases h2 : r = 42 ∨ r = 43 ∨ r = 63
  · exact rtok_count r l h2 A n c W hr
  by_cases h3 : r = 93 ∨ r = 125
  · exact rtok_no r l h3 A n c W hr
  by_cases h4 : r = 123
  · subst h4; exact rtok_brace l A n c W hr (by omega) hnc
  by_cases h5 : r = 46
  · subst h5; exact rtok_dot l A n c W hr
  by_cases h6 : r = 91
  · subst h6; exact rtok_class l A n c W hr hn hnc fun x hx => hw x (List.mem_cons_of_mem _ hx)
  by_cases h7 : r = 92
  · subst h7; exact rtok_back l A n c W hr
  exact rtok_other r l (by omega) A n c W hr
end Go.Proofs.Ytbhbdhjkicmecaa
