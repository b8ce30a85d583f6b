/- ModeLines: out of any teller. -/
import Derived.Test.YtebmafghekfllaaDoorTwo18
namespace Go.Proofs.YtebmafghekfllaaDoor
open Go Go.RowKit
set_option linter.unusedVariables false
set_option maxRecDepth 20000
/-- Octets of the texts from a row on. -/
def sumZ (l : List Rw) (j : Nat) : Nat := ((l.drop j).map fun x => x.tx.size).sum
theorem sumZ_end (l : List Rw) : sumZ l l.length = 0 := by unfold sumZ; rw [List.drop_length]; rfl
theorem sumZ_step {l : List Rw} {j : Nat} {x : Rw} (h : l[j]? = some x) : sumZ l j = x.tx.size + sumZ l (j + 1) := by
  obtain ⟨h1, h2⟩ := List.getElem?_eq_some_iff.1 h
  unfold sumZ
  rw [List.drop_eq_getElem_cons h1, h2, List.map_cons, List.sum_cons]
theorem linesV_fin (k b a : Nat) (l : List Rw) (fin : Bool) : (linesV k b a l fin).2 = (linesV k b a l false).2 := by
  unfold linesV
  split
  · rfl
  · split
    · rfl
    · split <;> rfl
theorem box3 (x y z : Int) (w : World) (w' : World) (hb : Below (w.alloc (.cells #[.int .i64 x, .int .i64 y, .int .i64 z] 22)).heap.size (w.alloc (.cells #[.int .i64 x, .int .i64 y, .int .i64 z] 22)) w') :
    w'.cell? ⟨w.heap.size, 0, none⟩ = some (.int .i64 x) ∧ w'.cell? ⟨w.heap.size, 1, none⟩ = some (.int .i64 y) ∧ w'.cell? ⟨w.heap.size, 2, none⟩ = some (.int .i64 z) := by
  have h : w'.heap[w.heap.size]? = some (.cells #[.int .i64 x, .int .i64 y, .int .i64 z] 22 (0, 0)) := (hb.block _ (by simp)).trans (heap_alloc_new w _)
  exact ⟨cell_of_row w' _ 0 _ _ (0, 0) h, cell_of_row w' _ 1 _ _ (0, 0) h, cell_of_row w' _ 2 _ _ (0, 0) h⟩
section
variable {P : TelP} {G : World → Prop} (T : TelF G P)
include T
set_option maxHeartbeats 16000000 in
theorem lines18_big (x y z : Int) (A : Option Addr) (n c : Nat) (w : World) (hG : G w) (hn : ¬ n ≤ 30) :
    Calls Tryd.prog 3 #[.agg #[.int .i64 x, .int .i64 y, .int .i64 z], .slice A n c] w fun e w' => e = .returned (.bool true) ∧ Below w.heap.size w w' := by
  have HAW := Lib.hid fun w' (hg : G w') => awake18_any T w' hg
  have HGG := Lib.hid hG
  have dn : decide (30 < n) = true := by simp; omega
  have hb0 : Below w.heap.size w (w.alloc (.cells #[.int .i64 x, .int .i64 y, .int .i64 z] 22)) := (Below.refl _ _).alloc (Nat.le_refl _) _
  have HB0 := Lib.hid hb0
  clear hb0
  go_enter Tryd.func3, Tryd.ntmps3
  go_wp2_with (go_at_call 7; first | ((with_reducible refine (HAW.out w1 (T.gb hG HB1.out)).mono ?_); rintro e w2 ⟨rfl, hb2⟩; have HB2 := Lib.hid (HB1.out.trans (hb2.mono HB1.out.size)); clear hb2) | ((with_reducible refine (HAW.out _ (T.gb hG HB0.out)).mono ?_); rintro e w1 ⟨rfl, hb1⟩; have HB1 := Lib.hid (HB0.out.trans (hb1.mono HB0.out.size)); clear hb1))
  go_ret
  exact ⟨rfl, HB2.out⟩
set_option maxHeartbeats 16000000 in
theorem lines18_bad (x y z : Int) (A : Option Addr) (n c : Nat) (w : World) (hG : G w) (hn : n ≤ 30) (h : (x < 0 ∨ 3 < x) ∨ (y < 0 ∨ 16 < y) ∨ (z < 0 ∨ 16 < z)) :
    Calls Tryd.prog 3 #[.agg #[.int .i64 x, .int .i64 y, .int .i64 z], .slice A n c] w fun e w' => e = .returned (.bool true) ∧ Below w.heap.size w w' := by
  have HAW := Lib.hid fun w' (hg : G w') => awake18_any T w' hg
  have HGG := Lib.hid hG
  have dn : decide (30 < n) = false := by simpa using hn
  have HB0 := Lib.hid ((Below.refl w.heap.size w).alloc (Nat.le_refl _) (.cells #[.int .i64 x, .int .i64 y, .int .i64 z] 22))
  have HBX := Lib.hid (box3 x y z w)
  have HN := Lib.hid fun w' (hg : G w') => T.bad x y z w' hg h
  obtain ⟨W0, hW0⟩ : ∃ W0, W0 = w.alloc (.cells #[.int .i64 x, .int .i64 y, .int .i64 z] 22) := ⟨_, rfl⟩
  rw [← hW0] at HB0 HBX
  obtain ⟨gx, hgx⟩ : ∃ gx, gx = w.heap.size := ⟨_, rfl⟩
  have HGX := Lib.hid hgx
  rw [← hgx] at HBX
  have HH := Lib.hid h
  clear h
  go_enter Tryd.func3, Tryd.ntmps3
  go_wp2_with fail
  rw [← hW0, ← hgx]
  clear hW0 hgx
  (with_reducible refine (HAW.out _ (T.gb hG HB0.out)).mono ?_); rintro e w1 ⟨rfl, hb1⟩
  obtain ⟨k0, k1, k2⟩ := HBX.out w1 hb1
  have HB1 := Lib.hid hb1
  clear hb1
  go_wp2_with fail
  (with_reducible refine (HN.out _ (T.gb (T.gb hG HB0.out) HB1.out)).mono ?_); rintro e w2 ⟨rfl, hb2⟩
  clear k0 k1 k2
  have hb2' : Below W0.heap.size W0 w2 := HB1.out.trans (hb2.mono HB1.out.size)
  obtain ⟨k0, k1, k2⟩ := HBX.out w2 hb2'
  have HB2 := Lib.hid (HB0.out.trans (hb2'.mono HB0.out.size))
  clear hb2 hb2'
  by_cases a1 : x < 0
  · have d1 : decide (x < 0) = true := by simpa using a1
    go_wp2_with fail
    go_ret
    exact ⟨rfl, HB2.out⟩
  · have d1 : decide (x < 0) = false := by simpa using a1
    by_cases a2 : 3 < x
    · have d2 : decide (3 < x) = true := by simpa using a2
      go_wp2_with fail
      go_ret
      exact ⟨rfl, HB2.out⟩
    · have d2 : decide (3 < x) = false := by simpa using a2
      by_cases a3 : y < 0
      · have d3 : decide (y < 0) = true := by simpa using a3
        go_wp2_with fail
        go_ret
        exact ⟨rfl, HB2.out⟩
      · have d3 : decide (y < 0) = false := by simpa using a3
        by_cases a4 : 16 < y
        · have d4 : decide (16 < y) = true := by simpa using a4
          go_wp2_with fail
          go_ret
          exact ⟨rfl, HB2.out⟩
        · have d4 : decide (16 < y) = false := by simpa using a4
          by_cases a5 : z < 0
          · have d5 : decide (z < 0) = true := by simpa using a5
            go_wp2_with fail
            go_ret
            exact ⟨rfl, HB2.out⟩
          · have d5 : decide (z < 0) = false := by simpa using a5
            have a6 : 16 < z := by
              have := HH.out
              omega
            have d6 : decide (16 < z) = true := by simpa using a6
            go_wp2_with fail
            go_ret
            exact ⟨rfl, HB2.out⟩
end
end Go.Proofs.YtebmafghekfllaaDoor
