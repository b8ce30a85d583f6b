/- The library's Clone, Grow and Concat, on octets. -/
import Derived.Test.YtoojfjealncddaaDoorDec
import Derived.Lib.AppendZerosOnto
import Derived.Lib.SliceRun
import Derived.LoopN
namespace Go.Proofs.YtoojfjealncddaaDoor
open Go Go.RowKit
set_option linter.unusedVariables false

theorem clone_nil (w : World) : Calls Tryd.prog 31 #[.slice none 0 0] w fun e w' => e = .returned (.slice none 0 0) ∧ w' = w := by
  have q22 : ∀ (w : World) (a : Option Addr) (n c n' c' : Nat), (binOp .eql 22 (.slice a n c) (.slice none n' c')).run Tryd.prog w = .ok (.bool a.isNone) w := fun w a n c n' c' => Lib.run_eql_slice_nil w _ _ a n c n' c' Tryd.underlying22
  go_enter Tryd.func31, Tryd.ntmps31
  go_wp2
  go_ret
  exact ⟨rfl, rfl⟩

theorem clone_some (a : Addr) (n c : Nat) (xs : List Int) (w : World) (hr : RowI .u8 w (some a) n xs) (hn : n ≤ 100000) :
    Calls Tryd.prog 31 #[.slice (some a) n c] w fun e w' => ∃ v', e = .returned v' ∧ w'.ownsRow w.heap.size 5 1 v' n (xs.map (Value.int .u8)) ∧ Below w.heap.size w w' := by
  have q22 : ∀ (w : World) (a : Option Addr) (n c n' c' : Nat), (binOp .eql 22 (.slice a n c) (.slice none n' c')).run Tryd.prog w = .ok (.bool a.isNone) w := fun w a n c n' c' => Lib.run_eql_slice_nil w _ _ a n c n' c' Tryd.underlying22
  obtain ⟨v', w', happ, hown, hgrow⟩ := app_run .u8 22 5 1 Tryd.underlying22 info_u8 (w.alloc (.cells #[] 5)) w.heap.size (.slice (some ⟨w.heap.size, 0, none⟩) 0 0) 0 [] (World.ownsRow_made w #[] 0 (Nat.le_refl _) (Nat.zero_le _) rfl) (some a) n c xs (hr.alloc _) (fun h => by cases h) (by omega) (by unfold maxLen; omega) (by simp)
  rw [Nat.zero_add, List.nil_append] at hown
  have hb : Below w.heap.size w w' := ((Below.refl _ w).alloc (Nat.le_refl _) _).grown hgrow (by simp) (by intro k hk; simp [Value.ownBlock] at hk; omega)
  have HAPP := Lib.hid happ; clear happ
  have HOWN := Lib.hid hown; clear hown
  clear hgrow hr
  go_enter Tryd.func31, Tryd.ntmps31
  go_wp2_with (at_builtin; refine wpList_append_run rfl _ _ 22 rfl rfl _ _ _ _ rfl rfl HAPP.out ?_)
  go_ret
  exact ⟨v', rfl, HOWN.out, hb⟩

/-- bytes.Clone: a row of the call's own, or nil. -/
theorem clone_any (A : Option Addr) (n c : Nat) (xs : List Int) (w : World) (hr : RowI .u8 w A n xs) (hnil : A = none → n = 0 ∧ c = 0) (hn : n ≤ 100000) :
    Calls Tryd.prog 31 #[.slice A n c] w fun e w' => ∃ v', e = .returned v' ∧ w'.ownsRow w.heap.size 5 1 v' n (xs.map (Value.int .u8)) ∧ Below w.heap.size w w' := by
  rcases A with _ | a
  · obtain ⟨rfl, rfl⟩ := hnil rfl
    have : xs = [] := List.eq_nil_of_length_eq_zero hr.1
    subst this
    exact (clone_nil w).mono fun e w' ⟨he, hw⟩ => ⟨_, he, World.ownsRow_nil _ _ _ _, by rw [hw]; exact Below.refl _ _⟩
  · exact clone_some a n c xs w hr hn

set_option maxHeartbeats 1000000 in
theorem grow4 (w : World) :
    Calls Tryd.prog 54 #[.slice none 0 0, .int .i64 4] w fun e w' => ∃ v, e = .returned v ∧ w'.ownsRow w.heap.size 5 1 v 0 (([] : List Int).map (Value.int .u8)) ∧ Below w.heap.size w w' := by
  obtain ⟨i0, hi, hz0, hz1, hz2⟩ := info_parts info_u8
  have h := Lib.run_append_grow_zeros (P := Tryd.prog) w 22 3 22 5 i0 (.int .u8 0) .i64 .i64 Tryd.underlying22 Tryd.underlying3 hi hz0 none 0 0 [] (run_firstCells_none w.drew i0.size 0 0 0) 4 (by decide) (by rw [hz1]; decide) (by decide) (by decide) (by rw [hz2]; decide) (by rw [hz2]; decide)
  have hG := grownCap_ge w 4 0 5
  have hG2 := grownCap_le_maxLen w 4 0 5 (by decide)
  rw [show (0 : Nat) + 4 = 4 from rfl] at h
  obtain ⟨G, hGe⟩ : ∃ G, G = grownCap w 4 0 5 := ⟨_, rfl⟩
  rw [← hGe] at h hG hG2
  obtain ⟨cur, hcur⟩ : ∃ cur, cur = (([] : List Value).toArray ++ Builtin.zeroCells (Value.int IntKind.u8 0).cells 4 ++ Builtin.zeroCells (Value.int IntKind.u8 0).cells (G - 4)) := ⟨_, rfl⟩
  have hcs : cur.size = G * 1 := by
    rw [hcur]
    simp [size_zeroCells, Value.cells]
    omega
  rw [← hcur] at h
  clear hcur hGe
  have H := Lib.hid h; clear h
  have hG63 : G ≤ 9223372036854775807 := by unfold maxLen at hG2; omega
  go_enter Tryd.func54, Tryd.ntmps54
  go_wp2_with (at_builtin; refine Lib.wpList_append_run _ rfl _ _ 22 3 rfl _ _ rfl rfl _ _ H.out ?_)
  go_ret
  refine ⟨_, rfl, ?_, by go_grown⟩
  exact World.ownsRow_made w.drew cur G (Nat.le_refl _) hG2 hcs

set_option maxHeartbeats 2000000 in
/-- slices.Concat of two rows that are four octets together. -/
theorem concat4 (g : Nat) (A1 A2 : Option Addr) (n1 c1 n2 c2 : Nat) (xs ys : List Int) (w : World) (hn : (n1 = 2 ∧ n2 = 2) ∨ (n1 = 3 ∧ n2 = 1)) (h0 : w.cell? ⟨g, 0, none⟩ = some (.slice A1 n1 c1)) (h1 : w.cell? ⟨g, 1, none⟩ = some (.slice A2 n2 c2))
    (hr1 : RowI .u8 w A1 n1 xs) (hr2 : RowI .u8 w A2 n2 ys) :
    Calls Tryd.prog 44 #[.slice (some ⟨g, 0, none⟩) 2 2] w fun e w' => ∃ A' c', e = .returned (.slice A' 4 c') ∧ RowI .u8 w' A' 4 (xs ++ ys) ∧ 4 ≤ c' ∧ c' ≤ maxLen ∧ Below w.heap.size w w' := by
  have hg := fun w => grow4 w
  have hlt : g < w.heap.size := World.block_lt_of_cell? w _ h0
  have HR1 := Lib.hid hr1; clear hr1
  have HR2 := Lib.hid hr2; clear hr2
  have HG := Lib.hid hg; clear hg
  have H0 := Lib.hid h0
  have H1 := Lib.hid h1
  rcases hn with ⟨rfl, rfl⟩ | ⟨rfl, rfl⟩
  all_goals
    go_enter Tryd.func44, Tryd.ntmps44
    go_wp2_with fail
    refine wp_loop_rounds 3 ?_
    rw [rounds_succ]; go_wp2_with fail
    rw [rounds_succ]; go_wp2_with fail
    rw [rounds_succ]; go_wp2_with fail
    refine (HG.out _).mono ?_; rintro e w1 ⟨v, rfl, hown1, hb1⟩
    clear h0 h1
    have h0 := (hb1.cell (p := ⟨g, 0, none⟩) hlt).trans H0.out
    have h1 := (hb1.cell (p := ⟨g, 1, none⟩) hlt).trans H1.out
    have hA1 : A1 ≠ none := by intro e; have := HR1.out.2 (by omega); rw [e] at this; obtain ⟨_, _, h, _⟩ := this; cases h
    have hA2 : A2 ≠ none := by intro e; have := HR2.out.2 (by omega); rw [e] at this; obtain ⟨_, _, h, _⟩ := this; cases h
    obtain ⟨v2, w2, happ2, hown2, hgrow2⟩ := app_run .u8 22 5 1 Tryd.underlying22 info_u8 w1 w.heap.size v 0 [] hown1 A1 _ c1 xs (HR1.out.below hb1 (Nat.le_refl _)) (fun h => absurd h hA1) (by omega) (by unfold maxLen; omega) hb1.size
    have hb2 : Below w.heap.size w w2 := hb1.grown hgrow2 hb1.size (by intro k hk; exact (hown1.lt k hk).1)
    have k1 := (hb2.cell (p := ⟨g, 1, none⟩) hlt).trans H1.out
    obtain ⟨v3, w3, happ3, hown3, hgrow3⟩ := app_run .u8 22 5 1 Tryd.underlying22 info_u8 w2 w.heap.size v2 _ _ hown2 A2 _ c2 ys (HR2.out.below hb2 (Nat.le_refl _)) (fun h => absurd h hA2) (by omega) (by unfold maxLen; omega) hb2.size
    have hb3 : Below w.heap.size w w3 := hb2.grown hgrow3 hb2.size (by intro k hk; exact (hown2.lt k hk).1)
    have H2 := Lib.hid happ2; clear happ2
    have H3 := Lib.hid happ3; clear happ3
    obtain ⟨A', c', rfl, hri, q1, q2⟩ := row_of_own hown3
    have HRI := Lib.hid hri; clear hri
    clear hown1 hown2 hown3 hgrow2 hgrow3 hA1 hA2 hb1 hb2
    go_wp2_with fail
    refine wp_loop_rounds 3 ?_
    rw [rounds_succ]; go_wp2_with (at_builtin; refine wpList_append_run rfl _ _ 22 rfl rfl _ _ _ _ rfl rfl H2.out ?_)
    rw [rounds_succ]; go_wp2_with (at_builtin; refine wpList_append_run rfl _ _ 22 rfl rfl _ _ _ _ rfl rfl H3.out ?_)
    rw [rounds_succ]; go_wp2_with fail
    go_ret
    exact ⟨A', c', rfl, by simpa using HRI.out, by simpa using q1, q2, hb3⟩
end Go.Proofs.YtoojfjealncddaaDoor
