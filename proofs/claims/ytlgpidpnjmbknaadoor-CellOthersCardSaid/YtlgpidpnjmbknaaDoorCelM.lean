/- The program's cell: a block of four: the cause, the note, when, how many. -/
import Derived.Test.YtlgpidpnjmbknaaDoorCelF
namespace Go.Proofs.YtlgpidpnjmbknaaDoor
open Go Go.RowKit
set_option linter.unusedVariables false
set_option maxRecDepth 20000
def CelT : CelP := fun w F g s n => (∀ k, F k ↔ k = g) ∧ w.heap[g]? = some (.cells #[.int .i64 s.1, .string s.2.1, .int .i64 s.2.2, .int .i64 n] 49 (0, 0))
section
variable {w : World} {F : Nat → Prop} {g : Nat} {s : Rep} {n : Int}
theorem cel_cells (h : CelT w F g s n) : w.cell? ⟨g, 0, none⟩ = some (.int .i64 s.1) ∧ w.cell? ⟨g, 1, none⟩ = some (.string s.2.1) ∧ w.cell? ⟨g, 2, none⟩ = some (.int .i64 s.2.2) ∧ w.cell? ⟨g, 3, none⟩ = some (.int .i64 n) ∧ ∀ j, w.frozen? ⟨g, j, none⟩ = false :=
  ⟨cell_of_row w g 0 _ _ (0, 0) h.2, cell_of_row w g 1 _ _ (0, 0) h.2, cell_of_row w g 2 _ _ (0, 0) h.2, cell_of_row w g 3 _ _ (0, 0) h.2, fun j => by have := h.2; simp [World.frozen?, this]⟩
set_option maxHeartbeats 2000000 in
theorem report_any (x : Rep) (h : CelT w F g s n) (h0 : 0 ≤ n) (h1 : n ≤ 1000000) :
    Calls Tryd.prog 10 #[.pointer (some ⟨g, 0, none⟩), .int .i64 x.1, .string x.2.1, .int .i64 x.2.2] w fun e w' => e = .returned (.bool (repB s x)) ∧ ∃ F', CelT w' F' g (repK s x) (repN n x) ∧ Step F F' w w' := by
  obtain ⟨c0, c1, c2, c3, f⟩ := cel_cells h
  have f0 := f 0
  have f1 := f 1
  have f2 := f 2
  have f3 := f 3
  obtain ⟨x1, x2, x3⟩ := x
  obtain ⟨s1, s2, s3⟩ := s
  simp only at c0 c1 c2 ⊢
  unfold repB repK repN
  simp only
  by_cases hx : x1 = 0
  · subst hx
    have HF : Hid (∃ F', CelT w F' g (s1, s2, s3) n ∧ Step F F' w w) := Lib.hid ⟨F, h, Step.refl _ _⟩
    rw [if_neg (fun h => h.2 rfl), if_pos rfl]
    clear h f c0 c1 c2 c3 f0 f1 f2 f3
    go_enter Tryd.func10, Tryd.ntmps10
    go_wp2_with fail
    go_ret
    exact ⟨by simp, HF.out⟩
  · have hxb : (x1 == 0) = false := by simpa using hx
    have h3 : (w.setCell ⟨g, 3, none⟩ (.int .i64 (n + 1))).heap[g]? = some (.cells #[.int .i64 s1, .string s2, .int .i64 s3, .int .i64 (n + 1)] 49 (0, 0)) := heap_setCell_same w g 3 _ _ _ h.2
    have hm3 := (Moved.refl F w).setCell (p := ⟨g, 3, none⟩) (.inl ((h.1 g).2 rfl)) (.int .i64 (n + 1))
    by_cases hs : s1 = 0
    · subst hs
      have h4 : ((w.setCell ⟨g, 3, none⟩ (.int .i64 (n + 1))).setCell ⟨g, 0, none⟩ (.int .i64 x1)).heap[g]? = some (.cells #[.int .i64 x1, .string s2, .int .i64 s3, .int .i64 (n + 1)] 49 (0, 0)) := heap_setCell_same _ g 0 _ _ _ h3
      have h5 : (((w.setCell ⟨g, 3, none⟩ (.int .i64 (n + 1))).setCell ⟨g, 0, none⟩ (.int .i64 x1)).setCell ⟨g, 1, none⟩ (.string x2)).heap[g]? = some (.cells #[.int .i64 x1, .string x2, .int .i64 s3, .int .i64 (n + 1)] 49 (0, 0)) := heap_setCell_same _ g 1 _ _ _ h4
      have h6 : ((((w.setCell ⟨g, 3, none⟩ (.int .i64 (n + 1))).setCell ⟨g, 0, none⟩ (.int .i64 x1)).setCell ⟨g, 1, none⟩ (.string x2)).setCell ⟨g, 2, none⟩ (.int .i64 x3)).heap[g]? = some (.cells #[.int .i64 x1, .string x2, .int .i64 x3, .int .i64 (n + 1)] 49 (0, 0)) := heap_setCell_same _ g 2 _ _ _ h5
      have hm6 := ((hm3.setCell (p := ⟨g, 0, none⟩) (.inl ((h.1 g).2 rfl)) (.int .i64 x1)).setCell (p := ⟨g, 1, none⟩) (.inl ((h.1 g).2 rfl)) (.string x2)).setCell (p := ⟨g, 2, none⟩) (.inl ((h.1 g).2 rfl)) (.int .i64 x3)
      have HF : Hid (∃ F', CelT ((((w.setCell ⟨g, 3, none⟩ (.int .i64 (n + 1))).setCell ⟨g, 0, none⟩ (.int .i64 x1)).setCell ⟨g, 1, none⟩ (.string x2)).setCell ⟨g, 2, none⟩ (.int .i64 x3)) F' g (x1, x2, x3) (n + 1) ∧ Step F F' w ((((w.setCell ⟨g, 3, none⟩ (.int .i64 (n + 1))).setCell ⟨g, 0, none⟩ (.int .i64 x1)).setCell ⟨g, 1, none⟩ (.string x2)).setCell ⟨g, 2, none⟩ (.int .i64 x3))) := Lib.hid ⟨F, ⟨h.1, h6⟩, hm6, fun _ h => .inl h⟩
      rw [if_pos ⟨rfl, hx⟩, if_neg hx]
      clear h f h3 h4 h5 h6 hm3 hm6 hx
      go_enter Tryd.func10, Tryd.ntmps10
      go_wp2_with fail
      go_ret
      exact ⟨by simp [hxb], HF.out⟩
    · have hsb : (s1 == 0) = false := by simpa using hs
      have HF : Hid (∃ F', CelT (w.setCell ⟨g, 3, none⟩ (.int .i64 (n + 1))) F' g (s1, s2, s3) (n + 1) ∧ Step F F' w (w.setCell ⟨g, 3, none⟩ (.int .i64 (n + 1)))) := Lib.hid ⟨F, ⟨h.1, h3⟩, hm3, fun _ h => .inl h⟩
      rw [if_neg (fun h => hs h.1), if_neg hx]
      clear h f h3 hm3 hx hs
      go_enter Tryd.func10, Tryd.ntmps10
      go_wp2_with fail
      go_ret
      exact ⟨by simp [hsb], HF.out⟩
theorem ccause_any (h : CelT w F g s n) : Calls Tryd.prog 11 #[.pointer (some ⟨g, 0, none⟩)] w fun e w' => e = .returned (.int .i64 s.1) ∧ ∃ q, w' = w.drewN q := by
  obtain ⟨c0, c1, c2, c3, _⟩ := cel_cells h
  clear h
  go_enter Tryd.func11, Tryd.ntmps11
  go_wp2_with fail
  go_ret
  exact ⟨rfl, 0, rfl⟩
end
theorem cnew_any (w : World) : Calls Tryd.prog 9 #[] w fun e w' => ∃ g F, e = .returned (.pointer (some ⟨g, 0, none⟩)) ∧ CelT w' F g zeroR 0 ∧ Below w.heap.size w w' ∧ ∀ k, F k → w.heap.size ≤ k := by
  go_enter Tryd.func9, Tryd.ntmps9
  go_wp2_with fail
  go_ret
  exact ⟨w.heap.size, fun k => k = w.heap.size, rfl, ⟨fun k => Iff.rfl, heap_alloc_new _ _⟩, (Below.refl _ _).alloc (Nat.le_refl _) _, fun k hk => by omega⟩
theorem celF : CelF CelT where
  fr := fun h hs hz => ⟨h.1, (hs _ ((h.1 _).2 rfl)).trans h.2⟩
  low := fun h k hk => by rw [(h.1 k).1 hk]; exact (Array.getElem?_eq_some_iff.1 h.2).1
  new := cnew_any
  rep := fun x h h0 h1 => report_any x h h0 h1
  cau := fun h => ccause_any h
end Go.Proofs.YtlgpidpnjmbknaaDoor
