/- slices.Clone: of items, of hits. -/
import Derived.Test.YtmmfioemnoijoaaPipD
namespace Go.Proofs.Ytmmfioemnoijoaa
open Go Go.RowKit
set_option linter.unusedVariables false
set_option maxRecDepth 20000

theorem info_hit : (Try.prog.info? 72).map (fun i => (i.zero, i.size, i.bytes)) = some (some (.agg #[.int .i64 0, .int .i64 0]), 2, 16) := by kernel_rfl

set_option maxHeartbeats 1000000 in
theorem clone_item {w : World} {B : Nat} {A : Option Addr} {n c : Nat} {xs : List (List Value)} (h : ReadR B w A n 7 xs) (hA : A = none → n = 0 ∧ c = 0) (hn : n ≤ 1000000) :
    Calls Try.prog 30 #[.slice A n c] w fun e w' => ∃ A' c', e = .returned (.slice A' n c') ∧ RecW w' w.heap.size 36 7 (.slice A' n c') xs ∧ Below w.heap.size w w' ∧ (A' = none → c' = 0) := by
  have hl := h.1.1
  rcases A with _ | a
  · obtain ⟨rfl, rfl⟩ := hA rfl
    have hx : xs = [] := List.eq_nil_of_length_eq_zero hl
    subst hx
    have hq := fun w => Lib.run_eql_slice_nil (P := Try.prog) w 51 36 none 0 0 0 0 Try.underlying51
    clear h hA hl
    go_enter Try.func30, Try.ntmps30
    go_wp2_with fail
    go_ret
    exact ⟨none, 0, rfl, RecW.nil _ _ _ _, Below.refl _ _, fun _ => rfl⟩
  · have hq := fun w => Lib.run_eql_slice_nil (P := Try.prog) w 51 36 (some a) n c 0 0 Try.underlying51
    have hb : Below w.heap.size w (w.alloc (.cells #[] 36)) := (Below.refl _ _).alloc (Nat.le_refl _) _
    have h0 : RecW (w.alloc (.cells #[] 36)) w.heap.size 36 7 (.slice (some ⟨w.heap.size, 0, none⟩) 0 0) [] := ⟨World.ownsRow_made w #[] 0 (Nat.le_refl _) (by unfold maxLen; omega) rfl, wide_nil _⟩
    obtain ⟨V', w', happ, hr', hg', _, _⟩ := h0.app 51 36 _ 7 80 Try.underlying51 info_item rfl (by decide) (h.below hb) (c := c) (fun h => by cases h) (by simp only [List.length_nil]; unfold maxLen; omega) (by simp only [List.length_nil]; omega) (by simp)
    rw [List.nil_append] at hr'
    obtain ⟨A', c', hV, -, -, hA'⟩ := hr'.slice
    rw [hl] at hV
    subst hV
    have hb2 : Below w.heap.size w w' := hb.grown hg' (Nat.le_of_lt (by simp)) (by intro k hk; injection hk with hk; exact Nat.le_of_eq hk)
    have HF := Lib.hid (And.intro hr' (And.intro hb2 (fun h => (hA' h).2)))
    have HAPP := Lib.hid happ
    clear h h0 happ hr' hg' hb2 hb hA' hA hl
    go_enter Try.func30, Try.ntmps30
    go_wp2_with (at_builtin; refine wpList_append_run rfl _ _ 51 rfl rfl _ _ _ _ rfl rfl HAPP.out ?_)
    go_ret
    exact ⟨_, _, rfl, HF.out⟩

set_option maxHeartbeats 1000000 in
theorem clone_hit {w : World} {B : Nat} {A : Option Addr} {n c : Nat} {xs : List (List Value)} (h : ReadR B w A n 2 xs) (hA : A = none → n = 0 ∧ c = 0) (hn : n ≤ 1000000) :
    Calls Try.prog 31 #[.slice A n c] w fun e w' => ∃ A' c', e = .returned (.slice A' n c') ∧ RecW w' w.heap.size 72 2 (.slice A' n c') xs ∧ Below w.heap.size w w' ∧ (A' = none → c' = 0) := by
  have hl := h.1.1
  rcases A with _ | a
  · obtain ⟨rfl, rfl⟩ := hA rfl
    have hx : xs = [] := List.eq_nil_of_length_eq_zero hl
    subst hx
    have hq := fun w => Lib.run_eql_slice_nil (P := Try.prog) w 34 72 none 0 0 0 0 Try.underlying34
    clear h hA hl
    go_enter Try.func31, Try.ntmps31
    go_wp2_with fail
    go_ret
    exact ⟨none, 0, rfl, RecW.nil _ _ _ _, Below.refl _ _, fun _ => rfl⟩
  · have hq := fun w => Lib.run_eql_slice_nil (P := Try.prog) w 34 72 (some a) n c 0 0 Try.underlying34
    have hb : Below w.heap.size w (w.alloc (.cells #[] 72)) := (Below.refl _ _).alloc (Nat.le_refl _) _
    have h0 : RecW (w.alloc (.cells #[] 72)) w.heap.size 72 2 (.slice (some ⟨w.heap.size, 0, none⟩) 0 0) [] := ⟨World.ownsRow_made w #[] 0 (Nat.le_refl _) (by unfold maxLen; omega) rfl, wide_nil _⟩
    obtain ⟨V', w', happ, hr', hg', _, _⟩ := h0.app 34 72 _ 2 16 Try.underlying34 info_hit rfl (by decide) (h.below hb) (c := c) (fun h => by cases h) (by simp only [List.length_nil]; unfold maxLen; omega) (by simp only [List.length_nil]; omega) (by simp)
    rw [List.nil_append] at hr'
    obtain ⟨A', c', hV, -, -, hA'⟩ := hr'.slice
    rw [hl] at hV
    subst hV
    have hb2 : Below w.heap.size w w' := hb.grown hg' (Nat.le_of_lt (by simp)) (by intro k hk; injection hk with hk; exact Nat.le_of_eq hk)
    have HF := Lib.hid (And.intro hr' (And.intro hb2 (fun h => (hA' h).2)))
    have HAPP := Lib.hid happ
    clear h h0 happ hr' hg' hb2 hb hA' hA hl
    go_enter Try.func31, Try.ntmps31
    go_wp2_with (at_builtin; refine wpList_append_run rfl _ _ 34 rfl rfl _ _ _ _ rfl rfl HAPP.out ?_)
    go_ret
    exact ⟨_, _, rfl, HF.out⟩
end Go.Proofs.Ytmmfioemnoijoaa
