/- The writer's loops and alternatives: right instructions, so many. -/
import Derived.Test.YtegcebgoiocakaaP01
namespace Go.Proofs.Ytegcebgoiocakaa
open Go Go.RowKit
set_option linter.unusedVariables false
set_option maxRecDepth 20000

/-- A split that was put. -/
theorem split_st {B g q pc pc' : Nat} {w w' : World} {P P' : Option Addr} {xs : List IV} (h1 : WrS B g w' P' (q + 1) pc' (xs ++ [⟨⟨2, [], (q : Int) + 1, 0⟩, none, 0, 0⟩])) (h2 : Wk B g (.slice P q pc) w w') (h3 : Vk w (.slice P q pc) (.slice P' (q + 1) pc')) : StY B g w P q pc xs 1 w' P' pc' (xs ++ [⟨⟨2, [], (q : Int) + 1, 0⟩, none, 0, 0⟩]) :=
  StY.one (okI_put (.inr (.inl rfl)) (by decide)) (fun _ _ h => absurd h (Nat.lt_irrefl 0)) h1 h2 h3
set_option maxHeartbeats 8000000 in
theorem loop_anyY {B g q pc c : Nat} {w : World} {P : Option Addr} {xs : List IV} {v : Value} (h : WrS B g w P q pc xs) (hq : q + c + 2 ≤ 20000)
    (HR : ∀ w1 P1 pc1 xs1, Below B w w1 → WrS B g w1 P1 (q + 1) pc1 xs1 → Calls Try.prog 66 #[.pointer (some ⟨g, 0, none⟩), v] w1 (AddedY B g w1 P1 (q + 1) pc1 xs1 c)) :
    Calls Try.prog 92 #[.pointer (some ⟨g, 0, none⟩), v] w (AddedY B g w P q pc xs (c + 2)) := by
  have hgl := h.lt
  have hxq := h.len
  have HXQ := Lib.hid hxq
  clear hxq
  have HSp := Lib.hid (split_any h (by omega))
  have HRo := Lib.hid HR
  clear h HR
  go_enter Try.func92, Try.ntmps92
  go_wp2_with (first
    | (go_at_call 90; (with_reducible refine HSp.out.mono ?_); rintro e w1 ⟨bx, ix, rfl, hh, hbx, hix, P1, pc1, k1, k2, k3, k4, k5⟩; have HS1 := Lib.hid (split_st k1 k2 k3); have HH := Lib.hid (And.intro hh (And.intro hbx (And.intro hix (And.intro k4 k5)))); have HC := Lib.hid (HRo.out w1 P1 pc1 _ k2.1 k1); have g1 : w1.cell? ⟨g, 0, none⟩ = some (.slice P1 (q + 1) pc1) := cell_of_row w1 g 0 _ _ (0, 0) k1.hg; clear hh hbx hix k1 k2 k3 k4 k5)
    | (go_at_call 66; (with_reducible refine HC.out.mono ?_); rintro e w2 ⟨rfl, P2, pc2, xs2, k1⟩; have HS2 := Lib.hid k1; have g2 : w2.cell? ⟨g, 0, none⟩ = some (.slice P2 (q + 1 + c) pc2) := cell_of_row w2 g 0 _ _ (0, 0) k1.1.hg; clear k1))
  have HPu : Hid (∀ (X : World) (d : Nat), Below w2.heap.size w2 X → X.heap[d]? = some (.cells #[.int .i64 2, .slice none 0 0, .int .i64 ((q : Int) + 1), .int .i64 ((q : Int) + 1 + (c : Int) + 1)] 45 (0, 0)) → ∃ v' w', (Builtin.append_ #[23, 23] 23 #[.slice P2 (q + 1 + c) pc2, .slice (some ⟨d, 0, none⟩) 1 1]).run Try.prog X = .ok v' w' ∧ PutR B g P2 (q + 1 + c) pc2 xs2 ⟨⟨2, [], (q : Int) + 1, (q : Int) + 1 + (c : Int) + 1⟩, none, 0, 0⟩ w2 v' w') := Lib.hid fun X d hX hd => put_ex HS2.out.1 (rowF_nil _ _) hX hd (by omega)
  have hw : IntKind.i64.wrap ((q : Int) + 1 + (c : Int) + 1) = (q : Int) + 1 + (c : Int) + 1 := by rw [IntKind.wrap_i64]; omega
  have g3 : ∀ o, (w2.alloc o).cell? ⟨g, 0, none⟩ = some (.slice P2 (q + 1 + c) pc2) := fun o => cell_of_row _ g 0 _ _ (0, 0) ((Below.heap_alloc w2 o g HS2.out.1.lt).trans HS2.out.1.hg)
  clear g1
  go_region_law (first | (refine step_append_ex rfl (.tmp 20) (.tmp 29) 23 rfl rfl _ _ (by rfl) (by rfl) _ (HPu.out _ _ (by first | exact (Below.refl _ _).alloc (Nat.le_refl _) _ | exact ((Below.refl _ _).alloc (Nat.le_refl _) _).drew | exact (Below.refl _ _).drew.alloc (by simp) _) (by first | exact hp_new rfl | exact hp_drew (hp_new rfl) | exact hp_new (by simp) | exact hp_drew (hp_new (by simp)))) ?_; intro v' w' hR; obtain ⟨P3, pc3, rfl, hc1, hc2, hR1, hR2, hR3⟩ := hR))
  all_goals
    have HPR := Lib.hid (And.intro hR1 (And.intro hR2 hR3))
    obtain ⟨w4, hw4⟩ : ∃ w4, w4 = w'.setCell ⟨g, 0, none⟩ (.slice P3 (q + 1 + c + 1) pc3) := ⟨_, rfl⟩
    rw [← hw4] at HPR
    rw [← hw4]
    have hne := HH.out
    have hh2 := hne.1.keep HS2.out.2.2.1 (by omega) (by omega) hne.2.2.2.1 hne.2.2.2.2
    have n3 := HS2.out.2.2.2 bx hne.1.lt.1 hne.2.2.2.1
    have n4 := HS2.out.2.2.2 ix hne.1.lt.2 hne.2.2.2.2
    have hh4 := hh2.keep HPR.out.2.1 (by omega) (by omega) n3 n4
    have HHe := Lib.hid (here_any HPR.out.1 hh4 (i := q) (by omega) (by omega))
    clear hw4 hR1 hR2 hR3 hc1 hc2 hne hh2 n3 n4 hh4 g2 g3 hw
    go_wp2_with (go_at_call 101; (with_reducible refine HHe.out.mono ?_); rintro e w5 ⟨rfl, k1, k2⟩; have HF := Lib.hid (And.intro k1 k2); clear k1 k2)
    go_end0
    have h3 : StY B g w2 P2 (q + 1 + c) pc2 xs2 1 w4 P3 pc3 _ := StY.one (v := ⟨⟨2, [], (q : Int) + 1, (q : Int) + 1 + (c : Int) + 1⟩, none, 0, 0⟩) ⟨.inr (.inl rfl), by show (0 : Int) ≤ (q : Int) + 1; omega, by show (q : Int) + 1 ≤ ((q + 1 + c + 1 : Nat) : Int); omega, by show (0 : Int) ≤ (q : Int) + 1 + (c : Int) + 1; omega, by show (q : Int) + 1 + (c : Int) + 1 ≤ ((q + 1 + c + 1 : Nat) : Int); omega, Nat.zero_le _⟩ (fun _ _ h => absurd h (Nat.lt_irrefl 0)) HPR.out.1 HPR.out.2.1 HPR.out.2.2
    have h123 := (HS1.out.trans HS2.out).trans (by rw [← Nat.add_assoc]; exact h3)
    rw [show 1 + c + 1 = c + 2 by omega] at h123
    refine ⟨rfl, P3, pc3, _, h123.turn (f := fun v => { v with y := ((q + 1 + c + 1 : Nat) : Int) }) (Nat.le_refl q) HXQ.out (fun v hv => hv.y (by omega)) ?_ ?_⟩
    · rw [show q + (c + 2) = q + 1 + c + 1 by omega]; exact HF.out.1
    · rw [show q + (c + 2) = q + 1 + c + 1 by omega]; exact HF.out.2
end Go.Proofs.Ytegcebgoiocakaa
