/- Rows of whole numbers: one behind the other, and read. -/
import Derived.Test.YtiiclhkibpmgmaaRngE
import Derived.Test.YtiiclhkibpmgmaaFaces
namespace Go.Proofs.Ytiiclhkibpmgmaa
open Go Go.RowKit
set_option linter.unusedVariables false

/-- append of a row of whole numbers to a row of the call's own. -/
theorem rowsI_append {W w : World} {B2 : Nat} {P P2 : Option Addr} {q pc q2 pc2 : Nat} {xs ys : List Int} (h : w.ownsRow W.heap.size 3 1 (.slice P q pc) q (xs.map (.int .i64))) (h2 : w.ownsRow B2 3 1 (.slice P2 q2 pc2) q2 (ys.map (.int .i64))) (hq : q ≤ 100000) (hq2 : q2 ≤ 100000) (hb : Below W.heap.size W w) :
    ∃ P' pc' w', (Builtin.append_ #[27, 27] 27 #[.slice P q pc, .slice P2 q2 pc2]).run Try.prog w = .ok (.slice P' (q + q2) pc') w' ∧
      w'.ownsRow W.heap.size 3 1 (.slice P' (q + q2) pc') (q + q2) ((xs ++ ys).map (.int .i64)) ∧ Below W.heap.size W w' := by
  obtain ⟨i0, hi, hz0, hz1, hz2⟩ := info_parts info_int
  rw [List.map_append]
  rcases h2.2 with ⟨e1, e2⟩ | ⟨g2, cap2, cu2, e1, hb2, hg2, hn2, hm2, hc2, ht2⟩
  · injection e1 with e3 e4 e5
    subst e3; subst e4; subst e5
    have e6 : ys.map (Value.int .i64) = [] := List.eq_nil_of_length_eq_zero (by simpa using h2.1)
    rw [e6, List.append_nil]
    exact ⟨P, pc, w, run_append_owned_none (P := Try.prog) w W.heap.size 27 27 3 i0 1 Try.underlying27 hi _ q _ h, h, hb⟩
  · injection e1 with e3 e4 e5
    subst e3
    obtain ⟨V', w', r1, r2, r3, _⟩ := run_append_own (P := Try.prog) w W.heap.size 27 27 3 i0 _ 1 8 Try.underlying27 hi hz0 hz1 hz2 rfl (by decide) _ q _ h ⟨g2, 0, none⟩ q2 pc2 (ys.map (.int .i64)) (by simpa using h2.1)
      (h2.cells (g := g2) rfl) (by intro u hu; obtain ⟨x, _, rfl⟩ := List.mem_map.1 hu; rfl) (by unfold maxLen; omega) (by omega) hb.size
    have hb' : Below W.heap.size W w' := hb.grown r3 hb.size (by intro k hk; exact (row_lt h hk).1)
    rcases r2.2 with ⟨rfl, h0⟩ | ⟨b, cap, cu, rfl, _⟩
    · rw [h0] at r2 ⊢
      exact ⟨none, 0, w', r1, r2, hb'⟩
    · exact ⟨_, _, w', r1, r2, hb'⟩
/-- An element of it. -/
theorem cellI {w : World} {B q pc : Nat} {P : Option Addr} {xs : List Int} (h : w.ownsRow B 3 1 (.slice P q pc) q (xs.map (.int .i64))) {i : Nat} (hi : i < q) : ∃ g, P = some ⟨g, 0, none⟩ ∧ w.cell? ⟨g, i, none⟩ = some (.int .i64 (xs.getD i 0)) := by
  have hl : xs.length = q := by simpa using h.1
  rcases h.2 with ⟨e, h0⟩ | ⟨g, cap, cu, e, _⟩
  · omega
  · injection e with e1 _ _
    subst e1
    refine ⟨g, rfl, ?_⟩
    rw [h.cellAt i (by omega), List.getElem?_map, List.getElem?_eq_getElem (by omega)]
    simp [List.getD, List.getElem?_eq_getElem (show i < xs.length by omega)]
theorem inR_of {s : List (Int × Int)} {v : Int} (h : inR v = false) : hasL s v = false := by
  cases hx : hasL s v with
  | false => rfl
  | true =>
    have := hasL_in hx
    unfold inR at h
    rw [decide_eq_true (by omega)] at h
    cases h
end Go.Proofs.Ytiiclhkibpmgmaa
