/- Rows of ranges that the call owns: append of ranges, a store into the last one. -/
import Derived.Test.YtiiclhkibpmgmaaFaces
import Derived.Test.YtiiclhkibpmgmaaSetM
namespace Go.Proofs.Ytiiclhkibpmgmaa
open Go Go.RowKit
set_option linter.unusedVariables false

/-- append of ranges to a row of the call's own. -/
theorem app_inG' {W w : World} {P : Option Addr} {q pc : Nat} {xs : List (Int × Int)} (h : w.ownsRow W.heap.size 39 2 (.slice P q pc) q (cellsG xs)) {A : Option Addr} {n c : Nat} {s : List (Int × Int)} (hr : RowG w A n s) (hA : A = none → n = 0 ∧ c = 0) (hq : q ≤ 3000000) (hn : n ≤ 3000000) (hb : Below W.heap.size W w) :
    ∃ P' pc' w', (Builtin.append_ #[22, 22] 22 #[.slice P q pc, .slice A n c]).run Try.prog w = .ok (.slice P' (q + n) pc') w' ∧ w'.ownsRow W.heap.size 39 2 (.slice P' (q + n) pc') (q + n) (cellsG (xs ++ s)) ∧ Below W.heap.size W w' ∧ ∀ g, g < w.heap.size → (Value.slice P q pc).ownBlock ≠ some g → w'.heap[g]? = w.heap[g]? := by
  obtain ⟨i0, hi, hz0, hz1, hz2⟩ := info_parts info_rng
  have hl := hr.1
  rw [cellsG_append]
  rcases A with _ | ad
  · obtain ⟨rfl, rfl⟩ := hA rfl
    have hs : s = [] := List.eq_nil_of_length_eq_zero hl
    subst hs
    rw [show cellsG [] = [] from rfl, List.append_nil]
    exact ⟨P, pc, w, run_append_owned_none (P := Try.prog) w W.heap.size 22 22 39 i0 2 Try.underlying22 hi _ q _ h, h, hb, fun _ _ _ => rfl⟩
  · have hcells : ∀ j u, (cellsG s)[j]? = some u → w.cell? (ad.add j) = some u := by
      intro j u hu
      have hj : j < n * 2 := by
        have := cellsG_length s
        rcases Nat.lt_or_ge j (cellsG s).length with h1 | h1
        · omega
        · rw [List.getElem?_eq_none h1] at hu; cases hu
      obtain ⟨b, o, hA, _, hc⟩ := hr.2 (by omega)
      injection hA with hA
      subst hA
      have hadd : (⟨b, o, none⟩ : Addr).add j = ⟨b, o + j, none⟩ := by unfold Addr.add; split <;> simp_all
      obtain ⟨e0, e1⟩ := cellsG_at s (j / 2) (by omega)
      obtain ⟨c0, c1⟩ := hc (j / 2) (by omega)
      rw [hadd]
      rcases Nat.mod_two_eq_zero_or_one j with hm | hm
      · have e : j = j / 2 * 2 := by omega
        rw [e] at hu ⊢
        rw [e0] at hu
        rw [c0, hu]
      · have e : j = j / 2 * 2 + 1 := by omega
        rw [e] at hu ⊢
        rw [e1] at hu
        rw [← Nat.add_assoc, c1, hu]
    obtain ⟨V', w', h1, h2, h3, _⟩ := run_append_own (P := Try.prog) w W.heap.size 22 22 39 i0 _ 2 16 Try.underlying22 hi hz0 hz1 hz2 rfl (by decide) _ q _ h ad n c (cellsG s) (by rw [cellsG_length, hl]) hcells
      (by intro u hu; obtain ⟨p, _, hp⟩ := List.mem_flatMap.1 hu; simp at hp; rcases hp with rfl | rfl <;> rfl) (by unfold maxLen; omega) (by omega) hb.size
    have hb' : Below W.heap.size W w' := hb.grown h3 hb.size (by intro k hk; exact (row_lt h hk).1)
    have hk' : ∀ g, g < w.heap.size → (Value.slice P q pc).ownBlock ≠ some g → w'.heap[g]? = w.heap[g]? := fun g hg hne => h3.block g hg fun e => hne e.symm
    rcases h2.2 with ⟨rfl, h0⟩ | ⟨b, cap, cu, rfl, _⟩
    · rw [h0] at h2 ⊢
      exact ⟨none, 0, w', h1, h2, hb', hk'⟩
    · exact ⟨_, _, w', h1, h2, hb', hk'⟩
/-- .. without what stays. -/
theorem app_inG {W w : World} {P : Option Addr} {q pc : Nat} {xs : List (Int × Int)} (h : w.ownsRow W.heap.size 39 2 (.slice P q pc) q (cellsG xs)) {A : Option Addr} {n c : Nat} {s : List (Int × Int)} (hr : RowG w A n s) (hA : A = none → n = 0 ∧ c = 0) (hq : q ≤ 3000000) (hn : n ≤ 3000000) (hb : Below W.heap.size W w) :
    ∃ P' pc' w', (Builtin.append_ #[22, 22] 22 #[.slice P q pc, .slice A n c]).run Try.prog w = .ok (.slice P' (q + n) pc') w' ∧ w'.ownsRow W.heap.size 39 2 (.slice P' (q + n) pc') (q + n) (cellsG (xs ++ s)) ∧ Below W.heap.size W w' := by
  obtain ⟨P', pc', w', h1, h2, h3, _⟩ := app_inG' h hr hA hq hn hb
  exact ⟨P', pc', w', h1, h2, h3⟩
/-- Ranges that lie in a block just made. -/
theorem rowG_made (w : World) (s : List (Int × Int)) : RowG (w.alloc (.cells (cellsG s).toArray 39)) (some ⟨w.heap.size, 0, none⟩) s.length s := by
  refine ⟨rfl, fun hn => ⟨w.heap.size, 0, rfl, by simp, fun j hj => ?_⟩⟩
  obtain ⟨e1, e2⟩ := cellsG_at s j hj
  refine ⟨?_, ?_⟩
  · rw [cell_of_row _ w.heap.size (0 + j * 2) _ 39 (0, 0) (heap_alloc_new w _), ← e1, Nat.zero_add]; simp
  · rw [cell_of_row _ w.heap.size (0 + j * 2 + 1) _ 39 (0, 0) (heap_alloc_new w _), ← e2, Nat.zero_add]; simp
theorem ownG_alloc {w : World} {B : Nat} {v : Value} {n : Nat} {xs : List Value} (h : w.ownsRow B 39 2 v n xs) (o : Obj) : (w.alloc o).ownsRow B 39 2 v n xs :=
  row_keep h fun k hk _ => Below.heap_alloc w o k hk
theorem ownG_kept {w w' : World} {B : Nat} {v : Value} {n : Nat} {xs : List Value} (h : w.ownsRow B 39 2 v n xs) (hb : Below w.heap.size w w') : w'.ownsRow B 39 2 v n xs :=
  row_keep h fun k hk _ => hb.block k hk
/-- append of ranges that are listed. -/
theorem push_rngs {W w : World} {P : Option Addr} {q pc : Nat} {xs : List (Int × Int)} (h : w.ownsRow W.heap.size 39 2 (.slice P q pc) q (cellsG xs)) (s : List (Int × Int)) (hq : q ≤ 3000000) (hn : s.length ≤ 3000000) (hb : Below W.heap.size W w) :
    ∃ P' pc' w', (Builtin.append_ #[22, 22] 22 #[.slice P q pc, .slice (some ⟨w.heap.size, 0, none⟩) s.length s.length]).run Try.prog (w.alloc (.cells (cellsG s).toArray 39)) = .ok (.slice P' (q + s.length) pc') w' ∧ w'.ownsRow W.heap.size 39 2 (.slice P' (q + s.length) pc') (q + s.length) (cellsG (xs ++ s)) ∧ Below W.heap.size W w' :=
  app_inG (ownG_alloc h _) (rowG_made w s) (fun e => by cases e) hq hn (hb.alloc hb.size _)
/-- .. and what stays. -/
theorem push_keep {W w : World} {P : Option Addr} {q pc : Nat} {xs : List (Int × Int)} (h : w.ownsRow W.heap.size 39 2 (.slice P q pc) q (cellsG xs)) (s : List (Int × Int)) (hq : q ≤ 3000000) (hn : s.length ≤ 3000000) (hb : Below W.heap.size W w) :
    ∃ P' pc' w', (Builtin.append_ #[22, 22] 22 #[.slice P q pc, .slice (some ⟨w.heap.size, 0, none⟩) s.length s.length]).run Try.prog (w.alloc (.cells (cellsG s).toArray 39)) = .ok (.slice P' (q + s.length) pc') w' ∧ w'.ownsRow W.heap.size 39 2 (.slice P' (q + s.length) pc') (q + s.length) (cellsG (xs ++ s)) ∧ Below W.heap.size W w' ∧ ∀ g, g < w.heap.size → (Value.slice P q pc).ownBlock ≠ some g → w'.heap[g]? = w.heap[g]? := by
  obtain ⟨P', pc', w', h1, h2, h3, h4⟩ := app_inG' (ownG_alloc h (.cells (cellsG s).toArray 39)) (rowG_made w s) (fun e => by cases e) hq hn (hb.alloc hb.size _)
  exact ⟨P', pc', w', h1, h2, h3, fun g hg hne => (h4 g (by simp; omega) hne).trans (Below.heap_alloc w _ g hg)⟩
theorem nilG (w : World) (B : Nat) : w.ownsRow B 39 2 (.slice none 0 0) 0 (cellsG []) := World.ownsRow_nil _ _ _ _

/-- The last one's end is set. -/
theorem cellsG_last (v : List (Int × Int)) (q : Int × Int) (y : Int) : (cellsG (v ++ [q])).set (v.length * 2 + 1) (.int .i64 y) = cellsG (v ++ [(q.1, y)]) := by
  rw [cellsG_append, cellsG_append, List.set_append_right _ _ (by rw [cellsG_length]; omega), cellsG_length, show v.length * 2 + 1 - v.length * 2 = 1 by omega]
  rfl
theorem last_own {W w : World} {P : Option Addr} {n pc : Nat} {v : List (Int × Int)} {q : Int × Int} (h : w.ownsRow W.heap.size 39 2 (.slice P n pc) n (cellsG (v ++ [q]))) (hb : Below W.heap.size W w) :
    ∃ g, P = some ⟨g, 0, none⟩ ∧ n = v.length + 1 ∧ W.heap.size ≤ g ∧ g < w.heap.size ∧ n ≤ pc ∧ pc ≤ maxLen ∧ w.cell? ⟨g, v.length * 2, none⟩ = some (.int .i64 q.1) ∧ w.cell? ⟨g, v.length * 2 + 1, none⟩ = some (.int .i64 q.2) ∧ w.frozen? ⟨g, v.length * 2 + 1, none⟩ = false ∧
      ∀ y, (w.setCell ⟨g, v.length * 2 + 1, none⟩ (.int .i64 y)).ownsRow W.heap.size 39 2 (.slice P n pc) n (cellsG (v ++ [(q.1, y)])) ∧ Below W.heap.size W (w.setCell ⟨g, v.length * 2 + 1, none⟩ (.int .i64 y)) := by
  have hl := h.1
  rw [cellsG_length, List.length_append] at hl
  simp only [List.length_cons, List.length_nil] at hl
  rcases h.2 with ⟨e, h0⟩ | ⟨g, cap, cur, e, hB, hg, hnc, hcm, hcs, ht⟩
  · omega
  · injection e with e1 _ e3
    subst e1; subst e3
    obtain ⟨x1, x2⟩ := cellsG_at (v ++ [q]) v.length (by simp)
    have hd : (v ++ [q]).getD v.length (0, 0) = q := by simp [List.getD]
    rw [hd] at x1 x2
    have hc : ∀ j, j < n * 2 → w.cell? ⟨g, j, none⟩ = (cellsG (v ++ [q]))[j]? := fun j hj => by
      rw [cell_of_row w g j cur 39 (0, 0) hg, ← ht, List.getElem?_take_of_lt hj, Array.getElem?_toList]
    refine ⟨g, rfl, by omega, hB, (Array.getElem?_eq_some_iff.1 hg).1, hnc, hcm, by rw [hc _ (by omega), x1], by rw [hc _ (by omega), x2], by simp [World.frozen?, hg], fun y => ?_⟩
    obtain ⟨s1, s2⟩ := h.stored (v.length * 2 + 1) (.int .i64 y)
    rw [cellsG_last] at s1
    exact ⟨s1, hb.grown s2 hb.size (by intro k hk; injection hk with hk; omega)⟩
end Go.Proofs.Ytiiclhkibpmgmaa
