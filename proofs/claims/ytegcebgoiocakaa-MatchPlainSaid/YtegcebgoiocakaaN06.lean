/- A program that came in: a list of instructions, each a struct of four fields. -/
import Derived.Test.YtegcebgoiocakaaM02
import Derived.Test.YtegcebgoiocakaaM04
import Derived.Test.YtegcebgoiocakaaM06
import Derived.Deep.Slices
import Derived.Deep.Fields
import Derived.ChangeSame
import Derived.OpenShut
import Derived.ProofKit
namespace Go.Proofs.Ytegcebgoiocakaa
open Go Go.RowKit Go.ChangeShapes Go.WideShapes Go.ChangeAt
set_option linter.unusedVariables false
set_option maxRecDepth 20000

theorem ins_cells : Try.prog.cellsOf 45 = 4 := by kernel_rfl
theorem ins_int : Try.prog.cellsOf 3 = 1 := by kernel_rfl
theorem ins_set : Try.prog.cellsOf 43 = 1 := by kernel_rfl
section
variable {H : Type} {enc : TypeId × Value → H} {W : World} {base : Nat} {held : Bool}
theorem ins_of {a : Option Addr} {len cap fuel : Nat} {x : DataW H × List MemPlace} (hf : DataW.trod enc Try.prog W base (fun _ => true) held fuel 23 [.slice a len cap] = some x) : ∃ xs, InsAt W a len xs := by
  rcases Go.Deep.open_slice Try.underlying23 hf with ⟨hcs, _⟩ | ⟨ad, l, c, m, n, D, Pl, hcs, _, hl, hm, hmm, _, hel⟩
  · simp at hcs
    obtain ⟨rfl, rfl, rfl⟩ := hcs
    exact ⟨[], ⟨rfl, fun h => absurd h (by omega)⟩⟩
  · simp at hcs
    obtain ⟨rfl, rfl, rfl⟩ := hcs
    simp only [if_true] at hmm
    subst hmm
    rw [ins_cells] at hel
    have each : ∀ i, ∃ y : IV, i < m → W.cell? (ad.add (i * 4)) = some (.int .i64 y.i.op) ∧ W.cell? ((ad.add (i * 4)).add 1) = some (.slice y.A y.n y.c) ∧ W.cell? ((ad.add (i * 4)).add 2) = some (.int .i64 y.i.x) ∧ W.cell? ((ad.add (i * 4)).add 3) = some (.int .i64 y.i.y) := by
      intro i
      by_cases hi : i < m
      · obtain ⟨cs', hc, ht⟩ := hel i hi
        obtain ⟨_, hcl, hat⟩ := World.cells?_some hc
        obtain ⟨ys, n', _, _, _, hyl, hfl⟩ := DataW.trod_struct Try.underlying45 ht
        match cs', hcl with
        | [c0, c1, c2, c3], _ =>
          match ys, hyl with
          | [y0, y1, y2, y3], _ =>
            have q0 : DataW.trod enc Try.prog W base (fun _ => true) held n' 3 [c0] = some y0 := by
              have h := hfl 0 _ rfl
              change DataW.trod enc Try.prog W base (fun _ => true) held n' 3 (List.take (Try.prog.cellsOf 3) [c0, c1, c2, c3]) = some y0 at h
              rw [ins_int] at h
              exact h
            have q1 : DataW.trod enc Try.prog W base (fun _ => true) held n' 43 [c1] = some y1 := by
              have h := hfl 1 _ rfl
              change DataW.trod enc Try.prog W base (fun _ => true) held n' 43 (List.take (Try.prog.cellsOf 43) [c1, c2, c3]) = some y1 at h
              rw [ins_set] at h
              exact h
            have q2 : DataW.trod enc Try.prog W base (fun _ => true) held n' 3 [c2] = some y2 := by
              have h := hfl 2 _ rfl
              change DataW.trod enc Try.prog W base (fun _ => true) held n' 3 (List.take (Try.prog.cellsOf 3) [c2, c3]) = some y2 at h
              rw [ins_int] at h
              exact h
            have q3 : DataW.trod enc Try.prog W base (fun _ => true) held n' 3 [c3] = some y3 := by
              have h := hfl 3 _ rfl
              change DataW.trod enc Try.prog W base (fun _ => true) held n' 3 (List.take (Try.prog.cellsOf 3) [c3]) = some y3 at h
              rw [ins_int] at h
              exact h
            obtain ⟨k, e0, _, _⟩ := DataW.trod_int Try.underlying3 q0
            obtain ⟨i2, e2, _, _⟩ := DataW.trod_int Try.underlying3 q2
            obtain ⟨i3, e3, _, _⟩ := DataW.trod_int Try.underlying3 q3
            obtain ⟨D', l', d', hc1⟩ : ∃ D' l' d', c1 = .slice D' l' d' := by
              rcases Go.Deep.open_slice Try.underlying43 q1 with ⟨hcs, _⟩ | ⟨ad', l', c', m', n'', D', Pl', hcs, _⟩
              · simp at hcs
                exact ⟨_, _, _, hcs⟩
              · simp at hcs
                exact ⟨_, _, _, hcs⟩
            injection e0 with e0
            injection e2 with e2
            injection e3 with e3
            have a0 := hat 0 (by omega)
            have a1 := hat 1 (by omega)
            have a2 := hat 2 (by omega)
            have a3 := hat 3 (by omega)
            have hz : (ad.add (i * 4)).add 0 = ad.add (i * 4) := by simp [Addr.add]
            rw [hz] at a0
            refine ⟨⟨⟨k, [], i2, i3⟩, D', l', d'⟩, fun _ => ⟨?_, ?_, ?_, ?_⟩⟩
            · rw [a0, e0]; rfl
            · rw [a1, hc1]; rfl
            · rw [a2, e2]; rfl
            · rw [a3, e3]; rfl
      · exact ⟨⟨⟨0, [], 0, 0⟩, none, 0, 0⟩, fun h => absurd h hi⟩
    obtain ⟨f, hfn⟩ := Classical.axiomOfChoice each
    refine ⟨(List.range len).map f, ⟨by simp, fun hn => ?_⟩⟩
    obtain ⟨b, off, spot⟩ := ad
    obtain ⟨h0, _⟩ := hfn 0 (by omega)
    have hspot : spot = none := by simpa [Addr.add] using World.cell?_spot h0
    subst hspot
    refine ⟨b, off, rfl, World.block_lt_of_cell? W (⟨b, off, none⟩ : Addr) (by simpa [Addr.add] using h0), fun j v hv k u hu => ?_⟩
    have hj : j < len := by have := (List.getElem?_eq_some_iff.1 hv).1; simpa using this
    have hvf : v = f j := by
      rw [List.getElem?_map, List.getElem?_range hj] at hv
      injection hv with hv
      exact hv.symm
    subst hvf
    obtain ⟨g0, g1, g2, g3⟩ := hfn j (by omega)
    have hadd : ∀ (o i : Nat), (⟨b, o, none⟩ : Addr).add i = ⟨b, o + i, none⟩ := fun o i => by unfold Addr.add; split <;> simp_all
    simp only [hadd] at g0 g1 g2 g3
    have hk : k < 4 := (List.getElem?_eq_some_iff.1 hu).1
    rcases (show k = 0 ∨ k = 1 ∨ k = 2 ∨ k = 3 by omega) with rfl | rfl | rfl | rfl
    · injection hu with hu; subst hu; exact g0
    · injection hu with hu; subst hu; exact g1
    · injection hu with hu; subst hu; exact g2
    · injection hu with hu; subst hu; exact g3
end
end Go.Proofs.Ytegcebgoiocakaa
/- What came in: a list of ranges, each a struct of two whole numbers. -/
namespace Go.Proofs.Ytegcebgoiocakaa
open Go Go.RowKit Go.ChangeShapes Go.WideShapes Go.ChangeAt
set_option linter.unusedVariables false
set_option maxRecDepth 20000

theorem int_cells1 : Try.prog.cellsOf 3 = 1 := by kernel_rfl
/-- A list of ranges that came in. -/
def InG (w : World) (A : Option Addr) (n c : Nat) (s : List (Int × Int)) : Prop :=
  RowG w A n s ∧ n ≤ c ∧ c ≤ maxLen ∧ (A = none → n = 0 ∧ c = 0) ∧ ∀ p ∈ s, (Lit.int .i64 p.1).wf = true ∧ (Lit.int .i64 p.2).wf = true

section
variable {H : Type} {enc : TypeId × Value → H} {W : World} {base : Nat} {held : Bool}
/-- The list of ranges, opened. -/
theorem rngs_of {a : Option Addr} {len cap fuel : Nat} {x : DataW H × List MemPlace} (hf : DataW.trod enc Try.prog W base (fun _ => true) held fuel 43 [.slice a len cap] = some x) : ∃ xs, InG W a len cap xs := by
  rcases Go.Deep.open_slice Try.underlying43 hf with ⟨hcs, _⟩ | ⟨ad, l, c, m, n, D, Pl, hcs, _, hl, hm, hmm, _, hel⟩
  · simp at hcs
    obtain ⟨rfl, rfl, rfl⟩ := hcs
    exact ⟨[], ⟨rfl, fun h => absurd h (by omega)⟩, Nat.le_refl _, Nat.zero_le _, fun _ => ⟨rfl, rfl⟩, by simp⟩
  · simp at hcs
    obtain ⟨rfl, rfl, rfl⟩ := hcs
    simp only [if_true] at hmm
    subst hmm
    rw [rng_cells] at hel
    have each : ∀ i, ∃ y : Int × Int, i < m → W.cell? (ad.add (i * 2)) = some (.int .i64 y.1) ∧ W.cell? ((ad.add (i * 2)).add 1) = some (.int .i64 y.2) ∧ (Lit.int .i64 y.1).wf = true ∧ (Lit.int .i64 y.2).wf = true := by
      intro i
      by_cases hi : i < m
      · obtain ⟨cs', hc, ht⟩ := hel i hi
        obtain ⟨_, hcl, hat⟩ := World.cells?_some hc
        obtain ⟨ys, n', _, _, _, hyl, hfl⟩ := DataW.trod_struct Try.underlying103 ht
        match cs', hcl with
        | [c0, c1], _ =>
          match ys, hyl with
          | [y0, y1], _ =>
            have q0 : DataW.trod enc Try.prog W base (fun _ => true) held n' 3 [c0] = some y0 := by
              have h := hfl 0 _ rfl
              change DataW.trod enc Try.prog W base (fun _ => true) held n' 3 (List.take (Try.prog.cellsOf 3) [c0, c1]) = some y0 at h
              rw [int_cells1] at h
              exact h
            have q1 : DataW.trod enc Try.prog W base (fun _ => true) held n' 3 [c1] = some y1 := by
              have h := hfl 1 _ rfl
              change DataW.trod enc Try.prog W base (fun _ => true) held n' 3 (List.take (Try.prog.cellsOf 3) [c1]) = some y1 at h
              rw [int_cells1] at h
              exact h
            obtain ⟨k, e0, _, z0⟩ := DataW.trod_int Try.underlying3 q0
            obtain ⟨i1, e1, _, z1⟩ := DataW.trod_int Try.underlying3 q1
            injection e0 with e0
            injection e1 with e1
            have a0 := hat 0 (by omega)
            have a1 := hat 1 (by omega)
            have hz : (ad.add (i * 2)).add 0 = ad.add (i * 2) := by simp [Addr.add]
            rw [hz] at a0
            refine ⟨(k, i1), fun _ => ⟨?_, ?_, z0, z1⟩⟩
            · rw [a0, e0]; rfl
            · rw [a1, e1]; rfl
      · exact ⟨(0, 0), fun h => absurd h hi⟩
    obtain ⟨f, hfn⟩ := Classical.axiomOfChoice each
    refine ⟨(List.range len).map f, ⟨by simp, fun hn => ?_⟩, hl, hm, (fun h => by cases h), fun p hp => ?_⟩
    · obtain ⟨b, off, spot⟩ := ad
      obtain ⟨h0, _⟩ := hfn 0 (by omega)
      have hspot : spot = none := by simpa [Addr.add] using World.cell?_spot h0
      subst hspot
      refine ⟨b, off, rfl, World.block_lt_of_cell? W (⟨b, off, none⟩ : Addr) (by simpa [Addr.add] using h0), fun j hj => ?_⟩
      obtain ⟨g0, g1, _⟩ := hfn j (by omega)
      have hadd : ∀ (o i : Nat), (⟨b, o, none⟩ : Addr).add i = ⟨b, o + i, none⟩ := fun o i => by unfold Addr.add; split <;> simp_all
      rw [hadd] at g0 g1
      rw [hadd] at g1
      have e : ((List.range len).map f).getD j (0, 0) = f j := by simp [List.getD, hj]
      rw [e]
      exact ⟨g0, g1⟩
    · obtain ⟨i, hi, rfl⟩ := List.mem_map.1 hp
      have := hfn i (by have := List.mem_range.1 hi; omega)
      exact ⟨this.2.2.1, this.2.2.2⟩
end
end Go.Proofs.Ytegcebgoiocakaa
/- The document's Size of trees. -/
namespace Go.Proofs.Ytegcebgoiocakaa
open Go Go.RowKit
set_option linter.unusedVariables false
set_option maxRecDepth 20000

theorem size_nth : ∀ (a : Wood) (j : Nat), j < a.len → (a.nth j).size ≤ a.size
  | .nil, _, h => by simp [Wood.len] at h
  | .cons .., 0, _ => by simp only [Wood.nth, Wood.size]; omega
  | .cons _ _ _ _ _ x, j + 1, h => by
    have := size_nth x j (by simp only [Wood.len] at h; omega)
    simp only [Wood.nth, Wood.size]; omega
theorem size_take (a : Wood) (j : Nat) (h : j < a.len) : (a.take (j + 1)).size = (a.take j).size + (a.nth j).size := by
  rw [Wood.take_succ a j h, Wood.size_app]
theorem size_take_le : ∀ (a : Wood) (j : Nat), (a.take j).size ≤ a.size
  | .nil, j => by cases j <;> exact Nat.le_refl _
  | .cons .., 0 => by simp [Wood.take, Wood.size]
  | .cons _ _ _ _ _ x, j + 1 => by have := size_take_le x j; simp only [Wood.take, Wood.size]; omega

end Go.Proofs.Ytegcebgoiocakaa
