/- What came in: a list of ranges, each a struct of two whole numbers. -/
import Derived.Test.YtiiclhkibpmgmaaRngM
import Derived.Deep.Slices
import Derived.Deep.Fields
import Derived.ChangeSame
import Derived.OpenShut
import Derived.ProofKit
namespace Go.Proofs.Ytiiclhkibpmgmaa
open Go Go.RowKit Go.ChangeShapes Go.WideShapes Go.ChangeAt
set_option linter.unusedVariables false

theorem int_cells1 : Try.prog.cellsOf 3 = 1 := by kernel_rfl
/-- A list of ranges that came in. -/
def InG (w : World) (A : Option Addr) (n c : Nat) (s : List (Int × Int)) : Prop :=
  RowG w A n s ∧ n ≤ c ∧ c ≤ maxLen ∧ (A = none → n = 0 ∧ c = 0) ∧ ∀ p ∈ s, (Lit.int .i64 p.1).wf = true ∧ (Lit.int .i64 p.2).wf = true

section
variable {H : Type} {enc : TypeId × Value → H} {W : World} {base : Nat} {held : Bool}
/-- The list of ranges, opened. -/
theorem rngs_of {a : Option Addr} {len cap fuel : Nat} {x : DataW H × List MemPlace} (hf : DataW.trod enc Try.prog W base (fun _ => true) held fuel 22 [.slice a len cap] = some x) : ∃ xs, InG W a len cap xs := by
  rcases Go.Deep.open_slice Try.underlying22 hf with ⟨hcs, _⟩ | ⟨ad, l, c, m, n, D, Pl, hcs, _, hl, hm, hmm, _, hel⟩
  · simp at hcs
    obtain ⟨rfl, rfl, rfl⟩ := hcs
    exact ⟨[], ⟨rfl, fun h => absurd h (by omega)⟩, Nat.le_refl _, Nat.zero_le _, fun _ => ⟨rfl, rfl⟩, by simp⟩
  · simp at hcs
    obtain ⟨rfl, rfl, rfl⟩ := hcs
    simp only [if_true] at hmm
    subst hmm
    rw [rng_cells] at hel
    have each : ∀ i, ∃ y : Int × Int, i < m → W.cell? (ad.add (i * 2)) = some (.int .i64 y.1) ∧ W.cell? ((ad.add (i * 2)).add 1) = some (.int .i64 y.2) ∧ (Lit.int .i64 y.1).wf = true ∧ (Lit.int .i64 y.2).wf = true := by
      intro i
      by_cases hi : i < m
      · obtain ⟨cs', hc, ht⟩ := hel i hi
        obtain ⟨_, hcl, hat⟩ := World.cells?_some hc
        obtain ⟨ys, n', _, _, _, hyl, hfl⟩ := DataW.trod_struct Try.underlying39 ht
        match cs', hcl with
        | [c0, c1], _ =>
          match ys, hyl with
          | [y0, y1], _ =>
            have q0 : DataW.trod enc Try.prog W base (fun _ => true) held n' 3 [c0] = some y0 := by
              have h := hfl 0 _ rfl
              change DataW.trod enc Try.prog W base (fun _ => true) held n' 3 (List.take (Try.prog.cellsOf 3) [c0, c1]) = some y0 at h
              rw [int_cells1] at h
              exact h
            have q1 : DataW.trod enc Try.prog W base (fun _ => true) held n' 3 [c1] = some y1 := by
              have h := hfl 1 _ rfl
              change DataW.trod enc Try.prog W base (fun _ => true) held n' 3 (List.take (Try.prog.cellsOf 3) [c1]) = some y1 at h
              rw [int_cells1] at h
              exact h
            obtain ⟨k, e0, _, z0⟩ := DataW.trod_int Try.underlying3 q0
            obtain ⟨i1, e1, _, z1⟩ := DataW.trod_int Try.underlying3 q1
            injection e0 with e0
            injection e1 with e1
            have a0 := hat 0 (by omega)
            have a1 := hat 1 (by omega)
            have hz : (ad.add (i * 2)).add 0 = ad.add (i * 2) := by simp [Addr.add]
            rw [hz] at a0
            refine ⟨(k, i1), fun _ => ⟨?_, ?_, z0, z1⟩⟩
            · rw [a0, e0]; rfl
            · rw [a1, e1]; rfl
      · exact ⟨(0, 0), fun h => absurd h hi⟩
    obtain ⟨f, hfn⟩ := Classical.axiomOfChoice each
    refine ⟨(List.range len).map f, ⟨by simp, fun hn => ?_⟩, hl, hm, (fun h => by cases h), fun p hp => ?_⟩
    · obtain ⟨b, off, spot⟩ := ad
      obtain ⟨h0, _⟩ := hfn 0 (by omega)
      have hspot : spot = none := by simpa [Addr.add] using World.cell?_spot h0
      subst hspot
      refine ⟨b, off, rfl, World.block_lt_of_cell? W (⟨b, off, none⟩ : Addr) (by simpa [Addr.add] using h0), fun j hj => ?_⟩
      obtain ⟨g0, g1, _⟩ := hfn j (by omega)
      have hadd : ∀ (o i : Nat), (⟨b, o, none⟩ : Addr).add i = ⟨b, o + i, none⟩ := fun o i => by unfold Addr.add; split <;> simp_all
      rw [hadd] at g0 g1
      rw [hadd] at g1
      have e : ((List.range len).map f).getD j (0, 0) = f j := by simp [List.getD, hj]
      rw [e]
      exact ⟨g0, g1⟩
    · obtain ⟨i, hi, rfl⟩ := List.mem_map.1 hp
      have := hfn i (by have := List.mem_range.1 hi; omega)
      exact ⟨this.2.2.1, this.2.2.2⟩
end
end Go.Proofs.Ytiiclhkibpmgmaa
