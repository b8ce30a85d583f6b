/- A row of truth values that came in. -/
import Derived.Test.YtebmafghekfllaaDoorRec
import Derived.Deep.Slices
import Derived.Deep.Fields
import Derived.ChangeSame
namespace Go.Proofs.YtebmafghekfllaaDoor
open Go Go.RowKit Go.ChangeShapes Go.WideShapes Go.ChangeAt
set_option linter.unusedVariables false
set_option maxRecDepth 20000

/-- A row of truth values. -/
def RowBo (w : World) (A : Option Addr) (n : Nat) (l : List Bool) : Prop :=
  l.length = n ∧ (0 < n → ∃ b o, A = some ⟨b, o, none⟩ ∧ b < w.heap.size ∧ ∀ j v, l[j]? = some v → w.cell? ⟨b, o + j, none⟩ = some (.bool v))
theorem RowBo.below {w w' : World} {A : Option Addr} {n : Nat} {l : List Bool} (h : RowBo w A n l) (hb : Below w.heap.size w w') : RowBo w' A n l := by
  refine ⟨h.1, fun hn => ?_⟩
  obtain ⟨b, o, hA, hlt, hc⟩ := h.2 hn
  exact ⟨b, o, hA, Nat.lt_of_lt_of_le hlt hb.size, fun j v hv => (hb.cell (p := ⟨b, o + j, none⟩) hlt).trans (hc j v hv)⟩
theorem bool_cells : Tryd.prog.cellsOf 4 = 1 := by kernel_rfl
section
variable {H : Type} {enc : TypeId × Value → H} {W : World} {base : Nat} {held : Bool}
theorem bools_of {a : Option Addr} {len cap fuel : Nat} {x : DataW H × List MemPlace} (hf : DataW.trod enc Tryd.prog W base (fun _ => true) held fuel 44 [.slice a len cap] = some x) : ∃ xs, RowBo W a len xs := by
  rcases Go.Deep.open_slice Tryd.underlying44 hf with ⟨hcs, _⟩ | ⟨ad, l, c, m, n, D, Pl, hcs, _, hl, hm, hmm, _, hel⟩
  · simp at hcs
    obtain ⟨rfl, rfl, rfl⟩ := hcs
    exact ⟨[], rfl, fun h => absurd h (by omega)⟩
  · simp at hcs
    obtain ⟨rfl, rfl, rfl⟩ := hcs
    simp only [if_true] at hmm
    subst hmm
    rw [bool_cells] at hel
    have each : ∀ i, ∃ y : Bool, i < m → W.cell? (ad.add i) = some (.bool y) := by
      intro i
      by_cases hi : i < m
      · obtain ⟨cs', hc, ht⟩ := hel i hi
        obtain ⟨_, hcl, hat⟩ := World.cells?_some hc
        obtain ⟨b, e, _⟩ := DataW.trod_bool Tryd.underlying4 ht
        subst e
        have a0 := hat 0 (by simp)
        have hz : ∀ q : Addr, q.add 0 = q := fun q => by simp [Addr.add]
        rw [hz, Nat.mul_one] at a0
        exact ⟨b, fun _ => by rw [a0]; rfl⟩
      · exact ⟨false, fun h => absurd h hi⟩
    obtain ⟨f, hfn⟩ := Classical.axiomOfChoice each
    refine ⟨(List.range len).map f, by simp, fun hn => ?_⟩
    obtain ⟨b, off, spot⟩ := ad
    have h0 := hfn 0 (by omega)
    have hspot : spot = none := by simpa [Addr.add] using World.cell?_spot h0
    subst hspot
    refine ⟨b, off, rfl, World.block_lt_of_cell? W (⟨b, off, none⟩ : Addr) (by simpa [Addr.add] using h0), fun j v hv => ?_⟩
    have hj : j < len := by have := (List.getElem?_eq_some_iff.1 hv).1; simpa using this
    have hvf : v = f j := by
      rw [List.getElem?_map, List.getElem?_range hj] at hv
      injection hv with hv
      exact hv.symm
    subst hvf
    have hadd : ∀ (o i : Nat), (⟨b, o, none⟩ : Addr).add i = ⟨b, o + i, none⟩ := fun o i => by unfold Addr.add; split <;> simp_all
    have g := hfn j (by omega)
    rwa [hadd] at g
end
end Go.Proofs.YtebmafghekfllaaDoor
