/- A slice that came in reads as a list, if each of its elements does. -/
import Derived.Test.YtebmafghekfllaaDoorRec
import Derived.Deep.Slices
import Derived.Deep.Fields
import Derived.ChangeSame
namespace Go.Proofs.YtebmafghekfllaaDoor
open Go Go.RowKit Go.ChangeShapes Go.WideShapes Go.ChangeAt
set_option linter.unusedVariables false
set_option maxRecDepth 20000

section
variable {H : Type} {enc : TypeId × Value → H} {W : World} {base : Nat} {held : Bool}
/-- A slice that came in reads as a list, if each of its elements does. -/
theorem reads_of {α : Type} {t e : TypeId} {s : Nat} (ht : Tryd.prog.underlying t = some (.slice e)) (hs : Tryd.prog.cellsOf e = s) (hs0 : 0 < s) (f : α → List Value) (R : α → Prop) (hw : ∀ y, (f y).length = s ∧ ∀ u ∈ f y, u.oneCell' = true)
    (each : ∀ n cs x, DataW.trod enc Tryd.prog W base (fun _ => true) held n e cs = some x → ∃ y, cs = f y ∧ R y)
    {a : Option Addr} {len cap fuel : Nat} {x : DataW H × List MemPlace} (hf : DataW.trod enc Tryd.prog W base (fun _ => true) held fuel t [.slice a len cap] = some x) :
    ∃ xs : List α, ReadR 0 W a len s (xs.map f) ∧ (∀ y ∈ xs, R y) ∧ (a = none → len = 0 ∧ cap = 0) ∧ len ≤ cap ∧ cap ≤ maxLen := by
  rcases Go.Deep.open_slice ht hf with ⟨hcs, _⟩ | ⟨ad, l, c, m, n, D, Pl, hcs, _, hl, hm, hmm, _, hel⟩
  · simp at hcs
    obtain ⟨rfl, rfl, rfl⟩ := hcs
    exact ⟨[], ReadR.nil_ _ _ _ _, fun y hy => (by cases hy), fun _ => ⟨rfl, rfl⟩, Nat.le_refl _, Nat.zero_le _⟩
  · simp at hcs
    obtain ⟨rfl, rfl, rfl⟩ := hcs
    simp only [if_true] at hmm
    subst hmm
    rw [hs] at hel
    have key : ∀ k, k ≤ len → ∃ xs : List α, xs.length = k ∧ (∀ y ∈ xs, R y) ∧ ∀ j y, xs[j]? = some y → ∀ i v, (f y)[i]? = some v → W.cell? ((ad.add (j * s)).add i) = some v := by
      intro k
      induction k with
      | zero => exact fun _ => ⟨[], rfl, fun y hy => (by cases hy), fun j y h => by simp at h⟩
      | succ k ih =>
        intro hk
        obtain ⟨xs, hxl, hR, hx⟩ := ih (by omega)
        obtain ⟨cs', hc, htr⟩ := hel k (by omega)
        obtain ⟨y, hy, hRy⟩ := each _ _ _ htr
        obtain ⟨_, hcl, hat⟩ := World.cells?_some hc
        refine ⟨xs ++ [y], by simp [hxl], fun z hz => ?_, fun j z hz i v hv => ?_⟩
        · rcases List.mem_append.1 hz with h | h
          · exact hR z h
          · rw [List.mem_singleton] at h
            subst h
            exact hRy
        · rcases Nat.lt_or_ge j xs.length with h | h
          · rw [List.getElem?_append_left h] at hz
            exact hx j z hz i v hv
          · rw [List.getElem?_append_right h] at hz
            have hj : j - xs.length = 0 := by
              have := (List.getElem?_eq_some_iff.1 hz).1
              simp at this
              omega
            rw [hj] at hz
            simp only [List.getElem?_cons_zero, Option.some.injEq] at hz
            subst hz
            have hjk : j = k := by omega
            subst hjk
            have hi := (List.getElem?_eq_some_iff.1 hv).1
            rw [(hw y).1] at hi
            rw [hat i hi, hy]
            exact hv
    obtain ⟨xs, hxl, hR, hx⟩ := key len (Nat.le_refl _)
    refine ⟨xs, ⟨⟨by simpa using hxl, fun z hz => ?_⟩, fun hn => ?_⟩, hR, fun h => (by cases h), hl, hm⟩
    · obtain ⟨y, _, rfl⟩ := List.mem_map.1 hz
      exact hw y
    · obtain ⟨b, off, spot⟩ := ad
      have hy0 := List.getElem?_eq_getElem (show 0 < xs.length by omega)
      have hv0 := List.getElem?_eq_getElem (show 0 < (f xs[0]).length by rw [(hw _).1]; exact hs0)
      have h0 := hx 0 _ hy0 0 _ hv0
      have hspot : spot = none := by simpa [Addr.add] using World.cell?_spot h0
      subst hspot
      have hadd : ∀ (o i : Nat), (⟨b, o, none⟩ : Addr).add i = ⟨b, o + i, none⟩ := fun o i => by unfold Addr.add; split <;> simp_all
      refine ⟨b, off, rfl, Nat.zero_le _, World.block_lt_of_cell? W (⟨b, off, none⟩ : Addr) (by simpa [hadd] using h0), fun j z hz i v hv => ?_⟩
      rw [List.getElem?_map] at hz
      obtain ⟨y, hy, rfl⟩ := Option.map_eq_some_iff.1 hz
      have := hx j y hy i v hv
      rwa [hadd, hadd] at this
end
end Go.Proofs.YtebmafghekfllaaDoor
