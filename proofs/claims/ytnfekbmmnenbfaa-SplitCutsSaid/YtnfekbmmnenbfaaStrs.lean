/- A list of texts that came in, as a row of texts. -/
import Derived.Test.YtnfekbmmnenbfaaOwn
import Derived.SizedLaws
namespace Go.Proofs.Ytnfekbmmnenbfaa
open Go Go.RowKit
set_option linter.unusedVariables false

/-- What came in, in my words. -/
theorem rowS_of_strs {w : World} {x : Addr} {len m : Nat} {Sx : Nat → ByteArray} (hm : len ≤ m) (h : ∀ i, i < m → w.cell? (x.add i) = some (.string (Sx i))) : RowS w (some x) len ((List.range len).map Sx) := by
  refine ⟨by simp, fun hn => ?_⟩
  obtain ⟨b, off, spot⟩ := x
  have h0 := h 0 (by omega)
  have hspot : spot = none := by simpa [Addr.add] using World.cell?_spot h0
  subst hspot
  refine ⟨b, off, rfl, World.block_lt_of_cell? w (⟨b, off, none⟩ : Addr) (by simpa [Addr.add] using h0), fun j hj => ?_⟩
  have hadd : (⟨b, off, none⟩ : Addr).add j = ⟨b, off + j, none⟩ := by unfold Addr.add; split <;> simp_all
  have := h j (by omega)
  rw [hadd] at this
  rw [this]
  simp [List.getD, hj]

theorem mem_weightsAll {H : Type} {P : Program} {e : TypeId} : ∀ {l : List (DataW H)} {d : DataW H}, d ∈ l → ∀ n ∈ d.weights P e, n ∈ DataW.weightsAll P e l
  | d0 :: l, d, hd, n, hn => by
    rw [DataW.weightsAll, List.mem_append]
    rcases List.mem_cons.1 hd with rfl | hd
    · exact .inl hn
    · exact .inr (mem_weightsAll hd n hn)
/-- The reach of a text in a list of texts that came in. -/
theorem sized_strs {H : Type} {P : Program} {ts : List TypeId} {ds : List (DataW H)} (h : (DataW.weightsEach P ts ds).all (· ≤ reachBytes) = true) {j : Nat} {t e : TypeId} {elems spare : List (DataW H)} (ht : ts[j]? = some t) (hd : ds[j]? = some (.slice elems spare)) (hu : P.underlying t = some (.slice e)) {bytes : List UInt8} (hm : DataW.lit (.string bytes) ∈ elems) : bytes.length ≤ 281474976710656 := by
  have h1 : bytes.length ∈ DataW.weightsAll P e elems := mem_weightsAll hm _ (by simp [DataW.weights])
  have := List.all_eq_true.1 h _ (DataW.weights_mem_each ht hd bytes.length (by simp only [DataW.weights, hu]; simp [h1]))
  have h2 : bytes.length ≤ reachBytes := by simpa using this
  unfold reachBytes at h2
  omega
end Go.Proofs.Ytnfekbmmnenbfaa
