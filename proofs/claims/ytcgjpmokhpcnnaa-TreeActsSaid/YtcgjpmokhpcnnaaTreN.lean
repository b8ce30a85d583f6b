/- The document's tree: Add as a whole, a new one. -/
import Derived.Test.YtcgjpmokhpcnnaaTreA
namespace Go.Proofs.Ytcgjpmokhpcnnaa
open Go Go.RowKit
set_option linter.unusedVariables false
set_option maxRecDepth 20000
section
variable {w w' : World} {B r : Nat} {D : Nat → Prop} {VU VC : Value} {up ca : List Int}
theorem dadd_any (h : TDS w B D r up ca) (hc : ca.length = up.length) (n : Int) (hl : up.length ≤ 256) :
    Calls Try.prog 11 #[.pointer (some ⟨r, 0, none⟩), .int .i64 n] w fun e w' => e = .returned (.tuple #[.int .i64 (addX up n), .int .i64 (addE up n)]) ∧ ∃ D', TDS w' B D' r (addU up n) (addC up ca n) ∧ Step D D' w w' := by
  obtain ⟨VU, VC, h⟩ := h
  unfold addX addU addC addE
  by_cases hn : isB up n = true
  · by_cases hb : 256 ≤ up.length
    · simp only [hn, hb, if_true]
      refine (dadd_big h n (by omega) hn).mono ?_
      rintro e w' ⟨rfl, rfl⟩
      exact ⟨rfl, D, ⟨VU, VC, h⟩, Step.refl _ _⟩
    · simp only [hn, hb, if_true, if_false]
      exact dadd_yes h hc n (by omega) hn
  · have hn' : isB up n = false := by simpa using hn
    simp only [hn]
    refine (dadd_no h n hl hn').mono ?_
    rintro e w' ⟨rfl, rfl⟩
    exact ⟨rfl, D, ⟨VU, VC, h⟩, Step.refl _ _⟩
end
theorem new1 {w : World} {B g : Nat} (hB : B ≤ g) (x : Int) (hg : w.heap[g]? = some (.cells #[.int .i64 x] 3 (0, 0))) : RecW w B 3 1 (.slice (some ⟨g, 0, none⟩) 1 1) (nums1 [x]) :=
  ⟨⟨rfl, .inr ⟨g, 1, #[.int .i64 x], rfl, hB, hg, Nat.le_refl _, by decide, rfl, rfl⟩⟩, nums1_wide _⟩
set_option maxHeartbeats 2000000 in
theorem dnew_any (w : World) :
    Calls Try.prog 9 #[] w fun e w' => ∃ r D, e = .returned (.pointer (some ⟨r, 0, none⟩)) ∧ TDS w' w.heap.size D r [-1] [0] ∧ Below w.heap.size w w' := by
  go_enter Try.func9, Try.ntmps9
  go_wp2_with fail
  go_ret
  have hb1 := (Below.refl w.heap.size w).alloc (Nat.le_refl _) (.cells #[.int .i64 (-1)] 3)
  have hb2 := hb1.alloc hb1.size (.cells #[.int .i64 0] 3)
  have hb3 := hb2.alloc hb2.size (.cells #[.slice (some ⟨w.heap.size, 0, none⟩) 1 1, .slice (some ⟨w.heap.size + 1, 0, none⟩) 1 1] 40)
  refine ⟨w.heap.size + 1 + 1, fun k => w.heap.size ≤ k ∧ k < w.heap.size + 3, rfl, ⟨.slice (some ⟨w.heap.size, 0, none⟩) 1 1, .slice (some ⟨w.heap.size + 1, 0, none⟩) 1 1, fun k hk => ⟨hk.1, by simpa using hk.2⟩, ⟨by omega, by omega⟩, fun k hk => ?_, fun k hk => ?_, at_new _ _ (by simp), new1 (Nat.zero_le _) _ (at_up (at_up (at_new _ _ rfl) _) _), new1 (Nat.zero_le _) _ (at_up (at_new _ _ (by simp)) _), fun k hk e => ?_⟩, hb3⟩
  · have hk : w.heap.size = k := Option.some.inj hk
    show w.heap.size ≤ k ∧ k < w.heap.size + 3
    omega
  · have hk : w.heap.size + 1 = k := Option.some.inj hk
    show w.heap.size ≤ k ∧ k < w.heap.size + 3
    omega
  · have hk : w.heap.size = k := Option.some.inj hk
    have e : w.heap.size + 1 = k := Option.some.inj e
    omega
end Go.Proofs.Ytcgjpmokhpcnnaa
