/- SourceAll. -/
import Derived.Test.YtgmaiickfpgeoaaLawAll
namespace Go.Proofs.Ytgmaiickfpgeoaa
open Go Go.RowKit
set_option linter.unusedVariables false

theorem lawAll (A D1 : Option Addr) (len cap m1 d1 : Nat) (fail : Int) (zs z1 : List Int) (W : World)
    (h : (A = none ∧ len = 0 ∧ cap = 0 ∧ zs = []) ∨
      ∃ x, A = some x ∧ len ≤ cap ∧ cap ≤ maxLen ∧ zs.length = cap ∧ (∀ i, i < zs.length → W.cell? (x.add i) = some (.int .u8 (zs.getD i 0))) ∧ ∀ n ∈ zs, (Lit.int .u8 n).wf = true)
    (h1 : (D1 = none ∧ m1 = 0 ∧ d1 = 0 ∧ z1 = []) ∨
      ∃ x, D1 = some x ∧ m1 ≤ d1 ∧ d1 ≤ maxLen ∧ z1.length = d1 ∧ (∀ i, i < z1.length → W.cell? (x.add i) = some (.int .i64 (z1.getD i 0))) ∧ ∀ n ∈ z1, (Lit.int .i64 n).wf = true) :
    Calls Try.prog 4 #[.slice A len cap, .int .i64 fail, .slice D1 m1 d1] W fun e w' => e = .returned (.bool true) ∧ Below W.heap.size W w' := by
  obtain ⟨hr, hcap, hcm, hnil, hwf⟩ := rowI_of_row h
  obtain ⟨hr1, hcap1, hcm1, hnil1, hwf1⟩ := rowI_of_row h1
  by_cases hl : 200 < len ∨ 10 < m1
  · exact lawAll_awake A D1 len cap m1 d1 fail W (Nat.le_trans hcap hcm) (Nat.le_trans hcap1 hcm1) hl
  · by_cases hf : 0 ≤ fail ∧ fail ≤ (len : Int)
    · obtain ⟨F, rfl⟩ := Int.eq_ofNat_of_zero_le hf.1
      exact lawAll_short A D1 len cap m1 d1 F _ _ _ 11 _ W (by omega) (by omega) hr hr1 hwf1 (.inr ⟨F, rfl, by omega, rfl, rfl⟩) (cutL_full _ _ 0) (cutL_flatten (z1.take m1) ((zs.take len).take F) 0)
        (fun w hb => new_fails _ _ A D1 len cap m1 d1 F w (hr.below hb (Nat.le_refl _)) (by omega) hcap hcm hnil (hr1.below hb (Nat.le_refl _)) (by omega) (by omega))
    · exact lawAll_short A D1 len cap m1 d1 fail _ _ _ 19 _ W (by omega) (by omega) hr hr1 hwf1 (.inl ⟨by omega, rfl, rfl⟩) (cutL_full _ _ 0) (cutL_flatten (z1.take m1) (zs.take len) 0)
        (fun w hb => new_whole _ _ A D1 len cap m1 d1 fail w (hr.below hb (Nat.le_refl _)) (by omega) hcap hcm hnil (hr1.below hb (Nat.le_refl _)) (by omega) (by omega))
end Go.Proofs.Ytgmaiickfpgeoaa
