/- SourceGives. -/
import Derived.Test.YtgmaiickfpgeoaaLawGives
namespace Go.Proofs.Ytgmaiickfpgeoaa
open Go Go.RowKit
set_option linter.unusedVariables false

theorem lawGives (A D1 D2 : Option Addr) (len cap m1 d1 m2 d2 : Nat) (zs z1 z2 : List Int) (W : World)
    (h : (A = none ∧ len = 0 ∧ cap = 0 ∧ zs = []) ∨
      ∃ x, A = some x ∧ len ≤ cap ∧ cap ≤ maxLen ∧ zs.length = cap ∧ (∀ i, i < zs.length → W.cell? (x.add i) = some (.int .u8 (zs.getD i 0))) ∧ ∀ n ∈ zs, (Lit.int .u8 n).wf = true)
    (h1 : (D1 = none ∧ m1 = 0 ∧ d1 = 0 ∧ z1 = []) ∨
      ∃ x, D1 = some x ∧ m1 ≤ d1 ∧ d1 ≤ maxLen ∧ z1.length = d1 ∧ (∀ i, i < z1.length → W.cell? (x.add i) = some (.int .i64 (z1.getD i 0))) ∧ ∀ n ∈ z1, (Lit.int .i64 n).wf = true)
    (h2 : (D2 = none ∧ m2 = 0 ∧ d2 = 0 ∧ z2 = []) ∨
      ∃ x, D2 = some x ∧ m2 ≤ d2 ∧ d2 ≤ maxLen ∧ z2.length = d2 ∧ (∀ i, i < z2.length → W.cell? (x.add i) = some (.int .i64 (z2.getD i 0))) ∧ ∀ n ∈ z2, (Lit.int .i64 n).wf = true) :
    Calls Try.prog 3 #[.slice A len cap, .slice D1 m1 d1, .slice D2 m2 d2] W fun e w' => e = .returned (.bool true) ∧ Below W.heap.size W w' := by
  obtain ⟨hr, hcap, hcm, hnil, hwf⟩ := rowI_of_row h
  obtain ⟨hr1, hcap1, hcm1, _, _⟩ := rowI_of_row h1
  obtain ⟨hr2, hcap2, hcm2, _, _⟩ := rowI_of_row h2
  by_cases hl : 300 < len ∨ 10 < m1 ∨ 60 < m2
  · exact lawGives_awake A D1 D2 len cap m1 d1 m2 d2 W (Nat.le_trans hcap hcm) (Nat.le_trans hcap1 hcm1) (Nat.le_trans hcap2 hcm2) hl
  · obtain ⟨xs, hxs⟩ : ∃ xs, xs = zs.take len := ⟨_, rfl⟩
    rw [← hxs] at hr
    have hxl := hr.1
    have hcl := fun z => cutL_length z xs 0
    rcases Nat.eq_zero_or_pos m1 with hm0 | hm0
    · exact lawGives_none A D1 D2 len cap m1 d1 m2 d2 xs z1 _ (-1) 19 none 0 0 (cutL [] xs 0) (cutL [] xs 0) W (by omega) (by omega) (by omega) hr hcap hcm hnil hr2 hm0 rfl rfl rfl rfl
        (.inl ⟨.inl (by omega), rfl, rfl⟩) (cutL_full _ _ 0) (cutL_full _ _ 0) (cutL_flatten _ _ 0) (by have := hcl []; omega)
        (fun w P c hb hp hlc hcm hnl => new_whole [] xs P none len c 0 0 (-1) w hp (by omega) hlc hcm hnl RowI.nil_ (by omega) (by omega))
        (fun w hb => rnew_any [] xs none 0 0 (-1) w (by omega) RowI.nil_ (by omega))
    · obtain ⟨b0, o0, rfl, hbl, hc⟩ := hr1.2 hm0
      obtain ⟨o1, ho1, hsl⟩ := ints_from b0 o0 m1 d1 hm0 hcap1
      obtain ⟨z, hz⟩ : ∃ z, z = (z1.take m1).drop 1 := ⟨_, rfl⟩
      obtain ⟨fail, hfail⟩ : ∃ x, x = (z1.take m1).getD 0 0 := ⟨_, rfl⟩
      have hfc : ∀ w, Below W.heap.size W w → w.cell? ⟨b0, o0, none⟩ = some (.int .i64 fail) := fun w hb => by
        have := hc 0 hm0
        rw [← hfail] at this
        exact (hb.cell (p := ⟨b0, o0, none⟩) hbl).trans (by simpa using this)
      have hrz : ∀ w, Below W.heap.size W w → RowI .i64 w (some ⟨b0, o1, none⟩) (m1 - 1) z := fun w hb => by
        have hl1 : (z1.take m1).length = m1 := hr1.1
        rcases Nat.lt_or_ge 1 m1 with h1 | h1
        · rw [ho1 (by omega), hz]
          have := (hr1.below hb (Nat.le_refl _)).cut (i := 1) (j := m1) (by omega) (Nat.le_refl _)
          rwa [List.take_of_length_le (by rw [List.length_drop]; omega)] at this
        · refine ⟨by rw [hz, List.length_drop]; omega, fun h => absurd h (by omega)⟩
      by_cases hf : 0 ≤ fail ∧ fail ≤ (len : Int)
      · obtain ⟨F, hF⟩ := Int.eq_ofNat_of_zero_le hf.1
        have hFl : F ≤ len := by omega
        have hpt : cutL z (xs.take F) 0 = takeP F (cutL z xs 0) := cutL_take z len xs 0 F (by omega) (by omega)
        exact lawGives_some A _ D2 len cap m1 d1 m2 d2 xs z1 _ fail 11 (some ⟨b0, o1, none⟩) (m1 - 1) (d1 - 1) (cutL z (xs.take F) 0) (cutL z xs 0) W (by omega) (by omega) (by omega) hr hcap hcm hnil hr2 b0 o0 o1 rfl rfl rfl rfl hm0 hfc hsl
          (.inr ⟨F, hF, hFl, hpt, cutL_flatten _ _ 0, rfl⟩) (cutL_full _ _ 0) (cutL_full _ _ 0) (cutL_flatten _ _ 0) (by have := hcl z; omega)
          (fun w P c hb hp hlc hcm hnl => by rw [hF]; exact new_fails z xs P _ len c (m1 - 1) (d1 - 1) F w hp (by omega) hlc hcm hnl (hrz w hb) (by omega) hFl)
          (fun w hb => rnew_any z xs _ (m1 - 1) (d1 - 1) fail w (by omega) (hrz w hb) (by omega))
      · exact lawGives_some A _ D2 len cap m1 d1 m2 d2 xs z1 _ fail 19 (some ⟨b0, o1, none⟩) (m1 - 1) (d1 - 1) (cutL z xs 0) (cutL z xs 0) W (by omega) (by omega) (by omega) hr hcap hcm hnil hr2 b0 o0 o1 rfl rfl rfl rfl hm0 hfc hsl
          (.inl ⟨by omega, rfl, rfl⟩) (cutL_full _ _ 0) (cutL_full _ _ 0) (cutL_flatten _ _ 0) (by have := hcl z; omega)
          (fun w P c hb hp hlc hcm hnl => new_whole z xs P _ len c (m1 - 1) (d1 - 1) fail w hp (by omega) hlc hcm hnl (hrz w hb) (by omega) (by omega))
          (fun w hb => rnew_any z xs _ (m1 - 1) (d1 - 1) fail w (by omega) (hrz w hb) (by omega))
end Go.Proofs.Ytgmaiickfpgeoaa
