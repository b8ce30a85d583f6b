/- CutsAgain: the walk. -/
import Derived.Test.YtjiagpbmaepamaaAwake4
import Derived.Test.YtjiagpbmaepamaaCut
import Derived.Test.YtjiagpbmaepamaaGrow
import Derived.BigQuiet
namespace Go.Proofs.Ytjiagpbmaepamaa
open Go Go.RowKit
set_option linter.unusedVariables false

theorem lawAgain_no (A D F : Option Addr) (len cap m d k f : Nat) (w : World) (hlm : len ≤ maxLen) (hmm : m ≤ maxLen) (hkm : k ≤ maxLen) (hno : 300 < len ∨ (len ≤ 300 ∧ 20 < m) ∨ (len ≤ 300 ∧ m ≤ 20 ∧ 20 < k)) :
    Calls Try.prog 6 #[.slice A len cap, .slice D m d, .slice F k f] w fun e w' => e = .returned (.bool true) ∧ Below w.heap.size w w' := by
  unfold maxLen at hlm hmm hkm
  have hcases : (decide ((300 : Int) < (len : Int)) = true) ∨ (decide ((300 : Int) < (len : Int)) = false ∧ decide ((20 : Int) < (m : Int)) = true) ∨ (decide ((300 : Int) < (len : Int)) = false ∧ decide ((20 : Int) < (m : Int)) = false ∧ decide ((20 : Int) < (k : Int)) = true) := by
    simp
    omega
  clear hno
  rcases hcases with h1 | ⟨h1, h2⟩ | ⟨h1, h2, h3⟩
  all_goals
    go_enter Try.func6, Try.ntmps6
    go_wp2_with fail
    refine (awake4_any _).mono ?_; rintro e w1 ⟨rfl, hbel⟩
    go_wp2_with fail
    refine (awake4_any _).mono ?_; rintro e w2 ⟨rfl, hbel2⟩
    go_wp2_with fail
    go_ret
    exact ⟨rfl, hbel.trans (Below.mono hbel2 hbel.size)⟩

/-- cuts.Cut, and what it gives read as a list of slices. -/
theorem cut_row (zs xs : List Int) (A D : Option Addr) (n c m d : Nat) (W : World) (hr : RowI .u8 W A n xs) (hn : n ≤ 1000) (hnc : n ≤ c) (hcm : c ≤ maxLen) (hnil : A = none → n = 0 ∧ c = 0) (hz : RowI .i64 W D m zs) (hm : m ≤ 1000) :
    Calls Try.prog 8 #[.slice A n c, .slice D m d] W fun e w' => ∃ P pc, e = .returned (.slice P (cutL zs xs 0).length pc) ∧ RowB w' P (cutL zs xs 0).length (cutL zs xs 0) ∧ Below W.heap.size W w' :=
  (cut_any zs xs A D n c m d W hr hn hnc hcm hnil hz hm).mono fun e w' ⟨V, vs, he, ho, hp, hb⟩ => by
    obtain ⟨P, pc, rfl, hrow, _, _, _, _⟩ := rowB_of_own ho hp
    exact ⟨P, pc, he, hrow, hb⟩

set_option maxHeartbeats 4000000 in
theorem lawAgain_short (A D F : Option Addr) (len cap m d k f : Nat) (xs zs ts : List Int) (W : World) (hl : len ≤ 300) (hr : RowI .u8 W A len xs) (hcap : len ≤ cap) (hcm : cap ≤ maxLen) (hnil : A = none → len = 0 ∧ cap = 0)
    (hm : m ≤ 20) (hz : RowI .i64 W D m zs) (hk : k ≤ 20) (ht : RowI .i64 W F k ts) :
    Calls Try.prog 6 #[.slice A len cap, .slice D m d, .slice F k f] W fun e w' => e = .returned (.bool true) ∧ Below W.heap.size W w' := by
  have h1 : decide ((300 : Int) < (len : Int)) = false := by simp; omega
  have h2 : decide ((20 : Int) < (m : Int)) = false := by simp; omega
  have h3 : decide ((20 : Int) < (k : Int)) = false := by simp; omega
  have hxl := hr.1
  have htl := ht.1
  have hl1 := cutL_length zs xs 0
  have hl2 := cutL_length ts xs 0
  have hf1 := cutL_flatten zs xs 0
  have hpc := cutL_piece ts xs 0
  rw [hxl] at hl1 hl2 hpc
  have hc1 := fun (w : World) (hb : Below W.heap.size W w) => cut_row zs xs A D len cap m d w (hr.below hb (Nat.le_refl _)) (by omega) hcap hcm hnil (hz.below hb (Nat.le_refl _)) (by omega)
  have hc2 := fun (E : Option Addr) (c : Nat) (w : World) (hb : Below W.heap.size W w) (he : RowI .u8 w E len xs) (h1 : len ≤ c) (h2 : c ≤ maxLen) (h3 : E = none → len = 0 ∧ c = 0) => cut_row ts xs E F len c k f w he (by omega) h1 h2 h3 (ht.below hb (Nat.le_refl _)) (by omega)
  obtain ⟨ps, hps⟩ : ∃ ps, ps = cutL zs xs 0 := ⟨_, rfl⟩
  obtain ⟨qs, hqs⟩ : ∃ qs, qs = cutL ts xs 0 := ⟨_, rfl⟩
  rw [← hps] at hc1 hl1 hf1
  rw [← hqs] at hc2 hl2 hpc
  obtain ⟨K, hK⟩ : ∃ K, K = ps.length := ⟨_, rfl⟩
  obtain ⟨J, hJ⟩ : ∃ J, J = qs.length := ⟨_, rfl⟩
  rw [← hK] at hc1 hl1
  rw [← hJ] at hc2 hl2
  have hjoin : ∀ (P : Option Addr) (c : Nat) (w : World), RowB w P K ps → Calls Try.prog 11 #[.slice P K c] w fun e w' => ∃ E c', e = .returned (.slice E len c') ∧ RowI .u8 w' E len xs ∧ len ≤ c' ∧ c' ≤ maxLen ∧ (E = none → len = 0 ∧ c' = 0) ∧ Below w.heap.size w w' := fun P c w h => by
    have := cjoin_any ps P K c w h (by omega) (by rw [hf1]; omega)
    rw [hf1, hxl] at this
    refine this.mono fun e w' ⟨v, he, ho, hb⟩ => ?_
    obtain ⟨E, c', rfl, hs, q1, q2⟩ := row_of_own ho
    obtain ⟨E', c'', hE, _, _, q3, _⟩ := own_cells ho
    injection hE with e1 e2 e3
    subst e1; subst e3
    exact ⟨E, c', he, hs, q1, q2, q3, hb⟩
  have hA := fun (w : World) (hb : Below W.heap.size W w) => hc2 A cap w hb (hr.below hb (Nat.le_refl _)) hcap hcm hnil
  have HC1 := Lib.hid hc1; clear hc1
  have HC2 := Lib.hid hc2; clear hc2
  have HA := Lib.hid hA; clear hA
  have HJOIN := Lib.hid hjoin; clear hjoin
  have HPC := Lib.hid hpc; clear hpc
  have HJ := Lib.hid hJ; clear hJ
  have HTL := Lib.hid htl; clear htl
  clear hr hz ht hnil hxl hps hqs hK hf1
  go_enter Try.func6, Try.ntmps6
  go_wp2_with fail
  refine (awake4_any _).mono ?_; rintro e w1 ⟨rfl, hb1⟩
  go_wp2_with fail
  refine (HC1.out w1 hb1).mono ?_; rintro e w2 ⟨P, pc, rfl, hrow, hb2⟩
  have hW2 := hb1.trans (Below.mono hb2 hb1.size)
  have HJ2 := Lib.hid (HJOIN.out P pc w2 hrow)
  clear hrow hb1 hb2
  go_wp2_with fail
  refine HJ2.out.mono ?_; rintro e w3 ⟨E, c3, rfl, hri, q1, q2, q3, hb3⟩
  have hW3 := hW2.trans (Below.mono hb3 hW2.size)
  have HC3 := Lib.hid (HC2.out E c3 w3 hW3 hri q1 q2 q3)
  clear hri q1 q2 q3 hb3 hW2
  go_wp2_with fail
  refine HC3.out.mono ?_; rintro e w4 ⟨Q, qc, rfl, hrowQ, hb4⟩
  have hW4 := hW3.trans (Below.mono hb4 hW3.size)
  clear hb4 hW3
  have HQ := Lib.hid hrowQ; clear hrowQ
  have HC4 := Lib.hid (HA.out w4 hW4)
  go_wp2_with fail
  refine HC4.out.mono ?_; rintro e w5 ⟨R, rc, rfl, hrowR, hb5⟩
  have hW5 := hW4.trans (Below.mono hb5 hW4.size)
  have hrowQ := HQ.out.below hb5 (Nat.le_refl _)
  have HQ5 := Lib.hid hrowQ; clear hrowQ
  have HR5 := Lib.hid hrowR; clear hrowR
  clear hb5 hW4
  go_wp2_with fail
  go_loopw [9] (fun vi wr => ∃ i q : Nat, i ≤ J ∧ vi = .int .i64 (i : Int) ∧ wr = w5.drewN q) (fun vi _ => J - (intOf vi).toNat)
  case atStart => exact ⟨0, 0, by omega, rfl, rfl⟩
  case round =>
    obtain ⟨i, q, hi, rfl, rfl⟩ := hrel
    by_cases hlt : i < J
    · obtain ⟨b, o, rfl, _, hc⟩ := HQ5.out.2 (by omega)
      obtain ⟨b', o', rfl, _, hc'⟩ := HR5.out.2 (by omega)
      obtain ⟨G, g, k1, r1, _⟩ := hc i hlt
      obtain ⟨G', g', k2, r2, _⟩ := hc' i hlt
      have hmem : qs.getD i [] ∈ qs := by
        have : i < qs.length := by rw [← HJ.out]; exact hlt
        rw [show qs.getD i [] = qs[i] by simp [List.getD, List.getElem?_eq_getElem this]]
        exact List.getElem_mem _
      obtain ⟨p1, p2, p3, _⟩ := HPC.out _ hmem
      have cv1 : ∀ q, (convert 22 9 (.slice G (qs.getD i []).length g)).run Try.prog (w5.drewN q) = .ok (.string (strOfNums (qs.getD i []))) (w5.drewN q) := fun q => strRow _ G _ g _ (r1.drewN q)
      have cv2 : ∀ q, (convert 22 9 (.slice G' (qs.getD i []).length g')).run Try.prog (w5.drewN q) = .ok (.string (strOfNums (qs.getD i []))) (w5.drewN q) := fun q => strRow _ G' _ g' _ (r2.drewN q)
      obtain ⟨S, hS⟩ : ∃ S, S = strOfNums (qs.getD i []) := ⟨_, rfl⟩
      obtain ⟨L, hL⟩ : ∃ L, L = (qs.getD i []).length := ⟨_, rfl⟩
      rw [← hS] at cv1 cv2
      rw [← hL] at cv1 cv2 k1 k2 p1 p2 p3
      have d1 : ((L : Int) == 0) = false := by simp; omega
      have hL64 : L ≤ 1000000 := by omega
      clear hc hc' r1 r2 hmem hS hL p2
      rcases Nat.eq_zero_or_pos k with h0 | h0
      · subst h0
        clear p3
        go_wp2_with fail
        go_quiet (fail)
        go_wp2_with fail
        refine ⟨⟨i + 1, q + nq, by omega, by go_num, rfl⟩, by simp [intOf]; omega⟩
      · have p4 := p3 (by rw [HTL.out]; exact h0)
        have d2 : decide ((4096 : Int) < (L : Int)) = false := by simp; omega
        have d3 : decide ((0 : Int) < (k : Int)) = true := by simp; omega
        clear p3
        go_wp2_with fail
        go_quiet (fail)
        go_wp2_with fail
        refine ⟨⟨i + 1, q + nq, by omega, by go_num, rfl⟩, by simp [intOf]; omega⟩
    · obtain rfl : i = J := by omega
      go_wp2_with fail
      go_ret
      exact ⟨rfl, below_drewN hW5 q⟩

theorem lawAgain (A D F : Option Addr) (len cap m d k f : Nat) (xs zs ts : List Int) (W : World)
    (h : (A = none ∧ len = 0 ∧ cap = 0 ∧ xs = []) ∨
      ∃ x, A = some x ∧ len ≤ cap ∧ cap ≤ maxLen ∧ xs.length = cap ∧ (∀ i, i < xs.length → W.cell? (x.add i) = some (.int .u8 (xs.getD i 0))) ∧ ∀ n ∈ xs, (Lit.int .u8 n).wf = true)
    (g : (D = none ∧ m = 0 ∧ d = 0 ∧ zs = []) ∨
      ∃ x, D = some x ∧ m ≤ d ∧ d ≤ maxLen ∧ zs.length = d ∧ (∀ i, i < zs.length → W.cell? (x.add i) = some (.int .i64 (zs.getD i 0))) ∧ ∀ n ∈ zs, (Lit.int .i64 n).wf = true)
    (t : (F = none ∧ k = 0 ∧ f = 0 ∧ ts = []) ∨
      ∃ x, F = some x ∧ k ≤ f ∧ f ≤ maxLen ∧ ts.length = f ∧ (∀ i, i < ts.length → W.cell? (x.add i) = some (.int .i64 (ts.getD i 0))) ∧ ∀ n ∈ ts, (Lit.int .i64 n).wf = true) :
    Calls Try.prog 6 #[.slice A len cap, .slice D m d, .slice F k f] W fun e w' => e = .returned (.bool true) ∧ Below W.heap.size W w' := by
  obtain ⟨hr, hcap, hcm, hnil, _⟩ := rowI_of_row h
  obtain ⟨hz, hcd, hdm, _, _⟩ := rowI_of_row g
  obtain ⟨ht, hkf, hfm, _, _⟩ := rowI_of_row t
  by_cases hs : len ≤ 300 ∧ m ≤ 20 ∧ k ≤ 20
  · exact lawAgain_short A D F len cap m d k f _ _ _ W hs.1 hr hcap hcm hnil hs.2.1 hz hs.2.2 ht
  · exact lawAgain_no A D F len cap m d k f W (Nat.le_trans hcap hcm) (Nat.le_trans hcd hdm) (Nat.le_trans hkf hfm) (by omega)
end Go.Proofs.Ytjiagpbmaepamaa
