/- SourceCuts: the walk. -/
import Derived.Test.YtgmaiickfpgeoaaNextAt
namespace Go.Proofs.Ytgmaiickfpgeoaa
open Go Go.RowKit
set_option linter.unusedVariables false

theorem lawCuts_awake (A D1 D2 : Option Addr) (len cap m1 d1 m2 d2 : Nat) (w : World) (hm : len ≤ maxLen) (hm1 : m1 ≤ maxLen) (hm2 : m2 ≤ maxLen) (h : 200 < len ∨ 10 < m1 ∨ 10 < m2) :
    Calls Try.prog 6 #[.slice A len cap, .slice D1 m1 d1, .slice D2 m2 d2] w fun e w' => e = .returned (.bool true) ∧ Below w.heap.size w w' := by
  unfold maxLen at hm hm1 hm2
  by_cases h0 : 200 < len
  · have hd : decide ((200 : Int) < (len : Int)) = true := by simp; omega
    go_enter Try.func6, Try.ntmps6
    go_wp2_with fail
    refine (awake5_any _).mono ?_; rintro e w1 ⟨rfl, hbel⟩
    go_wp2_with fail
    refine (awake5_any _).mono ?_; rintro e w2 ⟨rfl, hbel2⟩
    go_wp2_with fail
    go_ret
    exact ⟨rfl, hbel.trans (Below.mono hbel2 hbel.size)⟩
  · have hd : decide ((200 : Int) < (len : Int)) = false := by simp; omega
    by_cases h1 : 10 < m1
    · have hd1 : decide ((10 : Int) < (m1 : Int)) = true := by simp; omega
      go_enter Try.func6, Try.ntmps6
      go_wp2_with fail
      refine (awake5_any _).mono ?_; rintro e w1 ⟨rfl, hbel⟩
      go_wp2_with fail
      refine (awake5_any _).mono ?_; rintro e w2 ⟨rfl, hbel2⟩
      go_wp2_with fail
      go_ret
      exact ⟨rfl, hbel.trans (Below.mono hbel2 hbel.size)⟩
    · have hd1 : decide ((10 : Int) < (m1 : Int)) = false := by simp; omega
      have hd2 : decide ((10 : Int) < (m2 : Int)) = true := by simp; omega
      go_enter Try.func6, Try.ntmps6
      go_wp2_with fail
      refine (awake5_any _).mono ?_; rintro e w1 ⟨rfl, hbel⟩
      go_wp2_with fail
      refine (awake5_any _).mono ?_; rintro e w2 ⟨rfl, hbel2⟩
      go_wp2_with fail
      go_ret
      exact ⟨rfl, hbel.trans (Below.mono hbel2 hbel.size)⟩

set_option maxHeartbeats 4000000 in
theorem lawCuts_short (A D1 D2 : Option Addr) (len cap m1 d1 m2 d2 : Nat) (xs z1 z2 : List Int) (W : World) (hl : len ≤ 200) (hl1 : m1 ≤ 10) (hl2 : m2 ≤ 10) (hr : RowI .u8 W A len xs) (hnc : len ≤ cap) (hcm : cap ≤ maxLen) (hnil : A = none → len = 0 ∧ cap = 0) (hz1 : RowI .i64 W D1 m1 z1) (hz2 : RowI .i64 W D2 m2 z2) :
    Calls Try.prog 6 #[.slice A len cap, .slice D1 m1 d1, .slice D2 m2 d2] W fun e w' => e = .returned (.bool true) ∧ Below W.heap.size W w' := by
  have hd : decide ((200 : Int) < (len : Int)) = false := by simp; omega
  have hd1 : decide ((10 : Int) < (m1 : Int)) = false := by simp; omega
  have hd2 : decide ((10 : Int) < (m2 : Int)) = false := by simp; omega
  have hxl := hr.1
  have hn1 := fun w (h : Below W.heap.size W w) => new_whole z1 xs A D1 len cap m1 d1 (-1) w (hr.below h (Nat.le_refl _)) (by omega) hnc hcm hnil (hz1.below h (Nat.le_refl _)) (by omega) (by omega)
  have hn2 := fun w (h : Below W.heap.size W w) => new_whole z2 xs A D2 len cap m2 d2 (-1) w (hr.below h (Nat.le_refl _)) (by omega) hnc hcm hnil (hz2.below h (Nat.le_refl _)) (by omega) (by omega)
  have hcv : ∀ w, Below W.heap.size W w → (convert 22 9 (.slice A len cap)).run Try.prog w = .ok (.string (strOfNums xs)) w := fun w h => strRow w A len cap xs (hr.below h (Nat.le_refl _))
  have hf1 := cutL_full z1 xs 0
  have hf2 := cutL_full z2 xs 0
  have ht1 := cutL_flatten z1 xs 0
  have ht2 := cutL_flatten z2 xs 0
  obtain ⟨p1, hp1⟩ : ∃ p, p = cutL z1 xs 0 := ⟨_, rfl⟩
  obtain ⟨p2, hp2⟩ : ∃ p, p = cutL z2 xs 0 := ⟨_, rfl⟩
  rw [← hp1] at hn1 hf1 ht1
  rw [← hp2] at hn2 hf2 ht2
  clear hp1 hp2 hr hnil hz1 hz2
  have HN1 := Lib.hid hn1; clear hn1
  have HN2 := Lib.hid hn2; clear hn2
  have HCV := Lib.hid hcv; clear hcv
  have HF1 := Lib.hid hf1; clear hf1
  have HF2 := Lib.hid hf2; clear hf2
  have HT1 := Lib.hid ht1; clear ht1
  have HT2 := Lib.hid ht2; clear ht2
  have HXL := Lib.hid hxl; clear hxl
  go_enter Try.func6, Try.ntmps6
  go_wp2_with fail
  refine (awake5_any _).mono ?_; rintro e w1 ⟨rfl, hb1⟩
  go_wp2_with fail
  refine (HN1.out _ hb1).mono ?_; rintro e w2 ⟨rfl, hs1, hb2⟩
  have hb02 : Below W.heap.size W w2 := hb1.trans (Below.mono hb2 hb1.size)
  go_wp2_with fail
  refine (HN2.out _ hb02).mono ?_; rintro e w3 ⟨rfl, hs2, hb3⟩
  have hb03 : Below W.heap.size W w3 := hb02.trans (Below.mono hb3 hb02.size)
  have hs13 := hs1.below hb3 (Nat.le_refl _)
  have hW1 := hb1.size
  obtain ⟨B1, hB1⟩ : ∃ B, B = w1.heap.size := ⟨_, rfl⟩
  obtain ⟨U1, hU1⟩ : ∃ B, B = w2.heap.size := ⟨_, rfl⟩
  obtain ⟨U2, hU2⟩ : ∃ B, B = w3.heap.size := ⟨_, rfl⟩
  rw [← hB1, ← hU1] at hs13
  rw [← hU1, ← hU2] at hs2
  rw [← hB1] at hW1 ⊢
  rw [← hU1]
  have hBU : B1 ≤ U1 := by have := hs13.1; have := hs13.2.1; omega
  have HS1 := Lib.hid hs13; clear hs13
  have HS2 := Lib.hid hs2; clear hs2
  clear hs1 hb1 hb2 hb3 hB1 hU1 hU2
  go_wp2_with fail
  go_loopw [9, 10, 11] (fun v1 v2 vi wr => ∃ (i G H : Nat), i ≤ len + 1 ∧ vi = .int .i64 (i : Int) ∧ v1 = .string (strOfNums (xs.take G)) ∧ v2 = .string (strOfNums (xs.take H)) ∧ G ≤ len ∧ H ≤ len ∧ (i ≤ G ∨ G = len) ∧ (i ≤ H ∨ H = len) ∧
    Hid (Src wr B1 U1 B1 (dropP G p1) 19 (G : Int) ((len : Int) - (G : Int))) ∧ Hid (Src wr U1 U2 U1 (dropP H p2) 19 (H : Int) ((len : Int) - (H : Int))) ∧ Below W.heap.size W wr) (fun _ _ vi _ => len + 1 - (intOf vi).toNat)
  case atStart => exact ⟨0, 0, 0, by omega, rfl, by simp [strOfNums], by simp [strOfNums], by omega, by omega, by omega, by omega, Lib.hid (by rw [dropP_zero _ HF1.out]; simpa using HS1.out), Lib.hid (by rw [dropP_zero _ HF2.out]; simpa using HS2.out), hb03⟩
  case round =>
    obtain ⟨i, G, H, hi, rfl, rfl, rfl, hG, hH, hGi, hHi, HSx, HSy, hb⟩ := hrel
    by_cases hlt : i ≤ len
    · have hfl1 : p1.flatten.length = len := by rw [HT1.out, HXL.out]
      have hfl2 : p2.flatten.length = len := by rw [HT2.out, HXL.out]
      have hn1 := next_at HSx.out HF1.out (by omega) (by omega) (by omega) (1 + ((i % 3 : Nat) : Int)) (by omega)
      obtain ⟨r, hr⟩ : ∃ r, r = i % 3 := ⟨_, rfl⟩
      rw [← hr] at hn1
      have hrem : (i : Int) % 3 = (r : Int) := by omega
      have hr3 : r < 3 := by omega
      have HNX := Lib.hid hn1; clear hn1
      have HFL1 := Lib.hid hfl1; clear hfl1
      have HFL2 := Lib.hid hfl2; clear hfl2
      clear hr
      go_wp2_with fail
      refine HNX.out.mono ?_; rintro e w5 ⟨A5, k5, c5, E5, rfl, hk5, _, hk5b, hor5, ho5, hs5, ht5⟩
      have hsy5 := HSy.out.touch ht5 (Nat.le_refl _)
      have hU2 := HSy.out.2.2.1
      have hnx2 := next_at hsy5 HF2.out (by have := HFL2.out; omega) (by have := HFL2.out; omega) (by omega) 7 (by omega)
      have HNY := Lib.hid hnx2; clear hnx2
      have HO5 := Lib.hid ho5; clear ho5
      have HOR5 := Lib.hid hor5; clear hor5
      have HS5 := Lib.hid hs5; clear hs5
      have HT5 := Lib.hid ht5; clear ht5
      clear hsy5
      go_wp2_with fail
      refine HNY.out.mono ?_; rintro e w6 ⟨A6, k6, c6, E6, rfl, hk6, _, hk6b, hor6, ho6, hs6, ht6⟩
      have hs56 := HS5.out.below ht6.1 (Nat.le_refl _)
      have ho56 := own_touch HO5.out ht6 hU2
      have hb6 : Below W.heap.size W w6 := hb.trans ((Below.mono HT5.out.1 hW1).trans (Below.mono ht6.1 (by omega)))
      obtain ⟨_, _, hv5, hr5, _, _⟩ := row_of_own ho56
      injection hv5 with e1 e2 e3
      subst e1; subst e3
      obtain ⟨_, _, hv6, hr6, _, _⟩ := row_of_own ho6
      injection hv6 with e1 e2 e3
      subst e1; subst e3
      have kc5 : ∀ q, (convert 22 9 (.slice A5 k5 c5)).run Try.prog (w6.drewN q) = .ok (.string (strOfNums ((p1.flatten.drop G).take k5))) (w6.drewN q) := fun q => strRow _ A5 k5 c5 _ (hr5.drewN q)
      have kc6 : ∀ q, (convert 22 9 (.slice A6 k6 c6)).run Try.prog (w6.drewN q) = .ok (.string (strOfNums ((p2.flatten.drop H).take k6))) (w6.drewN q) := fun q => strRow _ A6 k6 c6 _ (hr6.drewN q)
      rw [HT1.out] at kc5
      rw [HT2.out] at kc6
      have hj5 := strOfNums_more xs G k5
      have hj6 := strOfNums_more xs H k6
      have hz1 : (strOfNums (xs.take G)).size ≤ 1000 := by rw [size_strOfNums, List.length_take]; omega
      have hz2 : (strOfNums (xs.take H)).size ≤ 1000 := by rw [size_strOfNums, List.length_take]; omega
      have hz5 : (strOfNums ((xs.drop G).take k5)).size ≤ 1000 := by rw [size_strOfNums, List.length_take]; omega
      have hz6 : (strOfNums ((xs.drop H).take k6)).size ≤ 1000 := by rw [size_strOfNums, List.length_take]; omega
      obtain ⟨S1, hS1⟩ : ∃ S, S = strOfNums (xs.take G) := ⟨_, rfl⟩
      obtain ⟨S2, hS2⟩ : ∃ S, S = strOfNums (xs.take H) := ⟨_, rfl⟩
      obtain ⟨X5, hX5⟩ : ∃ S, S = strOfNums ((xs.drop G).take k5) := ⟨_, rfl⟩
      obtain ⟨X6, hX6⟩ : ∃ S, S = strOfNums ((xs.drop H).take k6) := ⟨_, rfl⟩
      rw [← hS1, ← hX5] at hj5
      rw [← hS2, ← hX6] at hj6
      rw [← hS1] at hz1 ⊢
      rw [← hS2] at hz2 ⊢
      rw [← hX5] at hz5 kc5
      rw [← hX6] at hz6 kc6
      have hno1 : ¬ 9223372036854775807 < S1.size + X5.size := by omega
      have hno2 : ¬ 9223372036854775807 < S2.size + X6.size := by omega
      have HJ5 := Lib.hid hj5; clear hj5
      have HJ6 := Lib.hid hj6; clear hj6
      have HO6 := Lib.hid hor6; clear hor6
      have HS6 := Lib.hid hs6; clear hs6
      have HS56 := Lib.hid hs56; clear hs56
      clear hS1 hS2 hX5 hX6 hr5 hr6 ho6 ho56 ht6 hz1 hz2 hz5 hz6
      go_wp2_with fail
      go_quiet (fail)
      go_wp2_with fail
      have f1 := HFL1.out
      have f2 := HFL2.out
      refine ⟨⟨i + 1, G + k5, H + k6, by omega, by go_num, by rw [HJ5.out], by rw [HJ6.out], by omega, by omega, ?_, ?_, Lib.hid (HS56.out.drewN _), Lib.hid (HS6.out.drewN _), below_drewN hb6 _⟩, by simp [intOf]; omega⟩
      · rcases HOR5.out with ⟨_, h, _⟩ | ⟨_, _, h⟩ <;> omega
      · rcases HO6.out with ⟨_, h, _⟩ | ⟨_, _, h⟩ <;> omega
    · obtain rfl : G = len := by omega
      obtain rfl : H = G := by omega
      have hx0 : xs.take H = xs := List.take_of_length_le (by rw [HXL.out]; exact Nat.le_refl _)
      rw [hx0]
      have hcv := HCV.out wr hb
      have hleft := left_any HSx.out
      have hgiv := given_any HSy.out
      have HLE := Lib.hid hleft; clear hleft
      have HGI := Lib.hid hgiv; clear hgiv
      obtain ⟨S, hS⟩ : ∃ S, S = strOfNums xs := ⟨_, rfl⟩
      rw [← hS] at hcv ⊢
      clear hx0 hS
      go_wp2_with fail
      refine HLE.out.mono ?_; rintro e w5 ⟨rfl, rfl⟩
      go_wp2_with fail
      refine HGI.out.mono ?_; rintro e w5 ⟨rfl, rfl⟩
      go_wp2_with fail
      go_ret
      exact ⟨rfl, hb⟩

theorem lawCuts (A D1 D2 : Option Addr) (len cap m1 d1 m2 d2 : Nat) (zs z1 z2 : List Int) (W : World)
    (h : (A = none ∧ len = 0 ∧ cap = 0 ∧ zs = []) ∨
      ∃ x, A = some x ∧ len ≤ cap ∧ cap ≤ maxLen ∧ zs.length = cap ∧ (∀ i, i < zs.length → W.cell? (x.add i) = some (.int .u8 (zs.getD i 0))) ∧ ∀ n ∈ zs, (Lit.int .u8 n).wf = true)
    (h1 : (D1 = none ∧ m1 = 0 ∧ d1 = 0 ∧ z1 = []) ∨
      ∃ x, D1 = some x ∧ m1 ≤ d1 ∧ d1 ≤ maxLen ∧ z1.length = d1 ∧ (∀ i, i < z1.length → W.cell? (x.add i) = some (.int .i64 (z1.getD i 0))) ∧ ∀ n ∈ z1, (Lit.int .i64 n).wf = true)
    (h2 : (D2 = none ∧ m2 = 0 ∧ d2 = 0 ∧ z2 = []) ∨
      ∃ x, D2 = some x ∧ m2 ≤ d2 ∧ d2 ≤ maxLen ∧ z2.length = d2 ∧ (∀ i, i < z2.length → W.cell? (x.add i) = some (.int .i64 (z2.getD i 0))) ∧ ∀ n ∈ z2, (Lit.int .i64 n).wf = true) :
    Calls Try.prog 6 #[.slice A len cap, .slice D1 m1 d1, .slice D2 m2 d2] W fun e w' => e = .returned (.bool true) ∧ Below W.heap.size W w' := by
  obtain ⟨hr, hcap, hcm, hnil, hwf⟩ := rowI_of_row h
  obtain ⟨hr1, hcap1, hcm1, _, _⟩ := rowI_of_row h1
  obtain ⟨hr2, hcap2, hcm2, _, _⟩ := rowI_of_row h2
  by_cases hl : 200 < len ∨ 10 < m1 ∨ 10 < m2
  · exact lawCuts_awake A D1 D2 len cap m1 d1 m2 d2 W (Nat.le_trans hcap hcm) (Nat.le_trans hcap1 hcm1) (Nat.le_trans hcap2 hcm2) hl
  · exact lawCuts_short A D1 D2 len cap m1 d1 m2 d2 _ _ _ W (by omega) (by omega) (by omega) hr hcap hcm hnil hr1 hr2
end Go.Proofs.Ytgmaiickfpgeoaa
