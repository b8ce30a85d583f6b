/- SourceAll: the walk. -/
import Derived.Test.YtgmaiickfpgeoaaNextAt
namespace Go.Proofs.Ytgmaiickfpgeoaa
open Go Go.RowKit
set_option linter.unusedVariables false

theorem lawAll_awake (A D1 : Option Addr) (len cap m1 d1 : Nat) (fail : Int) (w : World) (hm : len ≤ maxLen) (hm1 : m1 ≤ maxLen) (h : 200 < len ∨ 10 < m1) :
    Calls Try.prog 4 #[.slice A len cap, .int .i64 fail, .slice D1 m1 d1] w fun e w' => e = .returned (.bool true) ∧ Below w.heap.size w w' := by
  unfold maxLen at hm hm1
  by_cases h0 : 200 < len
  · have hd : decide ((200 : Int) < (len : Int)) = true := by simp; omega
    go_enter Try.func4, Try.ntmps4
    go_wp2_with fail
    refine (awake5_any _).mono ?_; rintro e w1 ⟨rfl, hbel⟩
    go_wp2_with fail
    refine (awake5_any _).mono ?_; rintro e w2 ⟨rfl, hbel2⟩
    go_wp2_with fail
    go_ret
    exact ⟨rfl, hbel.trans (Below.mono hbel2 hbel.size)⟩
  · have hd : decide ((200 : Int) < (len : Int)) = false := by simp; omega
    have hd1 : decide ((10 : Int) < (m1 : Int)) = true := by simp; omega
    go_enter Try.func4, Try.ntmps4
    go_wp2_with fail
    refine (awake5_any _).mono ?_; rintro e w1 ⟨rfl, hbel⟩
    go_wp2_with fail
    refine (awake5_any _).mono ?_; rintro e w2 ⟨rfl, hbel2⟩
    go_wp2_with fail
    go_ret
    exact ⟨rfl, hbel.trans (Below.mono hbel2 hbel.size)⟩

set_option maxHeartbeats 4000000 in
/-- What is asked of the source, and what is told in the end: e is what is told behind its octets, ys. -/
theorem lawAll_short (A D1 : Option Addr) (len cap m1 d1 : Nat) (fail : Int) (xs z1 ys : List Int) (er : Int) (ps : List (List Int)) (W : World) (hl : len ≤ 200) (hl1 : m1 ≤ 10) (hr : RowI .u8 W A len xs) (hz1 : RowI .i64 W D1 m1 z1) (hzw : ∀ z ∈ z1, (Lit.int .i64 z).wf = true)
    (hcase : ((fail < 0 ∨ (len : Int) < fail) ∧ ys = xs ∧ er = 19) ∨ ∃ F : Nat, fail = F ∧ F ≤ len ∧ ys = xs.take F ∧ er = 11) (hf : Full ps) (hps : ps.flatten = ys)
    (hnew : ∀ w, Below W.heap.size W w → Calls Try.prog 8 #[.slice A len cap, .int .i64 fail, .slice D1 m1 d1] w fun e w' => e = .returned (.pointer (some ⟨w.heap.size, 0, none⟩)) ∧ Src w' w.heap.size w'.heap.size w.heap.size ps er 0 (len : Int) ∧ Below w.heap.size w w') :
    Calls Try.prog 4 #[.slice A len cap, .int .i64 fail, .slice D1 m1 d1] W fun e w' => e = .returned (.bool true) ∧ Below W.heap.size W w' := by
  have hd : decide ((200 : Int) < (len : Int)) = false := by simp; omega
  have hd1 : decide ((10 : Int) < (m1 : Int)) = false := by simp; omega
  have hxl := hr.1
  have hyl : ys.length ≤ len := by
    rcases hcase with ⟨_, rfl, _⟩ | ⟨F, _, _, rfl, _⟩
    · omega
    · rw [List.length_take]; omega
  have hcv : ∀ w, Below W.heap.size W w → (convert 22 9 (.slice A len cap)).run Try.prog w = .ok (.string (strOfNums xs)) w := fun w h => strRow w A len cap xs (hr.below h (Nat.le_refl _))
  have hz0 := hz1.1
  have hps2 : ps.flatten.length ≤ 200 := by rw [hps]; omega
  have HCV := Lib.hid hcv; clear hcv
  have HNEW := Lib.hid hnew; clear hnew
  have HF := Lib.hid hf; clear hf
  have HPS := Lib.hid hps; clear hps
  have HP2 := Lib.hid hps2; clear hps2
  have HZ := Lib.hid hz1; clear hz1
  have HZW := Lib.hid hzw; clear hzw
  have HXL := Lib.hid hxl; clear hxl
  have HYL := Lib.hid hyl; clear hyl
  have HZ0 := Lib.hid hz0; clear hz0
  clear hr
  obtain ⟨S, hS⟩ : ∃ S, S = strOfNums xs := ⟨_, rfl⟩
  obtain ⟨T, hT⟩ : ∃ T, T = strOfNums ys := ⟨_, rfl⟩
  have hSl : S.size = len := by rw [hS, size_strOfNums, HXL.out]
  rw [← hS] at HCV
  have HT := Lib.hid hT; clear hT
  rcases Nat.eq_zero_or_pos m1 with hm0 | hm0
  · subst hm0
    rcases hcase with ⟨hfa, hys, rfl⟩ | ⟨F, rfl, hFl, hys, rfl⟩
    · have hTS : T = S := by rw [HT.out, hys, hS]
      clear hS hys
      subst hTS
      rcases hfa with hfa | hfa
      · have hc1 : decide (0 ≤ fail) = false := by simp; omega
        go_enter Try.func4, Try.ntmps4
        go_wp2_with fail
        refine (awake5_any _).mono ?_; rintro e w1 ⟨rfl, hb1⟩
        go_wp2_with fail
        refine (HNEW.out _ hb1).mono ?_; rintro e w2 ⟨rfl, hs1, hb2⟩
        have hb02 : Below W.heap.size W w2 := hb1.trans (Below.mono hb2 hb1.size)
        have hcv2 := HCV.out w2 hb02
        obtain ⟨B, hB⟩ : ∃ B, B = w1.heap.size := ⟨_, rfl⟩
        obtain ⟨U, hU⟩ : ∃ B, B = w2.heap.size := ⟨_, rfl⟩
        have hWB := hb1.size
        rw [← hB, ← hU] at hs1
        rw [← hB] at hWB ⊢
        have HS1 := Lib.hid hs1; clear hs1
        clear hb1 hb2 hB hU
        go_wp2_with fail
        go_loopw [8, 11] (fun v8 vi wr => ∃ (i G : Nat), i ≤ len + 1 ∧ vi = .int .i64 (i : Int) ∧ v8 = .string (strOfNums (ys.take G)) ∧ G ≤ ys.length ∧ i ≤ G ∧ Hid (Src wr B U B (dropP G ps) 19 (G : Int) ((len : Int) - (G : Int))) ∧ Below W.heap.size W wr) (fun _ vi _ => len + 1 - (intOf vi).toNat)
        case atStart => exact ⟨0, 0, by omega, rfl, by simp [strOfNums], by omega, by omega, Lib.hid (by rw [dropP_zero _ HF.out]; simpa using HS1.out), hb02⟩
        case round =>
          obtain ⟨i, G, hi, rfl, rfl, hG, hGi, HSx, hb⟩ := hrel
          have hyl := HYL.out
          have hil : i ≤ len := by omega
          have hgl : G ≤ ps.flatten.length := by rw [HPS.out]; exact hG
          have hp2 := HP2.out
          have hn1 := next_at HSx.out HF.out (by omega) hgl (by omega) 1 (by decide)
          have HNX := Lib.hid hn1; clear hn1
          clear hgl
          go_wp2_with fail
          refine HNX.out.mono ?_; rintro e w5 ⟨A5, k5, c5, E5, rfl, hk5, hkm, hk5b, hor5, ho5, hs5, ht5⟩
          have hb5 : Below W.heap.size W w5 := hb.trans (Below.mono ht5.1 hWB)
          rcases hor5 with ⟨rfl, hk0, _⟩ | ⟨rfl, rfl, hGe⟩
          · obtain ⟨_, _, hv5, hr5, _, _⟩ := row_of_own ho5
            injection hv5 with e1 e2 e3
            subst e1; subst e3
            have kc5 := strRow w5 A5 k5 c5 _ hr5
            rw [HPS.out] at kc5
            have hj5 := strOfNums_more ys G k5
            have hz1 : (strOfNums (ys.take G)).size ≤ 1000 := by rw [size_strOfNums, List.length_take]; omega
            have hz5 : (strOfNums ((ys.drop G).take k5)).size ≤ 1000 := by rw [size_strOfNums, List.length_take]; omega
            obtain ⟨S1, hS1⟩ : ∃ S, S = strOfNums (ys.take G) := ⟨_, rfl⟩
            obtain ⟨X5, hX5⟩ : ∃ S, S = strOfNums ((ys.drop G).take k5) := ⟨_, rfl⟩
            rw [← hS1, ← hX5] at hj5
            rw [← hS1] at hz1 ⊢
            rw [← hX5] at hz5 kc5
            have hno1 : ¬ 9223372036854775807 < S1.size + X5.size := by omega
            have hk1 : decide ((k5 : Int) = 0) = false := by simp; omega
            have hk2 : decide (1 < (k5 : Int)) = false := by simp; omega
            have hbd : i ≤ 201 := by omega
            have HJ5 := Lib.hid hj5; clear hj5
            have HS5 := Lib.hid hs5; clear hs5
            have HK := Lib.hid hk5b; clear hk5b
            clear hS1 hX5 hr5 ho5 ht5 hz1 hz5 hkm
            go_wp2_with fail
            refine ⟨⟨i + 1, G + k5, by omega, by go_num, by rw [HJ5.out], by have := HK.out; have := congrArg List.length HPS.out; omega, by omega, Lib.hid HS5.out, hb5⟩, by simp [intOf]; omega⟩
          · have hnil : dropP G ps = [] := (dropP_nil HF.out).2 (by omega)
            have hs6 := hs5
            rw [Nat.add_zero, hnil] at hs6
            have hyG : ys.take G = ys := List.take_of_length_le (by have := congrArg List.length HPS.out; omega)
            rw [hyG, ← HT.out]
            have hn6 := next_end hs6 5 (by decide)
            have HN6 := Lib.hid hn6; clear hn6
            have HS6 := Lib.hid hs6; clear hs6
            clear hs5 ho5 ht5 hnil hyG hk5b hkm
            go_wp2_with fail
            refine HN6.out.mono ?_; rintro e w6 ⟨rfl, q6, rfl⟩
            have HN7 := Lib.hid (next_end (HS6.out.drewN q6) 1 (by decide))
            go_wp2_with fail
            refine HN7.out.mono ?_; rintro e w7 ⟨rfl, q7, rfl⟩
            go_wp2_with fail
            go_ret
            exact ⟨rfl, below_drewN hb5 _⟩
      · have hc1 : decide (0 ≤ fail) = true := by simp; omega
        have hc2 : decide (fail ≤ (len : Int)) = false := by simp; omega
        go_enter Try.func4, Try.ntmps4
        go_wp2_with fail
        refine (awake5_any _).mono ?_; rintro e w1 ⟨rfl, hb1⟩
        go_wp2_with fail
        refine (HNEW.out _ hb1).mono ?_; rintro e w2 ⟨rfl, hs1, hb2⟩
        have hb02 : Below W.heap.size W w2 := hb1.trans (Below.mono hb2 hb1.size)
        have hcv2 := HCV.out w2 hb02
        obtain ⟨B, hB⟩ : ∃ B, B = w1.heap.size := ⟨_, rfl⟩
        obtain ⟨U, hU⟩ : ∃ B, B = w2.heap.size := ⟨_, rfl⟩
        have hWB := hb1.size
        rw [← hB, ← hU] at hs1
        rw [← hB] at hWB ⊢
        have HS1 := Lib.hid hs1; clear hs1
        clear hb1 hb2 hB hU
        go_wp2_with fail
        go_loopw [8, 11] (fun v8 vi wr => ∃ (i G : Nat), i ≤ len + 1 ∧ vi = .int .i64 (i : Int) ∧ v8 = .string (strOfNums (ys.take G)) ∧ G ≤ ys.length ∧ i ≤ G ∧ Hid (Src wr B U B (dropP G ps) 19 (G : Int) ((len : Int) - (G : Int))) ∧ Below W.heap.size W wr) (fun _ vi _ => len + 1 - (intOf vi).toNat)
        case atStart => exact ⟨0, 0, by omega, rfl, by simp [strOfNums], by omega, by omega, Lib.hid (by rw [dropP_zero _ HF.out]; simpa using HS1.out), hb02⟩
        case round =>
          obtain ⟨i, G, hi, rfl, rfl, hG, hGi, HSx, hb⟩ := hrel
          have hyl := HYL.out
          have hil : i ≤ len := by omega
          have hgl : G ≤ ps.flatten.length := by rw [HPS.out]; exact hG
          have hp2 := HP2.out
          have hn1 := next_at HSx.out HF.out (by omega) hgl (by omega) 1 (by decide)
          have HNX := Lib.hid hn1; clear hn1
          clear hgl
          go_wp2_with fail
          refine HNX.out.mono ?_; rintro e w5 ⟨A5, k5, c5, E5, rfl, hk5, hkm, hk5b, hor5, ho5, hs5, ht5⟩
          have hb5 : Below W.heap.size W w5 := hb.trans (Below.mono ht5.1 hWB)
          rcases hor5 with ⟨rfl, hk0, _⟩ | ⟨rfl, rfl, hGe⟩
          · obtain ⟨_, _, hv5, hr5, _, _⟩ := row_of_own ho5
            injection hv5 with e1 e2 e3
            subst e1; subst e3
            have kc5 := strRow w5 A5 k5 c5 _ hr5
            rw [HPS.out] at kc5
            have hj5 := strOfNums_more ys G k5
            have hz1 : (strOfNums (ys.take G)).size ≤ 1000 := by rw [size_strOfNums, List.length_take]; omega
            have hz5 : (strOfNums ((ys.drop G).take k5)).size ≤ 1000 := by rw [size_strOfNums, List.length_take]; omega
            obtain ⟨S1, hS1⟩ : ∃ S, S = strOfNums (ys.take G) := ⟨_, rfl⟩
            obtain ⟨X5, hX5⟩ : ∃ S, S = strOfNums ((ys.drop G).take k5) := ⟨_, rfl⟩
            rw [← hS1, ← hX5] at hj5
            rw [← hS1] at hz1 ⊢
            rw [← hX5] at hz5 kc5
            have hno1 : ¬ 9223372036854775807 < S1.size + X5.size := by omega
            have hk1 : decide ((k5 : Int) = 0) = false := by simp; omega
            have hk2 : decide (1 < (k5 : Int)) = false := by simp; omega
            have hbd : i ≤ 201 := by omega
            have HJ5 := Lib.hid hj5; clear hj5
            have HS5 := Lib.hid hs5; clear hs5
            have HK := Lib.hid hk5b; clear hk5b
            clear hS1 hX5 hr5 ho5 ht5 hz1 hz5 hkm
            go_wp2_with fail
            refine ⟨⟨i + 1, G + k5, by omega, by go_num, by rw [HJ5.out], by have := HK.out; have := congrArg List.length HPS.out; omega, by omega, Lib.hid HS5.out, hb5⟩, by simp [intOf]; omega⟩
          · have hnil : dropP G ps = [] := (dropP_nil HF.out).2 (by omega)
            have hs6 := hs5
            rw [Nat.add_zero, hnil] at hs6
            have hyG : ys.take G = ys := List.take_of_length_le (by have := congrArg List.length HPS.out; omega)
            rw [hyG, ← HT.out]
            have hn6 := next_end hs6 5 (by decide)
            have HN6 := Lib.hid hn6; clear hn6
            have HS6 := Lib.hid hs6; clear hs6
            clear hs5 ho5 ht5 hnil hyG hk5b hkm
            go_wp2_with fail
            refine HN6.out.mono ?_; rintro e w6 ⟨rfl, q6, rfl⟩
            have HN7 := Lib.hid (next_end (HS6.out.drewN q6) 1 (by decide))
            go_wp2_with fail
            refine HN7.out.mono ?_; rintro e w7 ⟨rfl, q7, rfl⟩
            go_wp2_with fail
            go_ret
            exact ⟨rfl, below_drewN hb5 _⟩
    · have hTS : S.extract 0 F = T := by rw [HT.out, hys, hS, strOfNums_take]
      have hF2 : F ≤ S.size := by omega
      clear hS hys
      go_enter Try.func4, Try.ntmps4
      go_wp2_with fail
      refine (awake5_any _).mono ?_; rintro e w1 ⟨rfl, hb1⟩
      go_wp2_with fail
      refine (HNEW.out _ hb1).mono ?_; rintro e w2 ⟨rfl, hs1, hb2⟩
      have hb02 : Below W.heap.size W w2 := hb1.trans (Below.mono hb2 hb1.size)
      have hcv2 := HCV.out w2 hb02
      obtain ⟨B, hB⟩ : ∃ B, B = w1.heap.size := ⟨_, rfl⟩
      obtain ⟨U, hU⟩ : ∃ B, B = w2.heap.size := ⟨_, rfl⟩
      have hWB := hb1.size
      rw [← hB, ← hU] at hs1
      rw [← hB] at hWB ⊢
      have HS1 := Lib.hid hs1; clear hs1
      clear hb1 hb2 hB hU
      go_wp2_with fail
      clear hTS hSl hF2 hcv2
      go_loopw [8, 11] (fun v8 vi wr => ∃ (i G : Nat), i ≤ len + 1 ∧ vi = .int .i64 (i : Int) ∧ v8 = .string (strOfNums (ys.take G)) ∧ G ≤ ys.length ∧ i ≤ G ∧ Hid (Src wr B U B (dropP G ps) 11 (G : Int) ((len : Int) - (G : Int))) ∧ Below W.heap.size W wr) (fun _ vi _ => len + 1 - (intOf vi).toNat)
      case atStart => exact ⟨0, 0, by omega, rfl, by simp [strOfNums], by omega, by omega, Lib.hid (by rw [dropP_zero _ HF.out]; simpa using HS1.out), hb02⟩
      case round =>
        obtain ⟨i, G, hi, rfl, rfl, hG, hGi, HSx, hb⟩ := hrel
        have hyl := HYL.out
        have hil : i ≤ len := by omega
        have hgl : G ≤ ps.flatten.length := by rw [HPS.out]; exact hG
        have hp2 := HP2.out
        have hn1 := next_at HSx.out HF.out (by omega) hgl (by omega) 1 (by decide)
        have HNX := Lib.hid hn1; clear hn1
        clear hgl
        go_wp2_with fail
        refine HNX.out.mono ?_; rintro e w5 ⟨A5, k5, c5, E5, rfl, hk5, hkm, hk5b, hor5, ho5, hs5, ht5⟩
        have hb5 : Below W.heap.size W w5 := hb.trans (Below.mono ht5.1 hWB)
        rcases hor5 with ⟨rfl, hk0, _⟩ | ⟨rfl, rfl, hGe⟩
        · obtain ⟨_, _, hv5, hr5, _, _⟩ := row_of_own ho5
          injection hv5 with e1 e2 e3
          subst e1; subst e3
          have kc5 := strRow w5 A5 k5 c5 _ hr5
          rw [HPS.out] at kc5
          have hj5 := strOfNums_more ys G k5
          have hz1 : (strOfNums (ys.take G)).size ≤ 1000 := by rw [size_strOfNums, List.length_take]; omega
          have hz5 : (strOfNums ((ys.drop G).take k5)).size ≤ 1000 := by rw [size_strOfNums, List.length_take]; omega
          obtain ⟨S1, hS1⟩ : ∃ S, S = strOfNums (ys.take G) := ⟨_, rfl⟩
          obtain ⟨X5, hX5⟩ : ∃ S, S = strOfNums ((ys.drop G).take k5) := ⟨_, rfl⟩
          rw [← hS1, ← hX5] at hj5
          rw [← hS1] at hz1 ⊢
          rw [← hX5] at hz5 kc5
          have hno1 : ¬ 9223372036854775807 < S1.size + X5.size := by omega
          have hk1 : decide ((k5 : Int) = 0) = false := by simp; omega
          have hk2 : decide (1 < (k5 : Int)) = false := by simp; omega
          have hbd : i ≤ 201 := by omega
          have HJ5 := Lib.hid hj5; clear hj5
          have HS5 := Lib.hid hs5; clear hs5
          have HK := Lib.hid hk5b; clear hk5b
          clear hS1 hX5 hr5 ho5 ht5 hz1 hz5 hkm
          go_wp2_with fail
          refine ⟨⟨i + 1, G + k5, by omega, by go_num, by rw [HJ5.out], by have := HK.out; have := congrArg List.length HPS.out; omega, by omega, Lib.hid HS5.out, hb5⟩, by simp [intOf]; omega⟩
        · have hnil : dropP G ps = [] := (dropP_nil HF.out).2 (by omega)
          have hs6 := hs5
          rw [Nat.add_zero, hnil] at hs6
          have hyG : ys.take G = ys := List.take_of_length_le (by have := congrArg List.length HPS.out; omega)
          rw [hyG, ← HT.out]
          have hn6 := next_end hs6 5 (by decide)
          have HN6 := Lib.hid hn6; clear hn6
          have HS6 := Lib.hid hs6; clear hs6
          clear hs5 ho5 ht5 hnil hyG hk5b hkm
          go_wp2_with fail
          refine HN6.out.mono ?_; rintro e w6 ⟨rfl, q6, rfl⟩
          have HN7 := Lib.hid (next_end (HS6.out.drewN q6) 1 (by decide))
          go_wp2_with fail
          refine HN7.out.mono ?_; rintro e w7 ⟨rfl, q7, rfl⟩
          go_wp2_with fail
          go_ret
          exact ⟨rfl, below_drewN hb5 _⟩
  · rcases hcase with ⟨hfa, hys, rfl⟩ | ⟨F, rfl, hFl, hys, rfl⟩
    · have hTS : T = S := by rw [HT.out, hys, hS]
      clear hS hys
      subst hTS
      rcases hfa with hfa | hfa
      · have hc1 : decide (0 ≤ fail) = false := by simp; omega
        go_enter Try.func4, Try.ntmps4
        go_wp2_with fail
        refine (awake5_any _).mono ?_; rintro e w1 ⟨rfl, hb1⟩
        go_wp2_with fail
        refine (HNEW.out _ hb1).mono ?_; rintro e w2 ⟨rfl, hs1, hb2⟩
        have hb02 : Below W.heap.size W w2 := hb1.trans (Below.mono hb2 hb1.size)
        have hcv2 := HCV.out w2 hb02
        obtain ⟨B, hB⟩ : ∃ B, B = w1.heap.size := ⟨_, rfl⟩
        obtain ⟨U, hU⟩ : ∃ B, B = w2.heap.size := ⟨_, rfl⟩
        have hWB := hb1.size
        rw [← hB, ← hU] at hs1
        rw [← hB] at hWB ⊢
        have HS1 := Lib.hid hs1; clear hs1
        clear hb1 hb2 hB hU
        go_wp2_with fail
        go_loopw [8, 11] (fun v8 vi wr => ∃ (i G : Nat), i ≤ len + 1 ∧ vi = .int .i64 (i : Int) ∧ v8 = .string (strOfNums (ys.take G)) ∧ G ≤ ys.length ∧ i ≤ G ∧ Hid (Src wr B U B (dropP G ps) 19 (G : Int) ((len : Int) - (G : Int))) ∧ Below W.heap.size W wr) (fun _ vi _ => len + 1 - (intOf vi).toNat)
        case atStart => exact ⟨0, 0, by omega, rfl, by simp [strOfNums], by omega, by omega, Lib.hid (by rw [dropP_zero _ HF.out]; simpa using HS1.out), hb02⟩
        case round =>
          obtain ⟨i, G, hi, rfl, rfl, hG, hGi, HSx, hb⟩ := hrel
          have hyl := HYL.out
          have hil : i ≤ len := by omega
          have hgl : G ≤ ps.flatten.length := by rw [HPS.out]; exact hG
          have hp2 := HP2.out
          obtain ⟨b, o, rfl, hbl, hc⟩ := HZ.out.2 hm0
          have hj : i % m1 < m1 := Nat.mod_lt _ hm0
          have hcell : wr.cell? ⟨b, o + i % m1, none⟩ = some (.int .i64 (z1.getD (i % m1) 0)) := (hb.cell (p := ⟨b, o + i % m1, none⟩) hbl).trans (hc (i % m1) hj)
          have hrem : (i : Int) % (m1 : Int) = ((i % m1 : Nat) : Int) := by simp
          obtain ⟨x, hx⟩ : ∃ x, x = z1.getD (i % m1) 0 := ⟨_, rfl⟩
          obtain ⟨j, hjj⟩ : ∃ j, j = i % m1 := ⟨_, rfl⟩
          rw [← hx] at hcell
          rw [← hjj] at hcell hrem hj
          have hpos : decide ((0 : Int) < (m1 : Int)) = true := by simp; omega
          have hne : decide ((m1 : Int) = 0) = false := by simp; omega
          obtain ⟨M, hM⟩ : ∃ M, M = max x 1 := ⟨_, rfl⟩
          have hM1 : 1 ≤ M := by omega
          have hn1 := next_at HSx.out HF.out (by omega) hgl (by omega) M hM1
          have hMx := hM.symm
          have HNX := Lib.hid hn1; clear hn1
          clear hgl hx hjj hM hc
          go_wp2_with fail
          refine HNX.out.mono ?_; rintro e w5 ⟨A5, k5, c5, E5, rfl, hk5, hkm, hk5b, hor5, ho5, hs5, ht5⟩
          have hb5 : Below W.heap.size W w5 := hb.trans (Below.mono ht5.1 hWB)
          rcases hor5 with ⟨rfl, hk0, _⟩ | ⟨rfl, rfl, hGe⟩
          · obtain ⟨_, _, hv5, hr5, _, _⟩ := row_of_own ho5
            injection hv5 with e1 e2 e3
            subst e1; subst e3
            have kc5 := strRow w5 A5 k5 c5 _ hr5
            rw [HPS.out] at kc5
            have hj5 := strOfNums_more ys G k5
            have hz1 : (strOfNums (ys.take G)).size ≤ 1000 := by rw [size_strOfNums, List.length_take]; omega
            have hz5 : (strOfNums ((ys.drop G).take k5)).size ≤ 1000 := by rw [size_strOfNums, List.length_take]; omega
            obtain ⟨S1, hS1⟩ : ∃ S, S = strOfNums (ys.take G) := ⟨_, rfl⟩
            obtain ⟨X5, hX5⟩ : ∃ S, S = strOfNums ((ys.drop G).take k5) := ⟨_, rfl⟩
            rw [← hS1, ← hX5] at hj5
            rw [← hS1] at hz1 ⊢
            rw [← hX5] at hz5 kc5
            have hno1 : ¬ 9223372036854775807 < S1.size + X5.size := by omega
            have hk1 : decide ((k5 : Int) = 0) = false := by simp; omega
            have hk2 : decide (M < (k5 : Int)) = false := by simp; omega
            have hbd : i ≤ 201 := by omega
            have HJ5 := Lib.hid hj5; clear hj5
            have HS5 := Lib.hid hs5; clear hs5
            have HK := Lib.hid hk5b; clear hk5b
            clear hS1 hX5 hr5 ho5 ht5 hz1 hz5 hkm
            go_wp2_with fail
            refine ⟨⟨i + 1, G + k5, by omega, by go_num, by rw [HJ5.out], by have := HK.out; have := congrArg List.length HPS.out; omega, by omega, Lib.hid HS5.out, hb5⟩, by simp [intOf]; omega⟩
          · have hnil : dropP G ps = [] := (dropP_nil HF.out).2 (by omega)
            have hs6 := hs5
            rw [Nat.add_zero, hnil] at hs6
            have hyG : ys.take G = ys := List.take_of_length_le (by have := congrArg List.length HPS.out; omega)
            rw [hyG, ← HT.out]
            have hn6 := next_end hs6 5 (by decide)
            have HN6 := Lib.hid hn6; clear hn6
            have HS6 := Lib.hid hs6; clear hs6
            clear hs5 ho5 ht5 hnil hyG hk5b hkm
            go_wp2_with fail
            refine HN6.out.mono ?_; rintro e w6 ⟨rfl, q6, rfl⟩
            have HN7 := Lib.hid (next_end (HS6.out.drewN q6) 1 (by decide))
            go_wp2_with fail
            refine HN7.out.mono ?_; rintro e w7 ⟨rfl, q7, rfl⟩
            go_wp2_with fail
            go_ret
            exact ⟨rfl, below_drewN hb5 _⟩
      · have hc1 : decide (0 ≤ fail) = true := by simp; omega
        have hc2 : decide (fail ≤ (len : Int)) = false := by simp; omega
        go_enter Try.func4, Try.ntmps4
        go_wp2_with fail
        refine (awake5_any _).mono ?_; rintro e w1 ⟨rfl, hb1⟩
        go_wp2_with fail
        refine (HNEW.out _ hb1).mono ?_; rintro e w2 ⟨rfl, hs1, hb2⟩
        have hb02 : Below W.heap.size W w2 := hb1.trans (Below.mono hb2 hb1.size)
        have hcv2 := HCV.out w2 hb02
        obtain ⟨B, hB⟩ : ∃ B, B = w1.heap.size := ⟨_, rfl⟩
        obtain ⟨U, hU⟩ : ∃ B, B = w2.heap.size := ⟨_, rfl⟩
        have hWB := hb1.size
        rw [← hB, ← hU] at hs1
        rw [← hB] at hWB ⊢
        have HS1 := Lib.hid hs1; clear hs1
        clear hb1 hb2 hB hU
        go_wp2_with fail
        go_loopw [8, 11] (fun v8 vi wr => ∃ (i G : Nat), i ≤ len + 1 ∧ vi = .int .i64 (i : Int) ∧ v8 = .string (strOfNums (ys.take G)) ∧ G ≤ ys.length ∧ i ≤ G ∧ Hid (Src wr B U B (dropP G ps) 19 (G : Int) ((len : Int) - (G : Int))) ∧ Below W.heap.size W wr) (fun _ vi _ => len + 1 - (intOf vi).toNat)
        case atStart => exact ⟨0, 0, by omega, rfl, by simp [strOfNums], by omega, by omega, Lib.hid (by rw [dropP_zero _ HF.out]; simpa using HS1.out), hb02⟩
        case round =>
          obtain ⟨i, G, hi, rfl, rfl, hG, hGi, HSx, hb⟩ := hrel
          have hyl := HYL.out
          have hil : i ≤ len := by omega
          have hgl : G ≤ ps.flatten.length := by rw [HPS.out]; exact hG
          have hp2 := HP2.out
          obtain ⟨b, o, rfl, hbl, hc⟩ := HZ.out.2 hm0
          have hj : i % m1 < m1 := Nat.mod_lt _ hm0
          have hcell : wr.cell? ⟨b, o + i % m1, none⟩ = some (.int .i64 (z1.getD (i % m1) 0)) := (hb.cell (p := ⟨b, o + i % m1, none⟩) hbl).trans (hc (i % m1) hj)
          have hrem : (i : Int) % (m1 : Int) = ((i % m1 : Nat) : Int) := by simp
          obtain ⟨x, hx⟩ : ∃ x, x = z1.getD (i % m1) 0 := ⟨_, rfl⟩
          obtain ⟨j, hjj⟩ : ∃ j, j = i % m1 := ⟨_, rfl⟩
          rw [← hx] at hcell
          rw [← hjj] at hcell hrem hj
          have hpos : decide ((0 : Int) < (m1 : Int)) = true := by simp; omega
          have hne : decide ((m1 : Int) = 0) = false := by simp; omega
          obtain ⟨M, hM⟩ : ∃ M, M = max x 1 := ⟨_, rfl⟩
          have hM1 : 1 ≤ M := by omega
          have hn1 := next_at HSx.out HF.out (by omega) hgl (by omega) M hM1
          have hMx := hM.symm
          have HNX := Lib.hid hn1; clear hn1
          clear hgl hx hjj hM hc
          go_wp2_with fail
          refine HNX.out.mono ?_; rintro e w5 ⟨A5, k5, c5, E5, rfl, hk5, hkm, hk5b, hor5, ho5, hs5, ht5⟩
          have hb5 : Below W.heap.size W w5 := hb.trans (Below.mono ht5.1 hWB)
          rcases hor5 with ⟨rfl, hk0, _⟩ | ⟨rfl, rfl, hGe⟩
          · obtain ⟨_, _, hv5, hr5, _, _⟩ := row_of_own ho5
            injection hv5 with e1 e2 e3
            subst e1; subst e3
            have kc5 := strRow w5 A5 k5 c5 _ hr5
            rw [HPS.out] at kc5
            have hj5 := strOfNums_more ys G k5
            have hz1 : (strOfNums (ys.take G)).size ≤ 1000 := by rw [size_strOfNums, List.length_take]; omega
            have hz5 : (strOfNums ((ys.drop G).take k5)).size ≤ 1000 := by rw [size_strOfNums, List.length_take]; omega
            obtain ⟨S1, hS1⟩ : ∃ S, S = strOfNums (ys.take G) := ⟨_, rfl⟩
            obtain ⟨X5, hX5⟩ : ∃ S, S = strOfNums ((ys.drop G).take k5) := ⟨_, rfl⟩
            rw [← hS1, ← hX5] at hj5
            rw [← hS1] at hz1 ⊢
            rw [← hX5] at hz5 kc5
            have hno1 : ¬ 9223372036854775807 < S1.size + X5.size := by omega
            have hk1 : decide ((k5 : Int) = 0) = false := by simp; omega
            have hk2 : decide (M < (k5 : Int)) = false := by simp; omega
            have hbd : i ≤ 201 := by omega
            have HJ5 := Lib.hid hj5; clear hj5
            have HS5 := Lib.hid hs5; clear hs5
            have HK := Lib.hid hk5b; clear hk5b
            clear hS1 hX5 hr5 ho5 ht5 hz1 hz5 hkm
            go_wp2_with fail
            refine ⟨⟨i + 1, G + k5, by omega, by go_num, by rw [HJ5.out], by have := HK.out; have := congrArg List.length HPS.out; omega, by omega, Lib.hid HS5.out, hb5⟩, by simp [intOf]; omega⟩
          · have hnil : dropP G ps = [] := (dropP_nil HF.out).2 (by omega)
            have hs6 := hs5
            rw [Nat.add_zero, hnil] at hs6
            have hyG : ys.take G = ys := List.take_of_length_le (by have := congrArg List.length HPS.out; omega)
            rw [hyG, ← HT.out]
            have hn6 := next_end hs6 5 (by decide)
            have HN6 := Lib.hid hn6; clear hn6
            have HS6 := Lib.hid hs6; clear hs6
            clear hs5 ho5 ht5 hnil hyG hk5b hkm
            go_wp2_with fail
            refine HN6.out.mono ?_; rintro e w6 ⟨rfl, q6, rfl⟩
            have HN7 := Lib.hid (next_end (HS6.out.drewN q6) 1 (by decide))
            go_wp2_with fail
            refine HN7.out.mono ?_; rintro e w7 ⟨rfl, q7, rfl⟩
            go_wp2_with fail
            go_ret
            exact ⟨rfl, below_drewN hb5 _⟩
    · have hTS : S.extract 0 F = T := by rw [HT.out, hys, hS, strOfNums_take]
      have hF2 : F ≤ S.size := by omega
      clear hS hys
      go_enter Try.func4, Try.ntmps4
      go_wp2_with fail
      refine (awake5_any _).mono ?_; rintro e w1 ⟨rfl, hb1⟩
      go_wp2_with fail
      refine (HNEW.out _ hb1).mono ?_; rintro e w2 ⟨rfl, hs1, hb2⟩
      have hb02 : Below W.heap.size W w2 := hb1.trans (Below.mono hb2 hb1.size)
      have hcv2 := HCV.out w2 hb02
      obtain ⟨B, hB⟩ : ∃ B, B = w1.heap.size := ⟨_, rfl⟩
      obtain ⟨U, hU⟩ : ∃ B, B = w2.heap.size := ⟨_, rfl⟩
      have hWB := hb1.size
      rw [← hB, ← hU] at hs1
      rw [← hB] at hWB ⊢
      have HS1 := Lib.hid hs1; clear hs1
      clear hb1 hb2 hB hU
      go_wp2_with fail
      clear hTS hSl hF2 hcv2
      go_loopw [8, 11] (fun v8 vi wr => ∃ (i G : Nat), i ≤ len + 1 ∧ vi = .int .i64 (i : Int) ∧ v8 = .string (strOfNums (ys.take G)) ∧ G ≤ ys.length ∧ i ≤ G ∧ Hid (Src wr B U B (dropP G ps) 11 (G : Int) ((len : Int) - (G : Int))) ∧ Below W.heap.size W wr) (fun _ vi _ => len + 1 - (intOf vi).toNat)
      case atStart => exact ⟨0, 0, by omega, rfl, by simp [strOfNums], by omega, by omega, Lib.hid (by rw [dropP_zero _ HF.out]; simpa using HS1.out), hb02⟩
      case round =>
        obtain ⟨i, G, hi, rfl, rfl, hG, hGi, HSx, hb⟩ := hrel
        have hyl := HYL.out
        have hil : i ≤ len := by omega
        have hgl : G ≤ ps.flatten.length := by rw [HPS.out]; exact hG
        have hp2 := HP2.out
        obtain ⟨b, o, rfl, hbl, hc⟩ := HZ.out.2 hm0
        have hj : i % m1 < m1 := Nat.mod_lt _ hm0
        have hcell : wr.cell? ⟨b, o + i % m1, none⟩ = some (.int .i64 (z1.getD (i % m1) 0)) := (hb.cell (p := ⟨b, o + i % m1, none⟩) hbl).trans (hc (i % m1) hj)
        have hrem : (i : Int) % (m1 : Int) = ((i % m1 : Nat) : Int) := by simp
        obtain ⟨x, hx⟩ : ∃ x, x = z1.getD (i % m1) 0 := ⟨_, rfl⟩
        obtain ⟨j, hjj⟩ : ∃ j, j = i % m1 := ⟨_, rfl⟩
        rw [← hx] at hcell
        rw [← hjj] at hcell hrem hj
        have hpos : decide ((0 : Int) < (m1 : Int)) = true := by simp; omega
        have hne : decide ((m1 : Int) = 0) = false := by simp; omega
        obtain ⟨M, hM⟩ : ∃ M, M = max x 1 := ⟨_, rfl⟩
        have hM1 : 1 ≤ M := by omega
        have hn1 := next_at HSx.out HF.out (by omega) hgl (by omega) M hM1
        have hMx := hM.symm
        have HNX := Lib.hid hn1; clear hn1
        clear hgl hx hjj hM hc
        go_wp2_with fail
        refine HNX.out.mono ?_; rintro e w5 ⟨A5, k5, c5, E5, rfl, hk5, hkm, hk5b, hor5, ho5, hs5, ht5⟩
        have hb5 : Below W.heap.size W w5 := hb.trans (Below.mono ht5.1 hWB)
        rcases hor5 with ⟨rfl, hk0, _⟩ | ⟨rfl, rfl, hGe⟩
        · obtain ⟨_, _, hv5, hr5, _, _⟩ := row_of_own ho5
          injection hv5 with e1 e2 e3
          subst e1; subst e3
          have kc5 := strRow w5 A5 k5 c5 _ hr5
          rw [HPS.out] at kc5
          have hj5 := strOfNums_more ys G k5
          have hz1 : (strOfNums (ys.take G)).size ≤ 1000 := by rw [size_strOfNums, List.length_take]; omega
          have hz5 : (strOfNums ((ys.drop G).take k5)).size ≤ 1000 := by rw [size_strOfNums, List.length_take]; omega
          obtain ⟨S1, hS1⟩ : ∃ S, S = strOfNums (ys.take G) := ⟨_, rfl⟩
          obtain ⟨X5, hX5⟩ : ∃ S, S = strOfNums ((ys.drop G).take k5) := ⟨_, rfl⟩
          rw [← hS1, ← hX5] at hj5
          rw [← hS1] at hz1 ⊢
          rw [← hX5] at hz5 kc5
          have hno1 : ¬ 9223372036854775807 < S1.size + X5.size := by omega
          have hk1 : decide ((k5 : Int) = 0) = false := by simp; omega
          have hk2 : decide (M < (k5 : Int)) = false := by simp; omega
          have hbd : i ≤ 201 := by omega
          have HJ5 := Lib.hid hj5; clear hj5
          have HS5 := Lib.hid hs5; clear hs5
          have HK := Lib.hid hk5b; clear hk5b
          clear hS1 hX5 hr5 ho5 ht5 hz1 hz5 hkm
          go_wp2_with fail
          refine ⟨⟨i + 1, G + k5, by omega, by go_num, by rw [HJ5.out], by have := HK.out; have := congrArg List.length HPS.out; omega, by omega, Lib.hid HS5.out, hb5⟩, by simp [intOf]; omega⟩
        · have hnil : dropP G ps = [] := (dropP_nil HF.out).2 (by omega)
          have hs6 := hs5
          rw [Nat.add_zero, hnil] at hs6
          have hyG : ys.take G = ys := List.take_of_length_le (by have := congrArg List.length HPS.out; omega)
          rw [hyG, ← HT.out]
          have hn6 := next_end hs6 5 (by decide)
          have HN6 := Lib.hid hn6; clear hn6
          have HS6 := Lib.hid hs6; clear hs6
          clear hs5 ho5 ht5 hnil hyG hk5b hkm
          go_wp2_with fail
          refine HN6.out.mono ?_; rintro e w6 ⟨rfl, q6, rfl⟩
          have HN7 := Lib.hid (next_end (HS6.out.drewN q6) 1 (by decide))
          go_wp2_with fail
          refine HN7.out.mono ?_; rintro e w7 ⟨rfl, q7, rfl⟩
          go_wp2_with fail
          go_ret
          exact ⟨rfl, below_drewN hb5 _⟩
end Go.Proofs.Ytgmaiickfpgeoaa
