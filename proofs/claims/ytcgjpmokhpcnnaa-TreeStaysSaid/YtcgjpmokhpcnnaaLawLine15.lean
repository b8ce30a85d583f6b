/- TreeLine, of any tree that answers so. -/
import Derived.Test.YtcgjpmokhpcnnaaLawFull15
import Derived.Test.YtcgjpmokhpcnnaaTreL
namespace Go.Proofs.Ytcgjpmokhpcnnaa
open Go Go.RowKit
set_option linter.unusedVariables false
set_option maxRecDepth 20000
section
variable {P : TP} (T : TreF P)
include T
theorem tre_line1 {w0 w : World} {g k a : Nat} (ha : a < k) (h : Tre P w0 w g (lineU k) (List.replicate k 0)) :
    Calls Try.prog 12 #[.pointer (some ⟨g, 0, none⟩), .int .i64 (a : Int), .int .i64 12] w fun e w' => e = .returned (.tuple #[.int .i64 ((k : Int) - (a : Int)), .int .i64 0]) ∧ Tre P w0 w' g (lineU k) (line1 k a) := by
  refine (tre_can T h (a : Int) 12).mono fun e w' hh => ?_
  rw [line_canE ha 12 (by decide), if_pos rfl, if_pos rfl, lineU_length, line_can1, line_num1, show ((k - a : Nat) : Int) = (k : Int) - (a : Int) by omega] at hh
  exact hh
theorem tre_line2 {w0 w : World} {g k a b : Nat} (ha : a < k) (hb : b < k) (h : Tre P w0 w g (lineU k) (line1 k a)) :
    Calls Try.prog 12 #[.pointer (some ⟨g, 0, none⟩), .int .i64 (b : Int), .int .i64 13] w fun e w' => e = .returned (.tuple #[.int .i64 ((a - b : Nat) : Int), .int .i64 0]) ∧ Tre P w0 w' g (lineU k) (line2 k a b) := by
  refine (tre_can T h (b : Int) 13).mono fun e w' hh => ?_
  rw [line_canE hb 13 (by decide), if_pos rfl, if_pos rfl, lineU_length, line_can2, line_num2 k a b (by omega)] at hh
  exact hh
theorem tre_line3 {w0 w : World} {g k a b j : Nat} (hj : j < k) (h : Tre P w0 w g (lineU k) (line2 k a b)) :
    Calls Try.prog 18 #[.pointer (some ⟨g, 0, none⟩), .int .i64 (j : Int)] w fun e w' => e = .returned (.int .i64 (if a ≤ j then 12 else if b ≤ j then 13 else 0)) ∧ Tre P w0 w' g (lineU k) (line2 k a b) := by
  refine (tre_cau T h (j : Int)).mono fun e w' hh => ?_
  rw [cau_at (by rw [lineU_length]; exact hj), line2_at hj] at hh
  exact hh
theorem tre_line4 {w0 w : World} {g k j : Nat} {ca : List Int} (hj : j < k) (h : Tre P w0 w g (lineU k) ca) :
    Calls Try.prog 16 #[.pointer (some ⟨g, 0, none⟩), .int .i64 (j : Int)] w fun e w' => ∃ A c, e = .returned (.slice A (k - 1 - j) c) ∧ Tre P w0 w' g (lineU k) ca := by
  refine (tre_bel T h (j : Int)).mono fun e w' hh => ?_
  rw [lineU_length, line_bel k j hj] at hh
  exact hh
set_option maxHeartbeats 8000000 in
theorem line15_any (n p q : Nat) (hn : n < 256) (hp : p < 256) (hq : q < 256) (w : World) :
    Calls Try.prog 6 #[.int .u8 (n : Int), .agg #[.int .u8 (p : Int), .int .u8 (q : Int)]] w fun e w' => e = .returned (.bool true) ∧ Below w.heap.size w w' := by
  obtain ⟨W, hW⟩ : ∃ W, W = w.alloc (.cells #[.int .u8 (p : Int), .int .u8 (q : Int)] 49) := ⟨_, rfl⟩
  obtain ⟨ga, hga⟩ : ∃ ga, ga = w.heap.size := ⟨_, rfl⟩
  have hblk : W.heap[ga]? = some (.cells #[.int .u8 (p : Int), .int .u8 (q : Int)] 49 (0, 0)) := by rw [hW, hga]; exact heap_alloc_new w _
  have hlt : ga < W.heap.size := by rw [hW, hga]; simp
  have a0 := cell_of_row W ga 0 _ _ (0, 0) hblk
  have a1 := cell_of_row W ga 1 _ _ (0, 0) hblk
  simp only [List.getElem?_toArray, List.getElem?_cons_succ, List.getElem?_cons_zero] at a0 a1
  have AT := Lib.hid fun w' (h : Below W.heap.size W w') => And.intro ((h.cell (p := ⟨ga, 0, none⟩) hlt).trans a0) ((h.cell (p := ⟨ga, 1, none⟩) hlt).trans a1)
  have hbw : Below w.heap.size w W := by rw [hW]; exact (Below.refl _ _).alloc (Nat.le_refl _) _
  have HBW := Lib.hid hbw
  have HW := Lib.hid hW
  have HG := Lib.hid hga
  have HA := Lib.hid (awake15_any T W (Below.refl W.heap.size W))
  have HN := Lib.hid fun w2 (hb : Below W.heap.size W w2) => tre_new T W hb
  clear hblk a0 a1 hbw hW hga hlt
  go_enter Try.func6, Try.ntmps6
  go_wp2_with fail
  rw [← HW.out, ← HG.out]
  refine HA.out.mono ?_; rintro e w1 ⟨rfl, h1⟩
  have H1 := Lib.hid h1; clear h1 HA
  go_wp2_with fail
  refine (HN.out _ H1.out).mono ?_; rintro e w2 ⟨g, rfl, h2⟩
  have H2 := Lib.hid h2; clear h2 HN H1
  go_wp2_with fail
  obtain ⟨k, hkk⟩ : ∃ k : Nat, k = 2 + n % 60 := ⟨_, rfl⟩
  have hk : (2 + (n : Int) % 60) = (k : Int) := by omega
  have hk1 : 2 ≤ k := by omega
  have hk2 : k < 62 := by omega
  rw [hk]
  clear hk hkk
  have hfin : ∀ up0 ca0 w', Tre P W w' g up0 ca0 → Hid (Tre P W w' g up0 ca0) := fun _ _ _ h => Lib.hid h
  go_loopw [7] (fun v7 wr => ∃ i : Nat, v7 = .int .i64 (i : Int) ∧ 1 ≤ i ∧ i ≤ k ∧ Hid (Tre P W wr g (lineU i) (List.replicate i 0))) (fun v7 _ => k - (intOf v7).toNat)
  case atStart => exact ⟨1, rfl, by omega, by omega, H2⟩
  case round =>
    obtain ⟨i, rfl, hi1, hi2, HO⟩ := hrel
    clear H2
    by_cases hl : i < k
    · have HADD : Hid (Calls Try.prog 10 #[.pointer (some ⟨g, 0, none⟩), .int .i64 ((i : Int) - 1)] wr fun e w3 => e = .returned (.tuple #[.int .i64 (i : Int), .int .i64 0]) ∧ Tre P W w3 g (lineU (i + 1)) (List.replicate (i + 1) 0)) := Lib.hid (by
        have e1 : ((i : Int) - 1) = ((i - 1 : Nat) : Int) := by omega
        rw [e1]
        refine (tre_add T HO.out ((i - 1 : Nat) : Int)).mono fun e w3 hh => ?_
        obtain ⟨he, ht⟩ := hh
        obtain ⟨k1, k2, k3, k4⟩ := add_ok (up := lineU i) (ca := List.replicate i (0 : Int)) (q := i - 1) (by rw [lineU_length]; omega) (by rw [lineU_length]; omega)
        rw [k1, k2, lineU_length] at he
        rw [k3, k4, ← e1, ← lineU_succ, zeros_at, show List.replicate i (0 : Int) ++ [0] = List.replicate (i + 1) 0 from (List.replicate_succ' ..).symm] at ht
        exact ⟨he, ht⟩)
      go_wp2_with fail
      refine HADD.out.mono ?_; rintro e w3 ⟨rfl, h3⟩
      have H3 := hfin _ _ _ h3; clear h3
      go_wp2_with fail
      exact ⟨⟨i + 1, by go_num, by omega, by omega, H3⟩, by simp [intOf]; omega⟩
    · have : i = k := by omega
      subst this
      obtain ⟨c0, c1⟩ := AT.out _ HO.out.lens.2
      obtain ⟨a, ha⟩ : ∃ a, a = p % i := ⟨_, rfl⟩
      obtain ⟨b, hb⟩ : ∃ b, b = q % i := ⟨_, rfl⟩
      have ha1 : (p : Int) % (i : Int) = (a : Int) := by rw [ha]; omega
      have hb1 : (q : Int) % (i : Int) = (b : Int) := by rw [hb]; omega
      have ha2 : a < i := by rw [ha]; exact Nat.mod_lt _ (by omega)
      have hb2 : b < i := by rw [hb]; exact Nat.mod_lt _ (by omega)
      have HA1 := Lib.hid ha1
      have HB1 := Lib.hid hb1
      clear ha hb ha1 hb1
      have HT := Lib.hid fun q => tre_drewN T HO.out q
      clear HO
      go_wp2_with fail
      go_quiet (fail)
      go_wp2_with fail
      rw [HA1.out, HB1.out]
      refine (tre_line1 T ha2 (HT.out _)).mono ?_; rintro e w3 ⟨rfl, h3⟩
      have H3 := hfin _ _ _ h3; clear h3
      clear HT HA1 HB1 c0 c1
      go_wp2_with fail
      refine (tre_line2 T ha2 hb2 H3.out).mono ?_; rintro e w4 ⟨rfl, h4⟩
      have H4 := hfin _ _ _ h4; clear h4 H3
      go_wp2_with fail
      all_goals
        go_loopw [16] (fun v wr => ∃ j : Nat, v = .int .i64 (j : Int) ∧ j ≤ i ∧ Hid (Tre P W wr g (lineU i) (line2 i a b))) (fun v _ => i - (intOf v).toNat)
        case atStart => exact ⟨0, rfl, by omega, H4⟩
        case round =>
          obtain ⟨j, rfl, hj, HO⟩ := hrel
          clear H4
          by_cases hji : j < i
          · have HC := Lib.hid fun w' (h : Tre P W w' g (lineU i) (line2 i a b)) => tre_line3 T hji h
            have HD := Lib.hid fun w' (h : Tre P W w' g (lineU i) (line2 i a b)) => tre_line4 T hji h
            obtain ⟨m, hm⟩ : ∃ m, m = i - 1 - j := ⟨_, rfl⟩
            have hmi : (m : Int) = (i : Int) - 1 - (j : Int) := by omega
            rw [← hm] at HD
            clear hm
            by_cases h1 : a ≤ j
            · simp only [h1, if_true] at HC
              go_wp2_with fail
              refine (HC.out _ HO.out).mono ?_; rintro e w5 ⟨rfl, h5⟩
              have H5 := hfin _ _ _ h5; clear h5 HO
              go_wp2_with fail
              refine (HD.out _ H5.out).mono ?_; rintro e w6 ⟨A, c, rfl, h6⟩
              have H6 := hfin _ _ _ h6; clear h6 H5
              go_wp2_with fail
              exact ⟨⟨j + 1, by go_num, by omega, H6⟩, by simp [intOf]; omega⟩
            · by_cases h2 : b ≤ j
              · simp only [h1, h2, if_true, if_false] at HC
                go_wp2_with fail
                refine (HC.out _ HO.out).mono ?_; rintro e w5 ⟨rfl, h5⟩
                have H5 := hfin _ _ _ h5; clear h5 HO
                go_wp2_with fail
                refine (HD.out _ H5.out).mono ?_; rintro e w6 ⟨A, c, rfl, h6⟩
                have H6 := hfin _ _ _ h6; clear h6 H5
                go_wp2_with fail
                exact ⟨⟨j + 1, by go_num, by omega, H6⟩, by simp [intOf]; omega⟩
              · simp only [h1, h2, if_false] at HC
                go_wp2_with fail
                refine (HC.out _ HO.out).mono ?_; rintro e w5 ⟨rfl, h5⟩
                have H5 := hfin _ _ _ h5; clear h5 HO
                go_wp2_with fail
                refine (HD.out _ H5.out).mono ?_; rintro e w6 ⟨A, c, rfl, h6⟩
                have H6 := hfin _ _ _ h6; clear h6 H5
                go_wp2_with fail
                exact ⟨⟨j + 1, by go_num, by omega, H6⟩, by simp [intOf]; omega⟩
          · have HF : Hid (Below w.heap.size w wr) := Lib.hid (HBW.out.trans (HO.out.lens.2.mono HBW.out.size))
            clear HO
            go_wp2_with fail
            go_ret
            exact ⟨rfl, HF.out⟩
end
end Go.Proofs.Ytcgjpmokhpcnnaa
