/- The law's deep: how deep a text's parentheses stand. -/
import Derived.Test.YtegcebgoiocakaaDoorA02
import Derived.Test.YtegcebgoiocakaaDoorB01
namespace Go.Proofs.YtegcebgoiocakaaDoor
open Go Go.RowKit
set_option linter.unusedVariables false
set_option maxRecDepth 20000

theorem drop_at {l : List Int} {i : Nat} (h : i < l.length) : l.drop i = l.getD i 0 :: l.drop (i + 1) := by
  rw [List.drop_eq_getElem_cons h]
  simp [List.getD, h]
set_option maxHeartbeats 4000000 in
theorem deep_any (s : ByteArray) (hs : s.size ≤ 60) (W : World) : Calls Tryd.prog 6 #[.string s] W fun e w' => e = .returned (.int .i64 (deepL (nums s) 0 0)) ∧ Below W.heap.size W w' := by
  have hlen := nums_length s
  obtain ⟨N, hN⟩ : ∃ N, N = s.size := ⟨_, rfl⟩
  obtain ⟨L, hL⟩ : ∃ L, L = nums s := ⟨_, rfl⟩
  have hidx : ∀ k, k < N → ∀ w, (Instr.index 9 (.string s) (.int .i64 (k : Int))).run Tryd.prog w = .ok (.int .u8 (L.getD k 0)) w := fun k hk w => by rw [hL]; exact idx_at s k (by omega) w
  rw [← hL] at hlen ⊢
  rw [← hN] at hlen hs
  have HIX := Lib.hid hidx
  have hat : ∀ k, k < N → L.drop k = L.getD k 0 :: L.drop (k + 1) := fun k hk => drop_at (by omega)
  have hpast : ∀ k, N ≤ k → L.drop k = [] := fun k hk => List.drop_eq_nil_of_le (by omega)
  have HAT := Lib.hid hat
  have HPAST := Lib.hid hpast
  clear hidx hat hpast hlen hL
  go_enter Tryd.func6, Tryd.ntmps6
  go_wp2
  go_loopw [3, 4, 5] (fun vm vn vi wr => ∃ (m n : Int) (i : Nat), vm = .int .i64 m ∧ vn = .int .i64 n ∧ vi = .int .i64 (i : Int) ∧ i ≤ N + 2 ∧ -100 ≤ n + i ∧ n ≤ i ∧ 0 ≤ m ∧ m ≤ i ∧ Hid (-(i : Int) ≤ n) ∧ Hid (deepL (L.drop i) m n = deepL L 0 0) ∧ Hid (Below W.heap.size W wr)) (fun _ _ vi _ => N + 10 - (intOf vi).toNat)
  case atStart => exact ⟨0, 0, 0, rfl, rfl, rfl, by omega, by omega, by omega, by omega, by omega, Lib.hid (by omega), Lib.hid (by rw [List.drop_zero]), Lib.hid (Below.refl _ _)⟩
  case round =>
    obtain ⟨m, n, i, rfl, rfl, rfl, hi, hn0, hn1, hm0, hm1, HN0, HD, HB⟩ := hrel
    have hn2 := HN0.out
    by_cases hlt : i < N
    · have hix := HIX.out i hlt
      have hd := HD.out
      rw [HAT.out i hlt] at hd
      obtain ⟨c, hc⟩ : ∃ c, c = L.getD i 0 := ⟨_, rfl⟩
      rw [← hc] at hix hd
      have HC := Lib.hid hc
      clear hc
      by_cases h92 : c = 92
      · subst h92
        rw [deep_esc, List.drop_drop] at hd
        have HD2 := Lib.hid hd
        clear hd
        go_wp2
        refine ⟨⟨m, n, i + 2, rfl, rfl, by go_num, by omega, by omega, by omega, hm0, by omega, Lib.hid (by omega), Lib.hid ?_, HB⟩, by simp [intOf]; omega⟩
        rw [← HD2.out]
      by_cases h91 : c = 91
      · subst h91
        rw [deep_class] at hd
        have HD2 := Lib.hid hd
        clear hd
        go_wp2
        simp only [decide_eq_true (show i < s.size by omega)]
        go_loopw [5] (fun vj wr2 => ∃ (j : Nat), vj = .int .i64 (j : Int) ∧ i ≤ j ∧ j ≤ N + 1 ∧ Hid (skipB (L.drop j) = skipB (L.drop (i + 1))) ∧ Hid (wr2 = wr)) (fun vj _ => N + 10 - (intOf vj).toNat)
        case atStart => exact ⟨i, rfl, Nat.le_refl _, by omega, Lib.hid (by rw [HAT.out i hlt, ← HC.out, skipB_other (by decide) (by decide)]), Lib.hid rfl⟩
        case round =>
          obtain ⟨j, rfl, hij, hj, HS, HW⟩ := hrel
          by_cases hjl : j < N
          · have hjx := HIX.out j hjl
            have hsk := HS.out
            rw [HAT.out j hjl] at hsk
            obtain ⟨d, hd⟩ : ∃ d, d = L.getD j 0 := ⟨_, rfl⟩
            rw [← hd] at hjx hsk
            clear hd
            by_cases h93 : d = 93
            · subst h93
              rw [skipB_shut] at hsk
              have HSK := Lib.hid hsk
              clear hsk
              go_wp2
              refine ⟨⟨m, n, j + 1, rfl, rfl, by go_num, by omega, by omega, by omega, hm0, by omega, Lib.hid (by omega), Lib.hid ?_, Lib.hid (by rw [HW.out]; exact HB.out)⟩, by simp [intOf]; omega⟩
              have h := HD2.out
              rw [← HSK.out] at h
              exact h
            by_cases hd92 : d = 92
            · subst hd92
              rw [skipB_esc, List.drop_drop] at hsk
              have HSK := Lib.hid hsk
              clear hsk
              go_wp2
              exact ⟨⟨j + 2, by go_num, by omega, by omega, Lib.hid (by rw [← HSK.out]), HW⟩, by simp [intOf]; omega⟩
            · rw [skipB_other h93 hd92] at hsk
              have HSK := Lib.hid hsk
              clear hsk
              go_wp2
              exact ⟨⟨j + 1, by go_num, by omega, by omega, HSK, HW⟩, by simp [intOf]; omega⟩
          · have hsk := HS.out
            rw [HPAST.out j (by omega)] at hsk
            have HSK := Lib.hid hsk
            clear hsk
            go_wp2
            refine ⟨⟨m, n, j + 1, rfl, rfl, by go_num, by omega, by omega, by omega, hm0, by omega, Lib.hid (by omega), Lib.hid ?_, Lib.hid (by rw [HW.out]; exact HB.out)⟩, by simp [intOf]; omega⟩
            have h := HD2.out
            rw [← HSK.out] at h
            rw [HPAST.out (j + 1) (by omega)]
            exact h
      by_cases h40 : c = 40
      · subst h40
        rw [deep_open] at hd
        have HD2 := Lib.hid hd
        clear hd
        go_wp2
        refine ⟨⟨max m (n + 1), n + 1, i + 1, by go_num, by go_num, by go_num, by omega, by omega, by omega, by omega, by omega, Lib.hid (by omega), HD2, HB⟩, by simp [intOf]; omega⟩
      by_cases h41 : c = 41
      · subst h41
        rw [deep_shut] at hd
        have HD2 := Lib.hid hd
        clear hd
        go_wp2
        refine ⟨⟨m, n - 1, i + 1, rfl, by go_num, by go_num, by omega, by omega, by omega, hm0, by omega, Lib.hid (by omega), HD2, HB⟩, by simp [intOf]; omega⟩
      · rw [deep_other _ _ _ h92 h91 h40 h41] at hd
        have HD2 := Lib.hid hd
        clear hd
        go_wp2
        exact ⟨⟨m, n, i + 1, rfl, rfl, by go_num, by omega, by omega, by omega, hm0, by omega, Lib.hid (by omega), HD2, HB⟩, by simp [intOf]; omega⟩
    · have hd := HD.out
      rw [HPAST.out i (by omega), deep_nil] at hd
      have HD2 := Lib.hid hd
      clear hd
      go_wp2
      go_ret
      rw [HD2.out]
      exact ⟨rfl, HB.out⟩
end Go.Proofs.YtegcebgoiocakaaDoor
