/- Records, with what is between them, are the text: the law. -/
import Derived.Test.YtnfekbmmnenbfaaJoinF
namespace Go.Proofs.Ytnfekbmmnenbfaa
open Go Go.RowKit
set_option linter.unusedVariables false

set_option maxHeartbeats 4000000 in
set_option maxRecDepth 10000 in
theorem splitJoins_any (S : ByteArray) (w : World) :
    Calls Try.prog 5 #[.string S] w fun e w' => e = .returned (.bool true) ∧ Below w.heap.size w w' := by
  have HAW := Lib.hid (fun w => awake_any w)
  rcases Nat.lt_or_ge 1000 S.size with hbig | hsm
  · have hd : decide ((1000 : Int) < (S.size : Int)) = true := by simp; omega
    go_enter Try.func5, Try.ntmps5
    go_wp2_with (go_at_call 7; refine (HAW.out _).mono ?_; rintro e w1 ⟨rfl, hb⟩; have HB : Hid (Below w.heap.size w w1) := Lib.hid (by first | exact hb | exact then_ HB.out hb); clear hb)
    go_ret
    exact ⟨rfl, HB.out⟩
  · have hd : decide ((1000 : Int) < (S.size : Int)) = false := by simp; omega
    have hB := fun w => all_any 4096 S w (by omega) (by omega) (by omega)
    obtain ⟨herr, hsteps⟩ := joins_all 4096 (nums S) (by rw [nums_length]; omega)
    have hl2 := allR_len 4096 (nums S) true
    rw [nums_length] at hl2 hsteps
    rw [herr] at hB
    rw [show ((4096 : Nat) : Int) = 4096 from rfl] at hB
    obtain ⟨rs, hrs⟩ : ∃ rs, rs = (allR 4096 (nums S) true).1 := ⟨_, rfl⟩
    rw [← hrs] at hB hsteps hl2
    obtain ⟨n, hn⟩ : ∃ n, n = rs.length := ⟨_, rfl⟩
    rw [← hn] at hB hsteps hl2
    have hn6 : n ≤ 2000 := by omega
    have HB := Lib.hid hB
    have HN := Lib.hid hn
    have HST := Lib.hid hsteps
    clear hrs herr hB hn hsteps hl2
    go_enter Try.func5, Try.ntmps5
    go_wp2_with (first
      | (go_at_call 7; refine (HAW.out _).mono ?_; rintro e w1 ⟨rfl, hb1⟩)
      | (go_at_call 8; (with_reducible refine (HB.out _).mono ?_); rintro e w3 ⟨D, d, rfl, ho3, hb3⟩; have HO3 := Lib.hid ho3; clear ho3))
    have HBB := Lib.hid (then_ hb1 hb3)
    clear hb1 hb3 HB
    obtain ⟨D', d', e1, hrow⟩ := rowR_of_own HO3.out HN.out.symm
    injection e1 with e3 _ e5
    subst e3
    subst e5
    have HROW := Lib.hid hrow
    clear hrow
    go_loopw [5, 6] (fun va vi wr => ∃ (i p q : Nat), va = .int .i64 (p : Int) ∧ vi = .int .i64 (i : Int) ∧ i ≤ n ∧ p ≤ S.size ∧ Hid (Steps (nums S) i p (rs.drop i) n S.size) ∧ wr = w3.drewN q) (fun _ vi _ => n - (intOf vi).toNat)
    case atStart => exact ⟨0, 0, 0, rfl, rfl, Nat.zero_le _, Nat.zero_le _, HST, rfl⟩
    case round =>
      obtain ⟨i, p, q, rfl, rfl, hi, hp, HS, rfl⟩ := hrel
      by_cases hin : i < n
      · obtain ⟨b, o, rfl, _, hc⟩ := HROW.out.2 (by omega)
        obtain ⟨c0, c1, c2⟩ := hc i hin
        have hst := HS.out
        rw [List.drop_eq_getElem_cons (by have := HN.out; omega)] at hst
        obtain ⟨p1, h1, hrest⟩ := hst
        have hgd : rs.getD i recNone = rs[i]'(by have := HN.out; omega) := by simp [List.getD, List.getElem?_eq_getElem (show i < rs.length by have := HN.out; omega)]
        rw [← hgd] at h1
        obtain ⟨r, hr⟩ : ∃ r, r = rs.getD i recNone := ⟨_, rfl⟩
        rw [← hr] at c0 c1 c2 h1
        clear hc hgd hr
        obtain ⟨e1, e2, e3, e4, e5, e6⟩ := h1
        rw [e1] at c0
        rw [e2] at c1
        have hsz := strOfNums_size r.text
        obtain ⟨T, hT⟩ : ∃ T, T = strOfNums r.text := ⟨_, rfl⟩
        rw [← hT] at c2 hsz
        rw [← hsz] at e3 e4 e6
        rw [nums_length] at e4 e6
        have hx : S.extract p (p + T.size) = T := by
          rw [extract_nums, show p + T.size - p = T.size by omega, ← e3, hT]
        have hno : ∀ j, j < T.size → (nums T).getD j 0 ≠ 10 := by
          intro j hj
          have hl : j < (nums T).length := by rw [nums_length]; exact hj
          have hby : ∀ c ∈ r.text, 0 ≤ c ∧ c < 256 := fun c hc => nums_byte S c (by rw [e3] at hc; exact List.mem_of_mem_drop (List.mem_of_mem_take hc))
          have hnt : nums T = r.text := by rw [hT, nums_strOfNums _ hby]
          rw [List.getD, List.getElem?_eq_getElem hl, Option.getD_some]
          exact e5 _ (by rw [← hnt]; exact List.getElem_mem hl)
        have HNO := Lib.hid hno
        have HRE := Lib.hid hrest
        have b1 : (0 : Int) ≤ (p : Int) := by omega
        have b2 : (p : Int) ≤ (p : Int) + (T.size : Int) := by omega
        have b3 : (p : Int) + (T.size : Int) ≤ (S.size : Int) := by omega
        have b4 : ¬ S.size < p + T.size := by omega
        have b5 : decide ((S.size : Int) < (p : Int) + (T.size : Int)) = false := by simp; omega
        have w1 : IntKind.i64.wrap ((p : Int) + (T.size : Int)) = (p : Int) + (T.size : Int) := by rw [IntKind.wrap_i64]; omega
        clear e1 e2 e3 e4 e5 hsz hT hno hrest HST
        rcases e6 with ⟨f1, f2, f3, rfl⟩ | ⟨f1, f2, rfl⟩ | ⟨f1, rfl⟩
        · have i1 := idx_at S (p + T.size) (by omega)
          have i2 := idx_at S (p + T.size + 1) f1
          rw [f2, show ((p + T.size : Nat) : Int) = (p : Int) + (T.size : Int) by omega] at i1
          rw [f3, show ((p + T.size + 1 : Nat) : Int) = (p : Int) + (T.size : Int) + 1 by omega] at i2
          go_wp2_with fail
          go_quiet (fail)
          clear c0 c1 hx b1 b2 b3 b4 b5
          go_wp2_with fail
          go_loopw [7] (fun vk wk => ∃ j : Nat, vk = .int .i64 (j : Int) ∧ j ≤ T.size ∧ wk = w3.drewN (q + nq)) (fun vk _ => T.size - (intOf vk).toNat)
          case atStart => exact ⟨0, rfl, Nat.zero_le _, rfl⟩
          case round =>
            obtain ⟨j, rfl, hj, rfl⟩ := hrel
            by_cases hjt : j < T.size
            · have i3 := idx_at T j hjt
              have hn10 := HNO.out j hjt
              generalize (nums T).getD j 0 = ch at i3 hn10
              have h10 : (ch == 10) = false := by simpa using hn10
              go_wp2_with fail
              exact ⟨⟨j + 1, by go_num, by omega, trivial⟩, by simp [intOf]; omega⟩
            · have hjt2 : j = T.size := by omega
              subst hjt2
              go_wp2_with fail
              exact ⟨⟨i + 1, p + T.size + 2, q + nq, by go_num, by go_num, by omega, by omega, HRE, rfl⟩, by simp [intOf]; omega⟩
        · have i1 := idx_at S (p + T.size) (by omega)
          rw [f2, show ((p + T.size : Nat) : Int) = (p : Int) + (T.size : Int) by omega] at i1
          go_wp2_with fail
          go_quiet (fail)
          rcases Nat.lt_or_ge (p + T.size + 1) S.size with f3 | f3
          · clear c0 c1 hx b1 b2 b3 b4 b5
            go_wp2_with fail
            go_loopw [7] (fun vk wk => ∃ j : Nat, vk = .int .i64 (j : Int) ∧ j ≤ T.size ∧ wk = w3.drewN (q + nq)) (fun vk _ => T.size - (intOf vk).toNat)
            case atStart => exact ⟨0, rfl, Nat.zero_le _, rfl⟩
            case round =>
              obtain ⟨j, rfl, hj, rfl⟩ := hrel
              by_cases hjt : j < T.size
              · have i3 := idx_at T j hjt
                have hn10 := HNO.out j hjt
                generalize (nums T).getD j 0 = ch at i3 hn10
                have h10 : (ch == 10) = false := by simpa using hn10
                go_wp2_with fail
                exact ⟨⟨j + 1, by go_num, by omega, trivial⟩, by simp [intOf]; omega⟩
              · have hjt2 : j = T.size := by omega
                subst hjt2
                go_wp2_with fail
                exact ⟨⟨i + 1, p + T.size + 1, q + nq, by go_num, by go_num, by omega, by omega, HRE, rfl⟩, by simp [intOf]; omega⟩
          · clear c0 c1 hx b1 b2 b3 b4 b5
            go_wp2_with fail
            go_loopw [7] (fun vk wk => ∃ j : Nat, vk = .int .i64 (j : Int) ∧ j ≤ T.size ∧ wk = w3.drewN (q + nq)) (fun vk _ => T.size - (intOf vk).toNat)
            case atStart => exact ⟨0, rfl, Nat.zero_le _, rfl⟩
            case round =>
              obtain ⟨j, rfl, hj, rfl⟩ := hrel
              by_cases hjt : j < T.size
              · have i3 := idx_at T j hjt
                have hn10 := HNO.out j hjt
                generalize (nums T).getD j 0 = ch at i3 hn10
                have h10 : (ch == 10) = false := by simpa using hn10
                go_wp2_with fail
                exact ⟨⟨j + 1, by go_num, by omega, trivial⟩, by simp [intOf]; omega⟩
              · have hjt2 : j = T.size := by omega
                subst hjt2
                go_wp2_with fail
                exact ⟨⟨i + 1, p + T.size + 1, q + nq, by go_num, by go_num, by omega, by omega, HRE, rfl⟩, by simp [intOf]; omega⟩
        · have F1 := Lib.hid f1
          have g1 : (S.size : Int) ≤ (p : Int) + (T.size : Int) + 1 := by omega
          have g2 : (S.size : Int) ≤ (p : Int) + (T.size : Int) := by omega
          have g3 : p + T.size ≤ 1000 := by omega
          clear f1
          go_wp2_with fail
          go_quiet (fail)
          clear c0 c1 hx b1 b2 b3 b4 b5
          go_wp2_with fail
          go_loopw [7] (fun vk wk => ∃ j : Nat, vk = .int .i64 (j : Int) ∧ j ≤ T.size ∧ wk = w3.drewN (q + nq)) (fun vk _ => T.size - (intOf vk).toNat)
          case atStart => exact ⟨0, rfl, Nat.zero_le _, rfl⟩
          case round =>
            obtain ⟨j, rfl, hj, rfl⟩ := hrel
            by_cases hjt : j < T.size
            · have i3 := idx_at T j hjt
              have hn10 := HNO.out j hjt
              generalize (nums T).getD j 0 = ch at i3 hn10
              have h10 : (ch == 10) = false := by simpa using hn10
              go_wp2_with fail
              exact ⟨⟨j + 1, by go_num, by omega, trivial⟩, by simp [intOf]; omega⟩
            · have hjt2 : j = T.size := by omega
              subst hjt2
              go_wp2_with fail
              exact ⟨⟨i + 1, S.size, q + nq, by rw [← F1.out]; go_num, by go_num, by omega, Nat.le_refl _, HRE, rfl⟩, by simp [intOf]; omega⟩
      · have hin2 : i = n := by omega
        subst hin2
        have hst := HS.out
        rw [List.drop_of_length_le (by have := HN.out; omega)] at hst
        obtain ⟨_, hpS⟩ := hst
        subst hpS
        go_wp2_with fail
        go_ret
        exact ⟨rfl, below_drewN HBB.out q⟩
end Go.Proofs.Ytnfekbmmnenbfaa
