/- PipeBack: an offer that is taken back leaves all others as they were. -/
import Derived.Test.YtmmfioemnoijoaaPipA
namespace Go.Proofs.Ytmmfioemnoijoaa
open Go Go.RowKit
set_option linter.unusedVariables false
set_option maxRecDepth 20000

/-- The items from i on, but for the one that is gone. -/
def lineB (gone m i : Nat) : List (Int × It) := rowN i (gone - i) ++ rowN (max i (gone + 1)) (m - max i (gone + 1))
theorem rowN_take : ∀ (n k a : Nat), k ≤ n → (rowN a n).take k = rowN a k
  | 0, k, a, h => by
    have : k = 0 := by omega
    subst this
    rfl
  | n + 1, 0, a, _ => rfl
  | n + 1, k + 1, a, h => by rw [rowN, List.take_succ_cons, rowN_take n k (a + 1) (by omega), rowN]
theorem lineB_start {gone m : Nat} (h : gone < m) : (rowN 0 m).eraseIdx gone = lineB gone m 0 := by
  rw [List.eraseIdx_eq_take_drop_succ, rowN_drop, rowN_take _ _ _ (by omega)]
  unfold lineB
  rw [Nat.sub_zero, Nat.zero_add, Nat.max_eq_right (by omega)]
theorem lineB_gone (gone m : Nat) : lineB gone m gone = lineB gone m (gone + 1) := by
  unfold lineB
  rw [Nat.sub_self, Nat.max_eq_right (by omega), Nat.max_eq_left (by omega), show gone - (gone + 1) = 0 by omega]
  rfl
theorem lineB_next {gone m i : Nat} (hm : gone < m) (h : i < m) (hne : i ≠ gone) : lineB gone m i = ((i : Int), numIt (i : Int)) :: lineB gone m (i + 1) := by
  unfold lineB
  rcases Nat.lt_or_ge i gone with h1 | h1
  · rw [Nat.max_eq_right (by omega), Nat.max_eq_right (by omega), show gone - i = (gone - (i + 1)) + 1 by omega, rowN]
    rfl
  · rw [Nat.max_eq_left (by omega), Nat.max_eq_left (by omega), show gone - i = 0 by omega, show gone - (i + 1) = 0 by omega, show m - i = (m - (i + 1)) + 1 by omega]
    rfl
theorem lineB_end {gone m : Nat} (h : gone < m) : lineB gone m m = [] := by
  unfold lineB
  rw [Nat.max_eq_left (by omega), show gone - m = 0 by omega, Nat.sub_self]
  rfl
theorem rowN_who : ∀ (n a : Nat) (o : Int × It), o ∈ rowN a n → (a : Int) ≤ o.1 ∧ o.1 < ((a + n : Nat) : Int)
  | 0, a, o, h => by cases h
  | n + 1, a, o, h => by
    rw [rowN] at h
    rcases List.mem_cons.1 h with rfl | h
    · exact ⟨Int.le_refl _, by show (a : Int) < _; omega⟩
    · have := rowN_who n (a + 1) o h; omega
theorem off_none {room : Nat} {L : List (Int × It)} {who : Int} (h : ∀ o ∈ L, o.1 ≠ who) : ¬ 0 ≤ offI room L who := by
  unfold offI
  rcases atI_cases who (L.drop room) 0 with ⟨h1, _⟩ | ⟨j, h1, h2, ⟨o, ho, hw⟩, _⟩
  · rw [show ((0 : Nat) : Int) = 0 from rfl] at h1; omega
  · exact absurd hw (h o (List.mem_of_mem_drop (List.mem_of_getElem? ho)))
theorem lineB_off {room gone m : Nat} : ¬ 0 ≤ offI room (lineB gone m 0) (gone : Int) := by
  refine off_none fun o ho => ?_
  unfold lineB at ho
  rcases List.mem_append.1 ho with h | h
  · have := rowN_who _ _ _ h; omega
  · have := rowN_who _ _ _ h
    rw [Nat.max_eq_right (by omega)] at this
    omega
theorem lineB_len (gone m i : Nat) : (lineB gone m i).length ≤ gone + m := by
  unfold lineB
  rw [List.length_append, rowN_length, rowN_length]
  omega
theorem off_row {k m gone : Nat} (h1 : gone < m) (h2 : k ≤ gone) : offI k (rowN 0 m) (gone : Int) = ((gone - k : Nat) : Int) := by
  unfold offI
  rw [rowN_drop, rowN_at, if_pos (by omega)]
  omega
section
variable {w0 w w' : World} {cs : List (Nat × Obj)} {g room a n : Nat} {sent : Int} {closed : Bool} {L : List (Int × It)}
theorem pTakeHead (h : Pip w0 w cs g room (((a : Int), numIt (a : Int)) :: L) sent closed) (hl : L.length ≤ 8000) :
    Calls Try.prog 11 #[.pointer (some ⟨g, 0, none⟩)] w fun e w' => e = .returned (.tuple #[.agg #[.int .i64 (a : Int), .int .i64 0, .int .i64 0, .int .i64 0, .string ⟨#[]⟩, .slice none 0 0, .int .i64 0], .int .i64 0]) ∧ Pip w0 w' cs g room L sent closed :=
  pTake h (by simp; omega)
theorem pBackNo (h : Pip w0 w cs g room L sent closed) (who : Int) (hw : ¬ 0 ≤ offI room L who) (hl : L.length ≤ 8000) (hs0 : 0 ≤ sent) (hs1 : sent ≤ 100000) :
    Calls Try.prog 14 #[.pointer (some ⟨g, 0, none⟩), .int .i64 who] w fun e w' => e = .returned (.bool false) ∧ Pip w0 w' cs g room L sent closed := by
  have := pWithdraw h who (by omega) hs0 hs1
  rw [decide_eq_false hw, show backL room L who = L by rw [backL, if_neg hw], show backN room L who sent = sent by rw [backN, if_neg hw]] at this
  exact this
theorem pBackYes {m gone : Nat} (h : Pip w0 w cs g room (rowN 0 m) sent closed) (h1 : gone < m) (h2 : room ≤ gone) (hl : m ≤ 8000) (hs0 : 0 ≤ sent) (hs1 : sent ≤ 100000) :
    Calls Try.prog 14 #[.pointer (some ⟨g, 0, none⟩), .int .i64 (gone : Int)] w fun e w' => e = .returned (.bool true) ∧ Pip w0 w' cs g room (lineB gone m 0) (sent - 1) closed := by
  have e0 := off_row h1 h2
  have := pWithdraw h (gone : Int) (by rw [rowN_length]; omega) hs0 hs1
  rw [decide_eq_true (show 0 ≤ offI room (rowN 0 m) (gone : Int) by rw [e0]; omega), show backL room (rowN 0 m) (gone : Int) = lineB gone m 0 by
    rw [backL, if_pos (by rw [e0]; omega), e0, Int.toNat_natCast, show room + (gone - room) = gone by omega, lineB_start h1], show backN room (rowN 0 m) (gone : Int) sent = sent - 1 by rw [backN, if_pos (by rw [e0]; omega)]] at this
  exact this
theorem pTakeEmpty (h : Pip w0 w cs g room [] sent false) :
    Calls Try.prog 11 #[.pointer (some ⟨g, 0, none⟩)] w fun e w' => e = .returned (.tuple #[.agg #[.int .i64 0, .int .i64 0, .int .i64 0, .int .i64 0, .string ⟨#[]⟩, .slice none 0 0, .int .i64 0], .int .i64 19]) ∧ Pip w0 w' cs g room [] sent false := pTake h (by simp)
theorem pSendAny (h : Pip w0 w cs g room (rowN a n) sent false) (s : Nat) (hs : s = a + n) (hn : n ≤ 9000) (hr : room ≤ 64) (hs0 : 0 ≤ sent) (hs1 : sent ≤ 100000) :
    Calls Try.prog 9 #[.pointer (some ⟨g, 0, none⟩), .int .i64 (s : Int), .agg #[.int .i64 (s : Int), .int .i64 0, .int .i64 0, .int .i64 0, .string ⟨#[]⟩, .slice none 0 0, .int .i64 0]] w fun e w' => ∃ v, e = .returned v ∧ Pip w0 w' cs g room (rowN a (n + 1)) (sent + 1) false :=
  (pSendRow h s hs hn hr hs0 hs1).mono fun e w' h => ⟨_, h⟩
end

set_option maxHeartbeats 8000000 in
theorem back14_any (x y z : Int) (W : World) (hx0 : 0 ≤ x) (hx1 : x < 256) (hy0 : 0 ≤ y) (hy1 : y < 256) (hz0 : 0 ≤ z) (hz1 : z < 256) :
    Calls Try.prog 6 #[.int .u8 x, .int .u8 y, .int .u8 z] W fun e w' => e = .returned (.bool true) ∧ Below W.heap.size W w' := by
  obtain ⟨k, hk⟩ : ∃ k : Nat, x.tmod 10 = (k : Int) := Int.eq_ofNat_of_zero_le (by rw [Int.tmod_eq_emod_of_nonneg hx0]; omega)
  have hk1 : k ≤ 64 := by rw [Int.tmod_eq_emod_of_nonneg hx0] at hk; omega
  obtain ⟨p, hp⟩ : ∃ p : Nat, y.tmod 20 = (p : Int) := Int.eq_ofNat_of_zero_le (by rw [Int.tmod_eq_emod_of_nonneg hy0]; omega)
  have hp1 : p ≤ 19 := by rw [Int.tmod_eq_emod_of_nonneg hy0] at hp; omega
  obtain ⟨m, hm⟩ : ∃ m : Nat, 1 + (p : Int) = (m : Int) := ⟨1 + p, by omega⟩
  have hm1 : 1 ≤ m ∧ m ≤ 20 := by omega
  obtain ⟨gone, hg⟩ : ∃ gone : Nat, z.tmod (m : Int) = (gone : Int) := Int.eq_ofNat_of_zero_le (Int.tmod_nonneg _ hz0)
  have hg1 : gone < m := by
    have := Int.tmod_lt_of_pos z (show (0 : Int) < (m : Int) by omega)
    omega
  have HA := Lib.hid fun w => awake14_any w
  have HN := Lib.hid fun w (hb : Below W.heap.size W w) => pNew W w k hk1 hb
  have hm0 : ((m : Int) == 0) = false := by simp; omega
  have hm0' : ¬ (m : Int) = 0 := by omega
  have HM1 := Lib.hid hm1
  have HG1 := Lib.hid hg1
  go_enter Try.func6, Try.ntmps6
  go_wp2_with fail
  (with_reducible refine (HA.out _).mono ?_); rintro e w1 ⟨rfl, hb1⟩
  have H1 := Lib.hid hb1; clear hb1
  go_wp2_with fail
  refine (HN.out _ H1.out).mono ?_; rintro e w2 ⟨g, rfl, hp⟩
  have HP := Lib.hid hp; clear hp
  go_wp2_with fail
  go_loopw [11] (fun vi wr => ∃ (i : Nat), vi = .int .i64 (i : Int) ∧ i ≤ m ∧ Hid (Pip W wr [] g k (rowN 0 i) (i : Int) false)) (fun vi _ => m - (intOf vi).toNat)
  case atStart => exact ⟨0, rfl, Nat.zero_le _, HP⟩
  case round =>
    obtain ⟨i, rfl, hi, HR⟩ := hrel
    by_cases hlt : i < m
    · have HS := Lib.hid (pSendAny HR.out i (by omega) (by omega) hk1 (by omega) (by omega))
      go_wp2_with (go_at_call 9; (with_reducible refine HS.out.mono ?_); rintro e w3 ⟨v3, rfl, hp3⟩; have H3 := Lib.hid hp3; clear hp3)
      exact ⟨⟨i + 1, by go_num, by omega, Lib.hid H3.out⟩, by simp [intOf]; omega⟩
    · have him : i = m := by omega
      subst him
      clear hlt hi
      by_cases hkg : k ≤ gone
      · have HB1 := Lib.hid (pBackYes HR.out HG1.out hkg (by omega) (by omega) (by omega))
        have HB2 := Lib.hid (fun w3 (h : Pip W w3 [] g k (lineB gone i 0) ((i : Int) - 1) false) => pBackNo h (gone : Int) lineB_off (by have := lineB_len gone i 0; omega) (by omega) (by omega))
        have q2 : decide (k ≤ gone) = true := by simpa using hkg
        clear hkg
        go_wp2_with (first
          | (go_at_call 14; (with_reducible refine HB1.out.mono ?_); rintro e w3 ⟨rfl, hp3⟩; have H3 := Lib.hid hp3; clear hp3)
          | (go_at_call 14; (with_reducible refine (HB2.out _ H3.out).mono ?_); rintro e w4 ⟨rfl, hp4⟩; have H4 := Lib.hid hp4; clear hp4))
        go_loopw [13] (fun vj wr => ∃ (j : Nat), vj = .int .i64 (j : Int) ∧ j ≤ i ∧ Hid (Pip W wr [] g k (lineB gone i j) ((i : Int) - 1) false)) (fun vj _ => i - (intOf vj).toNat)
        case atStart => exact ⟨0, rfl, Nat.zero_le _, H4⟩
        case round =>
          obtain ⟨j, rfl, hj, HJ⟩ := hrel
          by_cases hjl : j < i
          · by_cases hjg : j = gone
            · subst hjg
              go_wp2
              refine ⟨⟨j + 1, by go_num, by omega, Lib.hid ?_⟩, by simp [intOf]; omega⟩
              have := HJ.out
              rw [lineB_gone] at this
              exact this
            · have hJ := HJ.out
              rw [lineB_next HG1.out hjl hjg] at hJ
              have HT := Lib.hid (pTakeHead hJ (by have := lineB_len gone i (j + 1); omega))
              have hne : ((j : Int) == (gone : Int)) = false := by simp; omega
              clear hJ hjg
              go_wp2_with (go_at_call 11; (with_reducible refine HT.out.mono ?_); rintro e w4 ⟨rfl, hp4⟩; have H5 := Lib.hid (hp4.alloc #[.int .i64 (j : Int), .int .i64 0, .int .i64 0, .int .i64 0, .string ⟨#[]⟩, .slice none 0 0, .int .i64 0] 36); clear hp4)
              exact ⟨⟨j + 1, by go_num, by omega, Lib.hid (H5.out.free (by simp))⟩, by simp [intOf]; omega⟩
          · have hji : j = i := by omega
            subst hji
            have hJ := HJ.out
            rw [lineB_end HG1.out] at hJ
            have HT := Lib.hid (pTakeEmpty hJ)
            clear hJ
            go_wp2_with (go_at_call 11; (with_reducible refine HT.out.mono ?_); rintro e w4 ⟨rfl, hp4⟩; have H5 := Lib.hid (hp4.alloc #[.int .i64 0, .int .i64 0, .int .i64 0, .int .i64 0, .string ⟨#[]⟩, .slice none 0 0, .int .i64 0] 36); clear hp4)
            go_ret
            exact ⟨rfl, H5.out.to⟩
      · have HB1 := Lib.hid (fun w3 (h : Pip W w3 [] g k (rowN 0 i) (i : Int) false) => pBackNo h (gone : Int) (by rw [rowN_off]; have := HG1.out; omega) (by rw [rowN_length]; omega) (by omega) (by omega))
        have q2 : decide (k ≤ gone) = false := by simpa using hkg
        have hkg' : gone < k := by omega
        clear hkg
        go_wp2_with (first
          | (go_at_call 14; (with_reducible refine (HB1.out _ HR.out).mono ?_); rintro e w3 ⟨rfl, hp3⟩; have H3 := Lib.hid hp3; clear hp3)
          | (go_at_call 14; (with_reducible refine (HB1.out _ H3.out).mono ?_); rintro e w4 ⟨rfl, hp4⟩; have H4 := Lib.hid hp4; clear hp4))
        go_loopw [13] (fun vj wr => ∃ (j : Nat), vj = .int .i64 (j : Int) ∧ j ≤ i ∧ Hid (Pip W wr [] g k (rowN j (i - j)) (i : Int) false)) (fun vj _ => i - (intOf vj).toNat)
        case atStart => exact ⟨0, rfl, Nat.zero_le _, H4⟩
        case round =>
          obtain ⟨j, rfl, hj, HJ⟩ := hrel
          by_cases hjl : j < i
          · obtain ⟨d, hd⟩ : ∃ d : Nat, i - j = d + 1 := ⟨i - j - 1, by omega⟩
            have hJ := HJ.out
            rw [hd] at hJ
            have HT := Lib.hid (pTakeRow hJ (by omega))
            have HDD := Lib.hid (show i - (j + 1) = d by omega)
            clear hJ hd
            by_cases hjg : j = gone
            · subst hjg
              go_wp2_with (go_at_call 11; (with_reducible refine HT.out.mono ?_); rintro e w4 ⟨rfl, hp4⟩; have H5 := Lib.hid (hp4.alloc #[.int .i64 (j : Int), .int .i64 0, .int .i64 0, .int .i64 0, .string ⟨#[]⟩, .slice none 0 0, .int .i64 0] 36); clear hp4)
              refine ⟨⟨j + 1, by go_num, by omega, Lib.hid ?_⟩, by simp [intOf]; omega⟩
              rw [HDD.out]
              exact H5.out.free (by simp)
            · have hne : ((j : Int) == (gone : Int)) = false := by simp; omega
              clear hjg
              go_wp2_with (go_at_call 11; (with_reducible refine HT.out.mono ?_); rintro e w4 ⟨rfl, hp4⟩; have H5 := Lib.hid (hp4.alloc #[.int .i64 (j : Int), .int .i64 0, .int .i64 0, .int .i64 0, .string ⟨#[]⟩, .slice none 0 0, .int .i64 0] 36); clear hp4)
              refine ⟨⟨j + 1, by go_num, by omega, Lib.hid ?_⟩, by simp [intOf]; omega⟩
              rw [HDD.out]
              exact H5.out.free (by simp)
          · have hji : j = i := by omega
            subst hji
            have hJ := HJ.out
            rw [Nat.sub_self] at hJ
            have HT := Lib.hid (pTakeEmpty hJ)
            clear hJ
            go_wp2_with (go_at_call 11; (with_reducible refine HT.out.mono ?_); rintro e w4 ⟨rfl, hp4⟩; have H5 := Lib.hid (hp4.alloc #[.int .i64 0, .int .i64 0, .int .i64 0, .int .i64 0, .string ⟨#[]⟩, .slice none 0 0, .int .i64 0] 36); clear hp4)
            go_ret
            exact ⟨rfl, H5.out.to⟩
end Go.Proofs.Ytmmfioemnoijoaa
