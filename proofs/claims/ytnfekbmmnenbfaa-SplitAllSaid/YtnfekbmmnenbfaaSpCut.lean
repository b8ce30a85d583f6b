/- strings.Cut at a line feed; strings.TrimSuffix and bytes.TrimSuffix of a return. -/
import Derived.Test.YtnfekbmmnenbfaaRecL
import Derived.Shelf.Strings.Search1
import Derived.Lib.Walk
import Derived.Lib.SliceRun
import Derived.Lib.SlBytesConst
import Derived.BigQuiet
namespace Go.Proofs.Ytnfekbmmnenbfaa
open Go Go.RowKit
set_option linter.unusedVariables false

/-- Where the first line feed stands. -/
theorem indexByte_cases (c : UInt8) : ∀ l : List UInt8, (Lib.indexByte l c = -1 ∧ ∀ b ∈ l, b ≠ c) ∨ ∃ i : Nat, Lib.indexByte l c = i ∧ i < l.length ∧ l.getD i 0 = c ∧ ∀ b ∈ l.take i, b ≠ c
  | [] => .inl ⟨rfl, by simp⟩
  | b :: l => by
    unfold Lib.indexByte
    by_cases hb : b = c
    · rw [if_pos (by simpa using hb)]
      exact .inr ⟨0, rfl, by simp, by simpa using hb, by simp⟩
    · rw [if_neg (by simpa using hb)]
      rcases indexByte_cases c l with ⟨h1, h2⟩ | ⟨i, h1, h2, h3, h4⟩
      · rw [if_pos (by simpa using h1)]
        refine .inl ⟨rfl, fun x hx => ?_⟩
        rcases List.mem_cons.1 hx with rfl | hx
        · exact hb
        · exact h2 x hx
      · rw [if_neg (by rw [h1]; simp), h1]
        refine .inr ⟨i + 1, by omega, by simpa using h2, by simpa using h3, fun x hx => ?_⟩
        rw [List.take_succ_cons] at hx
        rcases List.mem_cons.1 hx with rfl | hx
        · exact hb
        · exact h4 x hx

/-- The text has no line feed; or the first one stands at i. -/
theorem line_cases (S : ByteArray) : (Lib.indexByte S.data.toList 10 = -1 ∧ ∀ c ∈ nums S, c ≠ 10) ∨
    ∃ i : Nat, Lib.indexByte S.data.toList 10 = i ∧ i < S.size ∧ nums S = nums (S.extract 0 i) ++ 10 :: nums (S.extract (i + 1) S.size) ∧ ∀ c ∈ nums (S.extract 0 i), c ≠ 10 := by
  rcases indexByte_cases 10 S.data.toList with ⟨h1, h2⟩ | ⟨i, h1, h2, h3, h4⟩
  · refine .inl ⟨h1, fun c hc => ?_⟩
    obtain ⟨b, hb, rfl⟩ := List.mem_map.1 hc
    have := h2 b hb
    intro e
    exact this (UInt8.toNat_inj.1 (by simpa using Int.ofNat_inj.1 e))
  · have hlt : i < S.size := by rw [Array.length_toList] at h2; exact h2
    have hto : (S.extract 0 i).data.toList = S.data.toList.take i := by
      rw [ByteArray.data_extract, Array.toList_extract]
      show (S.data.toList.drop 0).take (i - 0) = _
      simp
    have hex : nums (S.extract 0 i) = (nums S).take i := by
      unfold nums
      rw [hto, List.map_take]
    refine .inr ⟨i, h1, hlt, ?_, fun c hc => ?_⟩
    · have hl : i < (nums S).length := by rw [nums_length]; exact hlt
      have hg : (nums S)[i] = 10 := by
        rw [nums_get S i hlt hl]
        have e : S.data.toList.getD i 0 = S[i] := by
          rw [List.getD, List.getElem?_eq_getElem h2]; rfl
        rw [← e, h3]
        rfl
      rw [hex, nums_extract_to, ← hg, ← List.drop_eq_getElem_cons hl, List.take_append_drop]
    · unfold nums at hc
      rw [hto] at hc
      obtain ⟨b, hb, rfl⟩ := List.mem_map.1 hc
      have := h4 b hb
      intro e
      exact this (UInt8.toNat_inj.1 (by simpa using Int.ofNat_inj.1 e))

theorem one_line : Lib.indexByte (ByteArray.mk #[10]).data.toList 10 = 0 := rfl

/-- This program's numbers for what the library's contract of IndexByte speaks of. -/
def numbersIB : Go.Shelf.Ren := ⟨fun | 217 => 25 | 266 => 31 | n => n, fun | 3 => 3 | 5 => 5 | 9 => 9 | n => n, fun n => n⟩
theorem laysIB : Go.Proofs.Lays.n217 Try.prog numbersIB where
  mixed := by kernel_rfl
  f217 := Try.func25.trans (congrArg some (by kernel_rfl))
  f266 := Try.func31.trans (congrArg some (by kernel_rfl))
  t3 := Try.underlying3
  a3 := Try.isAgg3
  z3 := Try.sizeOf3
  v3 := Try.zeroValue3
  t5 := Try.underlying5
  a5 := Try.isAgg5
  z5 := Try.sizeOf5
  v5 := Try.zeroValue5
  t9 := Try.underlying9
  a9 := Try.isAgg9
  z9 := Try.sizeOf9
  v9 := Try.zeroValue9
theorem indexByte_any (S : ByteArray) (w : World) :
    Calls Try.prog 25 #[.string S, .int .u8 10] w fun e w' => e = .returned (.int .i64 (Lib.indexByte S.data.toList 10)) ∧ w = w' :=
  (Go.Proofs.Any.stringslite_IndexByte laysIB S 10 w).mono fun e w' ⟨h1, h2⟩ => ⟨h1, h2.symm⟩

set_option maxHeartbeats 1000000 in
set_option maxRecDepth 100000 in
theorem index_any (S : ByteArray) (w : World) :
    Calls Try.prog 22 #[.string S, .string ⟨#[10]⟩] w fun e w' => e = .returned (.int .i64 (Lib.indexByte S.data.toList 10)) ∧ w = w' := by
  have HI := Lib.hid (indexByte_any S w)
  by_cases hS : ([10] == S.toList) = true
  · have hl : [10] = S.toList := by simpa using hS
    have hx : Lib.indexByte S.data.toList 10 = 0 := by
      have e : S.data.toList = [10] := by rw [hl]; exact (Lib.toList_data S).symm
      rw [e]; rfl
    rw [hx]
    clear hl hx HI
    go_enter Try.func22, Try.ntmps22
    go_wp2_with fail
    go_ret
    exact ⟨rfl, rfl⟩
  · have hS : ([10] == S.toList) = false := by simpa using hS
    go_enter Try.func22, Try.ntmps22
    go_wp2_with (go_at_call 25; refine HI.out.mono ?_; rintro e w' ⟨rfl, rfl⟩)
    go_ret
    exact ⟨rfl, rfl⟩

set_option maxHeartbeats 1000000 in
/-- No line feed. -/
theorem cut0_any (S : ByteArray) (w : World) (h : Lib.indexByte S.data.toList 10 = -1) :
    Calls Try.prog 15 #[.string S, .string ⟨#[10]⟩] w fun e w' => e = .returned (.tuple #[.string S, .string ⟨#[]⟩, .bool false]) ∧ w = w' := by
  have HI := index_any S w
  rw [h] at HI
  have HI := Lib.hid HI
  clear h
  go_enter Try.func15, Try.ntmps15
  go_wp2_with (first | (go_at_call 22; refine HI.out.mono ?_; rintro e w' ⟨rfl, rfl⟩) | go_in)
  go_ret3
  exact ⟨rfl, rfl⟩

set_option maxHeartbeats 1000000 in
/-- A line feed at i. -/
theorem cut1_any (S : ByteArray) (i : Nat) (w : World) (h : Lib.indexByte S.data.toList 10 = i) (hi : i < S.size) (hS : S.size ≤ 1000000) :
    Calls Try.prog 15 #[.string S, .string ⟨#[10]⟩] w fun e w' => e = .returned (.tuple #[.string (S.extract 0 i), .string (S.extract (i + 1) S.size), .bool true]) ∧ ∃ q, w' = w.drewN q := by
  have HI := index_any S w
  rw [h] at HI
  have HI := Lib.hid HI
  clear h
  have h1 : (0 : Int) ≤ (i : Int) := by omega
  have h2 : (i : Int) ≤ (S.size : Int) := by omega
  have h3 : (0 : Int) ≤ (i : Int) + 1 := by omega
  have h4 : (i : Int) + 1 ≤ (S.size : Int) := by omega
  have h5 : IntKind.i64.wrap ((i : Int) + 1) = (i : Int) + 1 := by rw [IntKind.wrap_i64]; omega
  go_enter Try.func15, Try.ntmps15
  go_wp2_with (first | (go_at_call 22; refine HI.out.mono ?_; rintro e w' ⟨rfl, rfl⟩) | go_in)
  go_quiet (fail)
  go_wp2_with fail
  go_ret3
  exact ⟨rfl, _, rfl⟩

/-- Of a text that isn't empty. -/
theorem getLast_nums (S : ByteArray) (h : 0 < S.size) : (nums S).getLast? = some ((nums S).getD (S.size - 1) 0) := by
  have hl : (nums S).length = S.size := nums_length S
  have h1 : S.size - 1 < (nums S).length := by omega
  rw [List.getLast?_eq_getElem?, hl, List.getElem?_eq_getElem h1]
  simp [List.getD, List.getElem?_eq_getElem h1]
theorem chop_take (l : List Int) (h : l.getLast? = some 13) : chop l = l.take (l.length - 1) := by
  unfold chop
  rw [if_pos h, List.dropLast_eq_take]
theorem chop_not (l : List Int) (h : l.getLast? ≠ some 13) : chop l = l := by
  unfold chop
  rw [if_neg h]
theorem chop_nil : chop [] = [] := rfl
theorem tail_text (S : ByteArray) (h : 0 < S.size) : ((S.extract (S.size - 1) S.size).toList == [13]) = decide ((nums S).getLast? = some 13) := by
  have hl : S.data.toList.length = S.size := by rw [Array.length_toList]; rfl
  have h1 : S.size - 1 < S.data.toList.length := by omega
  have e : (S.extract (S.size - 1) S.size).toList = [S.data.toList[S.size - 1]] := by
    rw [Lib.extract_toList, List.drop_eq_getElem_cons h1, List.drop_of_length_le (by omega)]
    rw [show S.size - (S.size - 1) = 1 by omega]
    rfl
  have e2 : (nums S).getLast? = some ((S.data.toList[S.size - 1].toNat : Int)) := by
    rw [List.getLast?_eq_getElem?, nums_length]
    unfold nums
    rw [List.getElem?_map, List.getElem?_eq_getElem h1]
    rfl
  rw [e, e2]
  generalize S.data.toList[S.size - 1] = x
  by_cases hx : x = 13
  · rw [hx]; rfl
  · have h2 : ¬ ((x.toNat : Int) = 13) := fun q => hx (UInt8.toNat_inj.1 (by simpa using Int.ofNat_inj.1 q))
    rw [decide_eq_false (by simpa using h2)]
    simpa using hx

set_option maxHeartbeats 1000000 in
/-- strings.TrimSuffix of a return. -/
theorem trimS_any (S : ByteArray) (w : World) (h0 : 0 < S.size) (hS : S.size ≤ 1000000) :
    Calls Try.prog 20 #[.string S, .string ⟨#[13]⟩] w fun e w' => e = .returned (.string (strOfNums (chop (nums S)))) ∧ w = w' := by
  have hd : decide ((1 : Int) ≤ (S.size : Int)) = true := by simp; omega
  have h1 : (0 : Int) ≤ (S.size : Int) - 1 := by omega
  have h2 : (S.size : Int) - 1 ≤ (S.size : Int) := by omega
  have h3 : ((S.size : Int) - 1).toNat = S.size - 1 := by omega
  have ht := tail_text S h0
  by_cases hc : (nums S).getLast? = some 13
  · have hr : strOfNums (chop (nums S)) = S.extract 0 (S.size - 1) := by
      rw [extract_nums, chop_take _ hc, nums_length]; simp
    rw [hr]
    rw [decide_eq_true hc] at ht
    clear hr hc
    go_enter Try.func20, Try.ntmps20
    go_wp2
    go_ret
    simp_all
  · have hr : strOfNums (chop (nums S)) = S := by rw [chop_not _ hc, strOfNums_nums]
    rw [hr]
    rw [decide_eq_false hc] at ht
    clear hr hc
    go_enter Try.func20, Try.ntmps20
    go_wp2
    go_ret
    simp_all

theorem last_drop (l : List Int) (h : 0 < l.length) : l.drop (l.length - 1) = [l.getLastD 0] := by
  have h1 : l.length - 1 < l.length := by omega
  rw [List.drop_eq_getElem_cons h1, List.drop_of_length_le (by omega)]
  rw [List.getLastD_eq_getLast?, List.getLast?_eq_getElem?, List.getElem?_eq_getElem h1]
  rfl
theorem getLast_getLastD (l : List Int) (h : 0 < l.length) : l.getLast? = some (l.getLastD 0) := by
  have h1 : l.length - 1 < l.length := by omega
  rw [List.getLastD_eq_getLast?, List.getLast?_eq_getElem?, List.getElem?_eq_getElem h1]
  rfl
theorem one_eq (x : Int) (h : 0 ≤ x ∧ x < 256) : ((strOfNums [x]).toList == (strOfNums [13]).toList) = decide (x = 13) := by
  by_cases hx : x = 13
  · rw [hx]; simp
  · rw [decide_eq_false hx]
    rw [beq_eq_false_iff_ne]
    intro e
    rw [Lib.toList_data, Lib.toList_data] at e
    have e2 : strOfNums [x] = strOfNums [13] := ByteArray.ext (Array.toList_inj.1 e)
    have e3 := congrArg nums e2
    rw [nums_strOfNums _ (by simpa using h), nums_strOfNums _ (by simp)] at e3
    injection e3 with e4
    exact hx e4

set_option maxHeartbeats 1000000 in
/-- bytes.TrimSuffix of a return. -/
theorem trimB_any (A : Option Addr) (n c b d : Nat) (cur : List Int) (w : World) (hr : RowI .u8 w A n cur) (hnc : n ≤ c) (hn : n ≤ 1000000) (hb : RowI .u8 w (some ⟨b, 0, none⟩) 1 [13]) (hw : ∀ x ∈ cur, 0 ≤ x ∧ x < 256) :
    Calls Try.prog 21 #[.slice A n c, .slice (some ⟨b, 0, none⟩) 1 d] w fun e w' => e = .returned (.slice A (chop cur).length c) ∧ w = w' := by
  have hl := hr.1
  have hcv := strRow w _ 1 d _ hb
  rcases Nat.eq_zero_or_pos n with h0 | h0
  · subst h0
    have h1 : cur = [] := List.eq_nil_of_length_eq_zero hl
    subst h1
    rw [show (chop []).length = 0 from rfl]
    clear hr hw hb hcv hl
    go_enter Try.func21, Try.ntmps21
    go_wp2
    go_ret
    exact ⟨rfl, rfl⟩
  · have hr2 : RowI .u8 w (Option.map (fun x => x.add (n - 1)) A) (n - (n - 1)) [cur.getLastD 0] := by
      refine ⟨by simp; omega, fun _ => ?_⟩
      obtain ⟨b', o', hA, hlt, hc⟩ := hr.2 h0
      refine ⟨b', o' + (n - 1), by rw [hA]; simp [Addr.add], hlt, fun j hj => ?_⟩
      rw [show j = 0 by omega, Nat.add_zero, hc (n - 1) (by omega)]
      rw [List.getLastD_eq_getLast?, List.getLast?_eq_getElem?, hl]
      rfl
    have hx := hw (cur.getLastD 0) (by
      have := getLast_getLastD cur (by omega)
      exact List.mem_of_getLast? this)
    have hlast := getLast_getLastD cur (by omega)
    generalize cur.getLastD 0 = x at hr2 hx hlast
    have hcv2 := strRow w _ _ (c - (n - 1)) _ hr2
    have hone := one_eq x hx
    have hd : decide ((1 : Int) ≤ (n : Int)) = true := by simp; omega
    have hsub : (n : Int) - 1 = ((n - 1 : Nat) : Int) := by omega
    have hup := slice_upto A n c (n - 1) (by omega) w
    by_cases hc : x = 13
    · have hch : (chop cur).length = n - 1 := by rw [chop_take _ (by rw [hlast, hc]), List.length_take]; omega
      rw [hch]
      rw [decide_eq_true hc] at hone
      rw [← hsub] at hup
      clear hch hlast hx hr2 hc hr hb hw
      go_enter Try.func21, Try.ntmps21
      go_wp2
      go_ret
      exact ⟨rfl, rfl⟩
    · have hch : (chop cur).length = n := by rw [chop_not _ (by rw [hlast]; simpa using hc)]; exact hl
      rw [hch]
      rw [decide_eq_false hc] at hone
      rw [← hsub] at hup
      clear hch hlast hx hr2 hc hr hb hw
      go_enter Try.func21, Try.ntmps21
      go_wp2
      go_ret
      exact ⟨rfl, rfl⟩
end Go.Proofs.Ytnfekbmmnenbfaa
