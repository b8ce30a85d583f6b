/- The document's own Text. -/
import Derived.Test.YtoojfjealncddaaDoorDecoder
import Derived.Test.YtoojfjealncddaaDoorRefGetA
import Derived.Test.YtoojfjealncddaaDoorRUnits
import Derived.Test.YtoojfjealncddaaDoorRefMark
import Derived.Test.YtoojfjealncddaaDoorREncode
namespace Go.Proofs.YtoojfjealncddaaDoor
open Go Go.RowKit
set_option linter.unusedVariables false

/-- How long a string is, or a slice. -/
def strLen : Value → Nat
  | .string b => b.size
  | .slice _ n _ => n
  | _ => 0

set_option maxHeartbeats 1000000 in
theorem refText_eight (s : ByteArray) (W : World) (hn : s.size ≤ 2000) :
    Calls Tryd.prog 9 #[.int .i64 1, .string s] W fun e w' => ∃ out, e = .returned (.string (strOfNums out)) ∧ Pour 1 true (nums s) out [] ∧ Below W.heap.size W w' := by
  go_enter Tryd.func9, Tryd.ntmps9
  go_wp2_with fail
  go_loopw [1, 7] (fun vb vs wr => ∃ (b : ByteArray) (es : List Int), vb = .string b ∧ vs = .string (strOfNums es) ∧ Hid (∀ out rest, Pour 1 true (nums b) out rest → Pour 1 true (nums s) (es ++ out) rest) ∧ es.length + 4 * b.size ≤ 8000 ∧ Below W.heap.size W wr) (fun vb _ _ => strLen vb)
  case atStart => exact ⟨s, [], rfl, rfl, Lib.hid (fun _ _ h => h), by simp; omega, Below.refl _ _⟩
  case round =>
    obtain ⟨b, es, rfl, rfl, HP, hel, hb⟩ := hrel
    by_cases hlt : 0 < b.size
    · have hne : nums b ≠ [] := by
        intro h
        have := congrArg List.length h
        rw [nums_length, List.length_nil] at this
        omega
      have hbd := getI_bounds hne
      rw [nums_length] at hbd
      have hget := fun w => refGet_any b w (by unfold maxLen; omega)
      obtain ⟨g1, hg1⟩ : ∃ g, g = (getI (nums b)).1 := ⟨_, rfl⟩
      obtain ⟨g2, hg2⟩ : ∃ g, g = (getI (nums b)).2 := ⟨_, rfl⟩
      rw [← hg2] at hbd
      rw [← hg1, ← hg2] at hget
      obtain ⟨m, hm⟩ := Int.eq_ofNat_of_zero_le (show 0 ≤ g2 by omega)
      subst hm
      have hput := fun w => refPut_any g1 w
      obtain ⟨p, hpe⟩ : ∃ p, p = putI (sndI g1) := ⟨_, rfl⟩
      have hp4 := (putI_len (sndI g1)).2
      rw [← hpe] at hput hp4
      have hcat : ¬ 9223372036854775807 < (strOfNums es).size + (strOfNums p).size := by rw [strOfNums_size, strOfNums_size]; omega
      have hstep : stepI 1 true (nums b) = (g1, (m : Int)) := by rw [stepI_true, hg1, hg2]; rfl
      have hxs : (b.extract m b.size).size = b.size - m := by rw [ByteArray.size_extract]; omega
      have hlt' : (0 : Int) < (b.size : Int) := by omega
      have HGET := Lib.hid hget; clear hget
      have HPUT := Lib.hid hput; clear hput
      have HPE := Lib.hid hpe; clear hpe
      have HST := Lib.hid hstep; clear hstep
      have HXS := Lib.hid hxs; clear hxs
      clear hg1 hg2 hne
      go_wp2_with fail
      refine (HGET.out _).mono ?_; rintro e w1 ⟨rfl, hb1⟩
      have hb1' := hb.trans (Below.mono hb1 hb.size)
      clear hb1
      go_wp2_with fail
      refine (HPUT.out _).mono ?_; rintro e w2 ⟨rfl, hb2⟩
      have hb2' := hb1'.trans (Below.mono hb2 hb1'.size)
      clear hb2 hb1'
      go_wp2_with fail
      refine ⟨⟨b.extract m b.size, es ++ p, rfl, by rw [str_append], Lib.hid ?_, by have := HXS.out; simp; omega, hb2'⟩, by simp only [strLen]; have := HXS.out; omega⟩
      intro out rest h
      rw [List.append_assoc]
      refine HP.out _ _ ?_
      have hgo := Pour.go (k := 1) (cl := true) (xs := nums b) (out := out) (rest := rest) (by rw [HST.out]; simp only; omega) (by rw [HST.out]; simp only [Int.toNat_natCast]; rw [← nums_extract_to]; exact h)
      rw [HST.out, ← HPE.out] at hgo
      exact hgo
    · have h0 : b.size = 0 := by omega
      have hnb : nums b = [] := List.eq_nil_of_length_eq_zero (by rw [nums_length]; exact h0)
      have hlt' : ¬ (0 : Int) < (b.size : Int) := by omega
      have HNB := Lib.hid hnb; clear hnb
      clear h0
      go_wp2_with fail
      go_ret
      refine ⟨es, rfl, ?_, hb⟩
      have := HP.out [] [] (by rw [HNB.out]; exact pour_nil (.inl rfl))
      rwa [List.append_nil] at this

theorem i64_elem : Tryd.prog.elem 27 = 3 := by kernel_rfl
theorem i64_size (w : World) : (sizeOf 3).run Tryd.prog w = .ok 1 w := by kernel_rfl
theorem i64_slice : Tryd.prog.underlying 27 = some (.slice (Tryd.prog.elem 27)) := by rw [i64_elem]; exact Tryd.underlying27
/-- us[l:], of a slice of integers at whatever address. -/
theorem slice_fromI (A : Option Addr) (n c l : Nat) (hl : l ≤ n) :
    ∃ A', (∀ w : World, (Instr.slice 27 (.slice A n c) (some (.int .i64 (l : Int))) none none).run Tryd.prog w = .ok (.slice A' (n - l) (c - l)) w) ∧
      (∀ (w : World) (xs : List Int), RowI .i64 w A n xs → n ≤ c → RowI .i64 w A' (n - l) (xs.drop l)) := by
  refine ⟨if c = l then A else A.map (·.add (l * 1)), fun w => ?_, fun w xs h hnc => ?_⟩
  · have hr := run_slice_l (P := Tryd.prog) (w := w) (t := 27) (a := A) (len := n) (cap := c) (ht := i64_slice) (kl := .i64) (l := (l : Int)) (h0 := by omega) (h1 := by omega)
    rw [hr, i64_elem, i64_size]
    simp [Result.andThen, sliced]
  · refine ⟨by rw [List.length_drop, h.1], fun h0 => ?_⟩
    obtain ⟨b, o, hA, hlt, hc⟩ := h.2 (by omega)
    rw [if_neg (by omega), hA]
    refine ⟨b, o + l, by simp [Addr.add], hlt, fun j hj => ?_⟩
    rw [Nat.add_assoc, hc (l + j) (by omega)]
    simp [List.getD, List.getElem?_drop]

theorem pour_odd {k : Int} (hk : k = 2 ∨ k = 3) {ys : List Int} (h : ys.length = 1) : Pour k true ys [239, 191, 189] [] := by
  have e : stepI k true ys = (65533, 1) := by
    rw [stepI_true]
    unfold nextI
    rw [if_neg (by omega), if_pos (by omega), h]
    rfl
  have hd : ys.drop 1 = [] := List.drop_of_length_le (by omega)
  have := Pour.go (k := k) (cl := true) (xs := ys) (out := []) (rest := []) (by rw [e]; decide) (by rw [e]; simp only [Int.toNat_one]; rw [hd]; exact pour_nil (by omega))
  rw [e] at this
  exact this

theorem HK2 : (2 : Int) = 2 ∨ (2 : Int) = 3 := .inl rfl
theorem HK3 : (3 : Int) = 2 ∨ (3 : Int) = 3 := .inr rfl

set_option maxHeartbeats 2000000 in
theorem refText_u2 (s : ByteArray) (W : World) (hn : s.size ≤ 1000) :
    Calls Tryd.prog 9 #[.int .i64 2, .string s] W fun e w' => ∃ out, e = .returned (.string (strOfNums out)) ∧ Pour 2 true (nums s) out [] ∧ Below W.heap.size W w' := by
  have hun := fun w => runits_cap 2 s w hn
  have hul := unitsL_length HK2 (nums s)
  rw [nums_length] at hul
  obtain ⟨us0, hus0⟩ : ∃ us, us = unitsL 2 (nums s) := ⟨_, rfl⟩
  rw [← hus0] at hun hul
  have HUN := Lib.hid hun; clear hun
  have HU0 := Lib.hid hus0; clear hus0
  have HUL := Lib.hid hul; clear hul
  go_enter Tryd.func9, Tryd.ntmps9
  go_wp2_with fail
  refine (HUN.out _).mono ?_; rintro e w1 ⟨A0, c0, rfl, hr0, hb0, hq1, hq2⟩
  have HR0 := Lib.hid hr0; clear hr0
  go_wp2_with fail
  go_loopw [7, 10] (fun vs vu wr => ∃ (ys es us : List Int) (A : Option Addr) (c : Nat), vu = .slice A us.length c ∧ vs = .string (strOfNums es) ∧ Hid (us = unitsL 2 ys) ∧ Hid (RowI .i64 wr A us.length us) ∧ us.length ≤ c ∧ c ≤ maxLen ∧ us.length = ys.length / 2 ∧ ys.length % 2 = s.size % 2 ∧
      Hid (∀ out rest, Pour 2 true ys out rest → Pour 2 true (nums s) (es ++ out) rest) ∧ es.length + 4 * ys.length ≤ 4000 ∧ Below W.heap.size W wr) (fun _ vu _ => strLen vu)
  case atStart => exact ⟨nums s, [], us0, A0, c0, rfl, rfl, HU0, HR0, hq1, hq2, by rw [nums_length]; exact HUL.out, by rw [nums_length], Lib.hid (fun _ _ h => h), by rw [nums_length]; simp; omega, hb0⟩
  case round =>
    obtain ⟨ys, es, us, A, c, rfl, rfl, HUS, HROW, hcap, hcm, hlen, hpar, HP, hel, hb⟩ := hrel
    by_cases hlt : 0 < us.length
    · have hne : us ≠ [] := by intro h; rw [h] at hlt; simp at hlt
      have hbd := joinI_bounds hne
      have hjo := fun w h => (join_any A us.length c us w h (by omega)).2
      have hnx := nextI_units HK2 (xs := ys) (by omega)
      rw [← HUS.out] at hnx
      obtain ⟨g1, hg1⟩ : ∃ g, g = (joinI us).1 := ⟨_, rfl⟩
      obtain ⟨g2, hg2⟩ : ∃ g, g = (joinI us).2 := ⟨_, rfl⟩
      rw [← hg2] at hbd
      rw [← hg1, ← hg2] at hjo hnx
      obtain ⟨m, hm⟩ := Int.eq_ofNat_of_zero_le (show 0 ≤ g2 by omega)
      subst hm
      have hput := fun w => refPut_any g1 w
      obtain ⟨p, hpe⟩ : ∃ p, p = putI (sndI g1) := ⟨_, rfl⟩
      have hp4 := (putI_len (sndI g1)).2
      rw [← hpe] at hput hp4
      have hcat : ¬ 9223372036854775807 < (strOfNums es).size + (strOfNums p).size := by rw [strOfNums_size, strOfNums_size]; omega
      obtain ⟨A', hsl, hrow'⟩ := slice_fromI A us.length c m (by omega)
      have hyl : (us.drop m).length = us.length - m := List.length_drop ..
      have HLEN := Lib.hid hlen
      have HPAR := Lib.hid hpar
      obtain ⟨vs, hvs⟩ : ∃ vs, vs = us.drop m := ⟨_, rfl⟩
      rw [← hvs] at hyl
      rw [← hyl] at hsl
      have hlt' : (0 : Int) < (us.length : Int) := by omega
      have HJO := Lib.hid hjo; clear hjo
      have HPUT := Lib.hid hput; clear hput
      have HPE := Lib.hid hpe; clear hpe
      have HNX := Lib.hid hnx; clear hnx
      have HROW' := Lib.hid hrow'; clear hrow'
      have HYL := Lib.hid hyl; clear hyl
      have HVS := Lib.hid hvs; clear hvs
      clear hg1 hg2 hne hlen hpar
      go_wp2_with fail
      with_reducible refine (HJO.out _ HROW.out).mono ?_; rintro e w1 ⟨rfl, q, rfl⟩
      go_wp2_with fail
      refine (HPUT.out _).mono ?_; rintro e w2 ⟨rfl, hb2⟩
      have hb2' := (below_drewN hb q).trans (Below.mono hb2 hb.size)
      have hr2 : RowI .i64 w2 A us.length us := (HROW.out.drewN q).below hb2 (Nat.le_refl _)
      have HR2 := Lib.hid hr2; clear hr2
      clear hb2
      go_wp2_with fail
      refine ⟨⟨ys.drop (2 * m), es ++ p, vs, A', c - m, rfl, by rw [str_append], Lib.hid (by rw [HVS.out, HUS.out, unitsL_drop HK2]), Lib.hid ?_, by have := HYL.out; omega, by omega, ?_, ?_, Lib.hid ?_, ?_, hb2'⟩, ?_⟩
      · rw [HYL.out, HVS.out]; exact HROW'.out w2 us HR2.out hcap
      · have := HLEN.out; rw [HYL.out, List.length_drop]; omega
      · have := HLEN.out; have := HPAR.out; rw [List.length_drop]; omega
      · intro out rest h
        rw [List.append_assoc]
        refine HP.out _ _ ?_
        have e : stepI 2 true ys = (g1, 2 * (m : Int)) := (stepI_true 2 ys).trans HNX.out
        have hgo := Pour.go (k := 2) (cl := true) (xs := ys) (out := out) (rest := rest) (by rw [e]; simp only; omega) (by rw [e]; simp only; rw [show (2 * (m : Int)).toNat = 2 * m by omega]; exact h)
        rw [e, ← HPE.out] at hgo
        exact hgo
      · have := HLEN.out; rw [List.length_drop, List.length_append]; omega
      · simp only [strLen]; have := HYL.out; omega
    · have hlt' : ¬ (0 : Int) < (us.length : Int) := by omega
      have HLEN := Lib.hid hlen
      have HPAR := Lib.hid hpar
      clear hlen hpar
      by_cases hodd : s.size % 2 = 1
      · have ho : (s.size : Int).tmod 2 = 1 := by rw [Int.tmod_eq_emod_of_nonneg (by omega)]; omega
        have hcat : ¬ 9223372036854775807 < (strOfNums es).size + 3 := by rw [strOfNums_size]; omega
        go_wp2_with fail
        go_ret
        refine ⟨es ++ [239, 191, 189], by rw [str_append]; rfl, ?_, hb⟩
        exact HP.out _ _ (pour_odd HK2 (by have := HLEN.out; have := HPAR.out; omega))
      · have ho : (s.size : Int).tmod 2 = 0 := by rw [Int.tmod_eq_emod_of_nonneg (by omega)]; omega
        go_wp2_with fail
        go_ret
        refine ⟨es, rfl, ?_, hb⟩
        have hy : ys = [] := List.eq_nil_of_length_eq_zero (by have := HLEN.out; have := HPAR.out; omega)
        have := HP.out [] [] (by rw [hy]; exact pour_nil (by decide))
        rwa [List.append_nil] at this
set_option maxHeartbeats 2000000 in
theorem refText_u3 (s : ByteArray) (W : World) (hn : s.size ≤ 1000) :
    Calls Tryd.prog 9 #[.int .i64 3, .string s] W fun e w' => ∃ out, e = .returned (.string (strOfNums out)) ∧ Pour 3 true (nums s) out [] ∧ Below W.heap.size W w' := by
  have hun := fun w => runits_cap 3 s w hn
  have hul := unitsL_length HK3 (nums s)
  rw [nums_length] at hul
  obtain ⟨us0, hus0⟩ : ∃ us, us = unitsL 3 (nums s) := ⟨_, rfl⟩
  rw [← hus0] at hun hul
  have HUN := Lib.hid hun; clear hun
  have HU0 := Lib.hid hus0; clear hus0
  have HUL := Lib.hid hul; clear hul
  go_enter Tryd.func9, Tryd.ntmps9
  go_wp2_with fail
  refine (HUN.out _).mono ?_; rintro e w1 ⟨A0, c0, rfl, hr0, hb0, hq1, hq2⟩
  have HR0 := Lib.hid hr0; clear hr0
  go_wp2_with fail
  go_loopw [7, 10] (fun vs vu wr => ∃ (ys es us : List Int) (A : Option Addr) (c : Nat), vu = .slice A us.length c ∧ vs = .string (strOfNums es) ∧ Hid (us = unitsL 3 ys) ∧ Hid (RowI .i64 wr A us.length us) ∧ us.length ≤ c ∧ c ≤ maxLen ∧ us.length = ys.length / 2 ∧ ys.length % 2 = s.size % 2 ∧
      Hid (∀ out rest, Pour 3 true ys out rest → Pour 3 true (nums s) (es ++ out) rest) ∧ es.length + 4 * ys.length ≤ 4000 ∧ Below W.heap.size W wr) (fun _ vu _ => strLen vu)
  case atStart => exact ⟨nums s, [], us0, A0, c0, rfl, rfl, HU0, HR0, hq1, hq2, by rw [nums_length]; exact HUL.out, by rw [nums_length], Lib.hid (fun _ _ h => h), by rw [nums_length]; simp; omega, hb0⟩
  case round =>
    obtain ⟨ys, es, us, A, c, rfl, rfl, HUS, HROW, hcap, hcm, hlen, hpar, HP, hel, hb⟩ := hrel
    by_cases hlt : 0 < us.length
    · have hne : us ≠ [] := by intro h; rw [h] at hlt; simp at hlt
      have hbd := joinI_bounds hne
      have hjo := fun w h => (join_any A us.length c us w h (by omega)).2
      have hnx := nextI_units HK3 (xs := ys) (by omega)
      rw [← HUS.out] at hnx
      obtain ⟨g1, hg1⟩ : ∃ g, g = (joinI us).1 := ⟨_, rfl⟩
      obtain ⟨g2, hg2⟩ : ∃ g, g = (joinI us).2 := ⟨_, rfl⟩
      rw [← hg2] at hbd
      rw [← hg1, ← hg2] at hjo hnx
      obtain ⟨m, hm⟩ := Int.eq_ofNat_of_zero_le (show 0 ≤ g2 by omega)
      subst hm
      have hput := fun w => refPut_any g1 w
      obtain ⟨p, hpe⟩ : ∃ p, p = putI (sndI g1) := ⟨_, rfl⟩
      have hp4 := (putI_len (sndI g1)).2
      rw [← hpe] at hput hp4
      have hcat : ¬ 9223372036854775807 < (strOfNums es).size + (strOfNums p).size := by rw [strOfNums_size, strOfNums_size]; omega
      obtain ⟨A', hsl, hrow'⟩ := slice_fromI A us.length c m (by omega)
      have hyl : (us.drop m).length = us.length - m := List.length_drop ..
      have HLEN := Lib.hid hlen
      have HPAR := Lib.hid hpar
      obtain ⟨vs, hvs⟩ : ∃ vs, vs = us.drop m := ⟨_, rfl⟩
      rw [← hvs] at hyl
      rw [← hyl] at hsl
      have hlt' : (0 : Int) < (us.length : Int) := by omega
      have HJO := Lib.hid hjo; clear hjo
      have HPUT := Lib.hid hput; clear hput
      have HPE := Lib.hid hpe; clear hpe
      have HNX := Lib.hid hnx; clear hnx
      have HROW' := Lib.hid hrow'; clear hrow'
      have HYL := Lib.hid hyl; clear hyl
      have HVS := Lib.hid hvs; clear hvs
      clear hg1 hg2 hne hlen hpar
      go_wp2_with fail
      with_reducible refine (HJO.out _ HROW.out).mono ?_; rintro e w1 ⟨rfl, q, rfl⟩
      go_wp2_with fail
      refine (HPUT.out _).mono ?_; rintro e w2 ⟨rfl, hb2⟩
      have hb2' := (below_drewN hb q).trans (Below.mono hb2 hb.size)
      have hr2 : RowI .i64 w2 A us.length us := (HROW.out.drewN q).below hb2 (Nat.le_refl _)
      have HR2 := Lib.hid hr2; clear hr2
      clear hb2
      go_wp2_with fail
      refine ⟨⟨ys.drop (2 * m), es ++ p, vs, A', c - m, rfl, by rw [str_append], Lib.hid (by rw [HVS.out, HUS.out, unitsL_drop HK3]), Lib.hid ?_, by have := HYL.out; omega, by omega, ?_, ?_, Lib.hid ?_, ?_, hb2'⟩, ?_⟩
      · rw [HYL.out, HVS.out]; exact HROW'.out w2 us HR2.out hcap
      · have := HLEN.out; rw [HYL.out, List.length_drop]; omega
      · have := HLEN.out; have := HPAR.out; rw [List.length_drop]; omega
      · intro out rest h
        rw [List.append_assoc]
        refine HP.out _ _ ?_
        have e : stepI 3 true ys = (g1, 2 * (m : Int)) := (stepI_true 3 ys).trans HNX.out
        have hgo := Pour.go (k := 3) (cl := true) (xs := ys) (out := out) (rest := rest) (by rw [e]; simp only; omega) (by rw [e]; simp only; rw [show (2 * (m : Int)).toNat = 2 * m by omega]; exact h)
        rw [e, ← HPE.out] at hgo
        exact hgo
      · have := HLEN.out; rw [List.length_drop, List.length_append]; omega
      · simp only [strLen]; have := HYL.out; omega
    · have hlt' : ¬ (0 : Int) < (us.length : Int) := by omega
      have HLEN := Lib.hid hlen
      have HPAR := Lib.hid hpar
      clear hlen hpar
      by_cases hodd : s.size % 2 = 1
      · have ho : (s.size : Int).tmod 2 = 1 := by rw [Int.tmod_eq_emod_of_nonneg (by omega)]; omega
        have hcat : ¬ 9223372036854775807 < (strOfNums es).size + 3 := by rw [strOfNums_size]; omega
        go_wp2_with fail
        go_ret
        refine ⟨es ++ [239, 191, 189], by rw [str_append]; rfl, ?_, hb⟩
        exact HP.out _ _ (pour_odd HK3 (by have := HLEN.out; have := HPAR.out; omega))
      · have ho : (s.size : Int).tmod 2 = 0 := by rw [Int.tmod_eq_emod_of_nonneg (by omega)]; omega
        go_wp2_with fail
        go_ret
        refine ⟨es, rfl, ?_, hb⟩
        have hy : ys = [] := List.eq_nil_of_length_eq_zero (by have := HLEN.out; have := HPAR.out; omega)
        have := HP.out [] [] (by rw [hy]; exact pour_nil (by decide))
        rwa [List.append_nil] at this

theorem refText_told (k : Int) (hk : k = 1 ∨ k = 2 ∨ k = 3) (s : ByteArray) (W : World) (hn : s.size ≤ 1000) :
    Calls Tryd.prog 9 #[.int .i64 k, .string s] W fun e w' => ∃ out, e = .returned (.string (strOfNums out)) ∧ Pour k true (nums s) out [] ∧ Below W.heap.size W w' := by
  rcases hk with rfl | rfl | rfl
  · exact refText_eight s W (by omega)
  · exact refText_u2 s W hn
  · exact refText_u3 s W hn

theorem markI_zero (l : List Int) : (markI l).2 = 0 ↔ (markI l).1 = 0 := by
  unfold markI
  (repeat' split) <;> simp

set_option maxHeartbeats 1000000 in
theorem refText_auto (s : ByteArray) (W : World) (hn : s.size ≤ 1000) :
    Calls Tryd.prog 9 #[.int .i64 0, .string s] W fun e w' => ∃ out, e = .returned (.string (strOfNums out)) ∧ Pour (kindI (nums s)) true ((nums s).drop (markI (nums s)).2.toNat) out [] ∧ Below W.heap.size W w' := by
  have hmk : ∀ w : World, Calls Tryd.prog 15 #[.string s] w fun e w' => e = .returned (.tuple #[.int .i64 (markI (nums s)).1, .int .i64 (markI (nums s)).2]) ∧ Below w.heap.size w w' :=
    fun w => (refMark_any s w (by omega)).mono fun e w' ⟨he, hw⟩ => ⟨he, by rw [hw]; exact Below.refl _ _⟩
  have hz := markI_zero (nums s)
  have hmb := markI_bounds (nums s)
  rw [nums_length] at hmb
  obtain ⟨k, hk⟩ : ∃ k, k = (markI (nums s)).1 := ⟨_, rfl⟩
  obtain ⟨z, hz2⟩ : ∃ k, k = (markI (nums s)).2 := ⟨_, rfl⟩
  have hki : kindI (nums s) = if k = 0 then 1 else k := by unfold kindI; rw [← hk]
  rw [← hk, ← hz2] at hmk hz
  rw [← hz2] at hmb
  obtain ⟨m, hm⟩ := Int.eq_ofNat_of_zero_le hmb.1
  subst hm
  have htd := fun w => refText_told (kindI (nums s)) (kindI_or _) (s.extract m s.size) w (by rw [ByteArray.size_extract]; omega)
  rw [nums_extract_to] at htd
  rw [← hz2]
  rw [show ((m : Int)).toNat = m from rfl]
  obtain ⟨K, hK⟩ : ∃ K, K = kindI (nums s) := ⟨_, rfl⟩
  rw [← hK] at hki htd ⊢
  have HMK := Lib.hid hmk; clear hmk
  have HTD := Lib.hid htd; clear htd
  have hms : m ≤ s.size := by omega
  clear hk hz2 hK hmb
  by_cases h0 : k = 0
  · have hm0 : ((m : Int) == 0) = true := by rw [beq_iff_eq]; exact hz.2 h0
    rw [if_pos h0] at hki
    subst hki
    clear hz h0
    go_enter Tryd.func9, Tryd.ntmps9
    go_wp2_with fail
    refine (HMK.out _).mono ?_; rintro e w1 ⟨rfl, hb1⟩
    go_wp2_with fail
    refine (HTD.out _).mono ?_; rintro e w2 ⟨out, rfl, hp, hb2⟩
    have hb3 := hb1.trans (Below.mono hb2 hb1.size)
    have HPP := Lib.hid hp; clear hp
    go_wp2_with fail
    go_ret
    exact ⟨out, rfl, HPP.out, hb3⟩
  · have hm0 : ((m : Int) == 0) = false := by rw [beq_eq_false_iff_ne]; exact fun h => h0 (hz.1 h)
    rw [if_neg h0] at hki
    subst hki
    clear hz h0
    go_enter Tryd.func9, Tryd.ntmps9
    go_wp2_with fail
    refine (HMK.out _).mono ?_; rintro e w1 ⟨rfl, hb1⟩
    go_wp2_with fail
    refine (HTD.out _).mono ?_; rintro e w2 ⟨out, rfl, hp, hb2⟩
    have hb3 := hb1.trans (Below.mono hb2 hb1.size)
    have HPP := Lib.hid hp; clear hp
    go_wp2_with fail
    go_ret
    exact ⟨out, rfl, HPP.out, hb3⟩

theorem refText_no (k : Int) (s : ByteArray) (W : World) (hk : k < 0 ∨ 3 < k) :
    Calls Tryd.prog 9 #[.int .i64 k, .string s] W fun e w' => e = .returned (.string (strOfNums [])) ∧ w' = W := by
  have e0 : (k == 0) = false := by rw [beq_eq_false_iff_ne]; omega
  have e1 : (k == 1) = false := by rw [beq_eq_false_iff_ne]; omega
  have e2 : (k != 2) = true := by rw [bne_iff_ne]; omega
  have e3 : (k != 3) = true := by rw [bne_iff_ne]; omega
  clear hk
  go_enter Tryd.func9, Tryd.ntmps9
  go_wp2_with fail
  go_ret
  exact ⟨rfl, rfl⟩

/-- WHAT THE DOCUMENT's Text GIVES. -/
theorem refText_any (k : Int) (s : ByteArray) (W : World) (hn : s.size ≤ 1000) :
    Calls Tryd.prog 9 #[.int .i64 k, .string s] W fun e w' => ∃ out, e = .returned (.string (strOfNums out)) ∧ TextR k (nums s) out ∧ Below W.heap.size W w' := by
  by_cases h0 : k = 0
  · subst h0
    exact (refText_auto s W hn).mono fun e w' ⟨out, he, hp, hb⟩ => ⟨out, he, .inl ⟨rfl, hp⟩, hb⟩
  · by_cases h1 : k = 1 ∨ k = 2 ∨ k = 3
    · exact (refText_told k h1 s W hn).mono fun e w' ⟨out, he, hp, hb⟩ => ⟨out, he, .inr (.inl ⟨h1, hp⟩), hb⟩
    · exact (refText_no k s W (by omega)).mono fun e w' ⟨he, hw⟩ => ⟨[], he, .inr (.inr ⟨by omega, rfl⟩), by rw [hw]; exact Below.refl _ _⟩
end Go.Proofs.YtoojfjealncddaaDoor
