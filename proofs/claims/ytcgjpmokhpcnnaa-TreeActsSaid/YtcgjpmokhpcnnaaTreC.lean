/- The document's tree: a node is cancelled, with all below it. -/
import Derived.Test.YtcgjpmokhpcnnaaTreB
namespace Go.Proofs.Ytcgjpmokhpcnnaa
open Go Go.RowKit
set_option linter.unusedVariables false
set_option maxRecDepth 20000
section
variable {w w' : World} {B r : Nat} {D : Nat → Prop} {VU VC : Value} {up ca : List Int}
theorem canN_le (up ca : List Int) (n : Int) (m : Nat) : canN up ca n m ≤ m := by
  unfold canN
  exact Nat.le_trans List.countP_le_length (by simp)
set_option maxHeartbeats 2000000 in
theorem dcan_no (h : TDS w B D r up ca) (n cause : Int) (hl : up.length ≤ 1000) (hn : ¬ (isB up n = true ∧ cause ≠ 0)) :
    Calls Try.prog 13 #[.pointer (some ⟨r, 0, none⟩), .int .i64 n, .int .i64 cause] w fun e w' => e = .returned (.tuple #[.int .i64 0, .int .i64 2]) ∧ w = w' := by
  obtain ⟨VU, VC, h⟩ := h
  have HI := Lib.hid (dis_any h n (by omega))
  clear h
  by_cases hi : isB up n = true
  · have hc : cause = 0 := by
      rcases Int.decEq cause 0 with h0 | h0
      · exact absurd ⟨hi, h0⟩ hn
      · exact h0
    subst hc
    rw [hi] at HI
    clear hi hn
    go_enter Try.func13, Try.ntmps13
    go_wp2_with (go_at_call 21; refine HI.out.mono ?_; rintro e w1 ⟨rfl, rfl⟩)
    go_ret2
    exact ⟨rfl, rfl⟩
  · have hi' : isB up n = false := by simpa using hi
    rw [hi'] at HI
    clear hi hi' hn
    go_enter Try.func13, Try.ntmps13
    go_wp2_with (go_at_call 21; refine HI.out.mono ?_; rintro e w1 ⟨rfl, rfl⟩)
    go_ret2
    exact ⟨rfl, rfl⟩
set_option maxHeartbeats 4000000 in
theorem dcan_yes (h : TDS w B D r up ca) (hw : WfUp up) (hc : ca.length = up.length) (n cause : Int) (hl : up.length ≤ 1000) (hi : isB up n = true) (h0 : cause ≠ 0) :
    Calls Try.prog 13 #[.pointer (some ⟨r, 0, none⟩), .int .i64 n, .int .i64 cause] w fun e w' => e = .returned (.tuple #[.int .i64 (canN up ca n up.length : Int), .int .i64 0]) ∧ TDS w' B D r up (canC up ca n cause up.length) ∧ Step D D w w' := by
  obtain ⟨VU, VC, h⟩ := h
  have HI := Lib.hid (dis_any h n (by omega))
  rw [hi] at HI
  obtain ⟨A, c, hV, -, -, -⟩ := h.ru.slice
  rw [nums1_length] at hV
  subst hV
  obtain ⟨y0, hy0⟩ : ∃ y, ca[0]? = some y := ⟨_, List.getElem?_eq_getElem (by have := hw.1; omega)⟩
  obtain ⟨b, c2, hV, _, _, _, _, hc2, hcm⟩ := h.rc.num hy0
  rw [hc] at hV hc2
  subst hV
  clear hy0
  obtain ⟨m, hm⟩ : ∃ m, m = up.length := ⟨_, rfl⟩
  rw [← hm] at hl h hc2 ⊢
  have HH := Lib.hid h
  have HW := Lib.hid hw
  have HM := Lib.hid hm
  have HC := Lib.hid (hc.trans hm.symm)
  have hcb : (cause == 0) = false := by simpa using h0
  clear h hw hm hc hi
  go_enter Try.func13, Try.ntmps13
  go_wp2_with (go_at_call 21; refine HI.out.mono ?_; rintro e w1 ⟨rfl, rfl⟩)
  go_loopw [8, 9] (fun va vk wr => ∃ (k z : Nat), va = .int .i64 (z : Int) ∧ vk = .int .i64 (k : Int) ∧ k ≤ m ∧ z ≤ k ∧ Hid (z = canN up ca n k ∧ TDoc wr B D r (.slice A m c) (.slice (some ⟨b, 0, none⟩) m c2) up (canC up ca n cause k) ∧ Step D D w wr)) (fun _ vk _ => m - (intOf vk).toNat)
  case atStart => exact ⟨0, 0, rfl, rfl, Nat.zero_le _, Nat.le_refl _, Lib.hid ⟨rfl, by rw [canC_zero]; exact HH.out, Step.refl _ _⟩⟩
  case round =>
    obtain ⟨k, z, rfl, rfl, hk, hz, HO⟩ := hrel
    have e0 := HO.out.2.1.c0
    have e1 := HO.out.2.1.c1
    by_cases hl' : k < m
    · obtain ⟨hzz, T, ST⟩ := HO.out
      have HD := Lib.hid (dunder_any T HW.out (k : Int) n (by omega) (by rw [← HM.out]; omega) (by rw [← HM.out]; omega))
      have hkc : k < ca.length := by rw [HC.out]; exact hl'
      obtain ⟨y, hy⟩ : ∃ y, y = ca.getD k 0 := ⟨_, rfl⟩
      have hcy : (canC up ca n cause k)[k]? = some y := by rw [canC_at hkc, if_neg (by omega), hy]
      obtain ⟨b', c', hV, _, hbC, hcell, hfr, _, _⟩ := T.rc.num hcy
      injection hV with hV _ _
      injection hV with hV
      injection hV with hV _ _
      subst hV
      have hcut : cutsB up ca n k = true → Hid (z + 1 = canN up ca n (k + 1) ∧ TDoc (wr.setCell ⟨b, k, none⟩ (.int .i64 cause)) B D r (.slice A m c) (.slice (some ⟨b, 0, none⟩) m c2) up (canC up ca n cause (k + 1)) ∧ Step D D w (wr.setCell ⟨b, k, none⟩ (.int .i64 cause))) := fun e =>
        Lib.hid ⟨by rw [canN_succ, if_pos e, hzz], by rw [canC_succ hkc, if_pos e]; exact T.put hcy cause, ST.1.setCell (.inl (T.dc b rfl)) _, fun k' h' => .inl h'⟩
      have hno : cutsB up ca n k = false → Hid (z = canN up ca n (k + 1) ∧ TDoc wr B D r (.slice A m c) (.slice (some ⟨b, 0, none⟩) m c2) up (canC up ca n cause (k + 1)) ∧ Step D D w wr) := fun e =>
        Lib.hid ⟨by rw [canN_succ, if_neg (by simp [e]), hzz]; rfl, by rw [canC_succ hkc, if_neg (by simp [e])]; exact T, ST⟩
      unfold cutsB at hcut hno
      rw [← hy] at hcut hno
      clear T ST hzz HO hcy hy
      by_cases hkn : (k : Int) = n
      · have hkb : ((k : Int) == n) = true := by simpa using hkn
        rw [hkb, Bool.true_or, Bool.true_and] at hcut hno
        by_cases hyz : y = 0
        · subst hyz
          have HF := hcut rfl
          clear hcut hno hkn
          go_wp2_with (go_at_call 22; refine HD.out.mono ?_; rintro e w1 ⟨rfl, rfl⟩)
          exact ⟨⟨k + 1, z + 1, by go_num, by go_num, by omega, by omega, HF⟩, by simp [intOf]; omega⟩
        · have hyb : (y == 0) = false := by simpa using hyz
          have HF := hno hyb
          clear hcut hno hkn hyz
          go_wp2_with (go_at_call 22; refine HD.out.mono ?_; rintro e w1 ⟨rfl, rfl⟩)
          exact ⟨⟨k + 1, z, rfl, by go_num, by omega, by omega, HF⟩, by simp [intOf]; omega⟩
      · have hkb : ((k : Int) == n) = false := by simpa using hkn
        rw [hkb, Bool.false_or] at hcut hno
        by_cases hu : undB up (k : Int) n = true
        · rw [hu] at HD
          rw [hu, Bool.true_and] at hcut hno
          by_cases hyz : y = 0
          · subst hyz
            have HF := hcut rfl
            clear hcut hno hkn hu
            go_wp2_with (go_at_call 22; refine HD.out.mono ?_; rintro e w1 ⟨rfl, rfl⟩)
            exact ⟨⟨k + 1, z + 1, by go_num, by go_num, by omega, by omega, HF⟩, by simp [intOf]; omega⟩
          · have hyb : (y == 0) = false := by simpa using hyz
            have HF := hno hyb
            clear hcut hno hkn hyz hu
            go_wp2_with (go_at_call 22; refine HD.out.mono ?_; rintro e w1 ⟨rfl, rfl⟩)
            exact ⟨⟨k + 1, z, rfl, by go_num, by omega, by omega, HF⟩, by simp [intOf]; omega⟩
        · have hu' : undB up (k : Int) n = false := by simpa using hu
          rw [hu'] at HD
          have HF := hno (by rw [hu', Bool.false_and])
          clear hcut hno hkn hu hu'
          go_wp2_with (go_at_call 22; refine HD.out.mono ?_; rintro e w1 ⟨rfl, rfl⟩)
          exact ⟨⟨k + 1, z, rfl, by go_num, by omega, by omega, HF⟩, by simp [intOf]; omega⟩
    · have hkm : k = m := by omega
      subst hkm
      go_wp2_with fail
      go_ret2
      refine ⟨?_, ⟨_, _, HO.out.2.1⟩, HO.out.2.2⟩
      rw [HO.out.1]
      rfl
theorem dcan_any (h : TDS w B D r up ca) (hw : WfUp up) (hc : ca.length = up.length) (n cause : Int) (hl : up.length ≤ 1000) :
    Calls Try.prog 13 #[.pointer (some ⟨r, 0, none⟩), .int .i64 n, .int .i64 cause] w fun e w' => e = .returned (.tuple #[.int .i64 (if canE up n cause = 0 then (canN up ca n up.length : Int) else 0), .int .i64 (canE up n cause)]) ∧ TDS w' B D r up (if canE up n cause = 0 then canC up ca n cause up.length else ca) ∧ Step D D w w' := by
  by_cases hn : isB up n = true ∧ cause ≠ 0
  · have e : canE up n cause = 0 := by unfold canE; rw [if_pos hn]
    rw [e, if_pos rfl, if_pos rfl]
    exact dcan_yes h hw hc n cause hl hn.1 hn.2
  · have e : canE up n cause = 2 := by unfold canE; rw [if_neg hn]
    rw [e, if_neg (by decide), if_neg (by decide)]
    refine (dcan_no h n cause hl hn).mono ?_
    rintro e w' ⟨rfl, rfl⟩
    exact ⟨rfl, h, Step.refl _ _⟩
end
end Go.Proofs.Ytcgjpmokhpcnnaa
