/- The document's tree: the nodes below one. -/
import Derived.Test.YtcgjpmokhpcnnaaTreN
namespace Go.Proofs.Ytcgjpmokhpcnnaa
open Go Go.RowKit
set_option linter.unusedVariables false
set_option maxRecDepth 20000
section
variable {w w' : World} {B r : Nat} {D : Nat → Prop} {VU VC : Value} {up ca : List Int}
theorem belL_length (up : List Int) (n : Int) (m : Nat) : (belL up n m).length ≤ m := by
  unfold belL
  rw [List.length_map]
  exact Nat.le_trans (List.length_filter_le _ _) (by simp)
set_option maxHeartbeats 2000000 in
theorem dbelow_any (h : TDS w B D r up ca) (hw : WfUp up) (n : Int) (hl : up.length ≤ 1000) :
    Calls Try.prog 17 #[.pointer (some ⟨r, 0, none⟩), .int .i64 n] w fun e w' => ∃ V, e = .returned V ∧ RecW w' w.heap.size 3 1 V (nums1 (belL up n up.length)) ∧ Below w.heap.size w w' := by
  obtain ⟨VU, VC, h⟩ := h
  obtain ⟨A, c, hV, -, -, -⟩ := h.ru.slice
  rw [nums1_length] at hV
  subst hV
  obtain ⟨m, hm⟩ : ∃ m, m = up.length := ⟨_, rfl⟩
  have HH := Lib.hid h
  have HW := Lib.hid hw
  have HM := Lib.hid hm
  rw [← hm] at hl ⊢
  clear h hw hm
  go_enter Try.func17, Try.ntmps17
  go_wp2_with fail
  go_loopw [5, 6] (fun vo vk wr => ∃ (k n0 c0 : Nat) (A0 : Option Addr), vo = .slice A0 n0 c0 ∧ vk = .int .i64 (k : Int) ∧ k ≤ m ∧ n0 ≤ k ∧ Hid (RecW wr w.heap.size 3 1 (.slice A0 n0 c0) (nums1 (belL up n k)) ∧ Below w.heap.size w wr)) (fun _ vk _ => m - (intOf vk).toNat)
  case atStart => exact ⟨0, 0, 0, none, rfl, rfl, Nat.zero_le _, Nat.le_refl _, Lib.hid ⟨RecW.nil _ _ _ _, Below.refl _ _⟩⟩
  case round =>
    obtain ⟨k, n0, c0, A0, rfl, rfl, hk, hn0, HO⟩ := hrel
    have c1 := (HH.out.below HO.out.2).c0
    rw [← HM.out] at c1
    by_cases hl' : k < m
    · have HI := Lib.hid (dis_any (HH.out.below HO.out.2) n (by rw [← HM.out]; omega))
      have HD := Lib.hid (dunder_any (HH.out.below HO.out.2) HW.out (k : Int) n (by omega) (by rw [← HM.out]; omega) (by rw [← HM.out]; omega))
      have hgr := HO.out
      obtain ⟨hr, hb⟩ := hgr
      have hlen := belL_length up n k
      by_cases hi : isB up n = true
      · rw [hi] at HI
        by_cases hu : undB up (k : Int) n = true
        · rw [hu] at HD
          have hn0' : (belL up n k).length = n0 := by
            obtain ⟨_, _, e, _⟩ := hr.slice
            rw [nums1_length] at e
            injection e with _ e _
            exact e.symm
          obtain ⟨A1, q1, w1, app1, r1, g1, hat1⟩ := grow1 hr (k : Int) (by omega) hb.size
          rw [hn0'] at app1 r1 hat1
          have HA := Lib.hid app1
          have hbl : belL up n (k + 1) = belL up n k ++ [(k : Int)] := by rw [belL_succ]; simp [hi, hu]
          have HF : Hid (RecW w1 w.heap.size 3 1 (.slice A1 (n0 + 1) q1) (nums1 (belL up n (k + 1))) ∧ Below w.heap.size w w1) := Lib.hid ⟨by rw [hbl]; exact r1, (hb.alloc hb.size _).grown g1 (hb.alloc hb.size _).size fun b hb' => (row_lt hr.1 hb').1⟩
          clear app1 r1 g1 hat1 hr hb hi hu hbl hlen hn0'
          go_wp2_with (first | (go_at_call 21; refine HI.out.mono ?_; rintro e w1 ⟨rfl, rfl⟩) | (go_at_call 22; refine HD.out.mono ?_; rintro e w1 ⟨rfl, rfl⟩) | (at_builtin; refine wpList_append_run rfl (.tmp 25) (.tmp 27) 38 rfl rfl _ _ _ _ rfl rfl HA.out ?_))
          exact ⟨⟨k + 1, n0 + 1, q1, A1, rfl, by go_num, by omega, by omega, HF⟩, by simp [intOf]; omega⟩
        · have hu' : undB up (k : Int) n = false := by simpa using hu
          rw [hu'] at HD
          have hbl : belL up n (k + 1) = belL up n k := by rw [belL_succ]; simp [hu']
          have HF : Hid (RecW wr w.heap.size 3 1 (.slice A0 n0 c0) (nums1 (belL up n (k + 1))) ∧ Below w.heap.size w wr) := Lib.hid ⟨by rw [hbl]; exact hr, hb⟩
          clear hr hb hi hu hu' hbl hlen
          go_wp2_with (first | (go_at_call 21; refine HI.out.mono ?_; rintro e w1 ⟨rfl, rfl⟩) | (go_at_call 22; refine HD.out.mono ?_; rintro e w1 ⟨rfl, rfl⟩))
          exact ⟨⟨k + 1, n0, c0, A0, rfl, by go_num, by omega, by omega, HF⟩, by simp [intOf]; omega⟩
      · have hi' : isB up n = false := by simpa using hi
        rw [hi'] at HI
        have hbl : belL up n (k + 1) = belL up n k := by rw [belL_succ]; simp [hi']
        have HF : Hid (RecW wr w.heap.size 3 1 (.slice A0 n0 c0) (nums1 (belL up n (k + 1))) ∧ Below w.heap.size w wr) := Lib.hid ⟨by rw [hbl]; exact hr, hb⟩
        clear hr hb hi hi' hbl hlen HD
        go_wp2_with (go_at_call 21; refine HI.out.mono ?_; rintro e w1 ⟨rfl, rfl⟩)
        exact ⟨⟨k + 1, n0, c0, A0, rfl, by go_num, by omega, by omega, HF⟩, by simp [intOf]; omega⟩
    · have hkm : k = m := by omega
      subst hkm
      go_wp2_with fail
      go_ret
      exact ⟨_, rfl, HO.out.1, HO.out.2⟩
end
end Go.Proofs.Ytcgjpmokhpcnnaa
