/- The document's Withdraw; its calls by the line. -/
import Derived.Test.YtmmfioemnoijoaaDocT
namespace Go.Proofs.Ytmmfioemnoijoaa
open Go Go.RowKit
set_option linter.unusedVariables false
set_option maxRecDepth 20000

section
variable {w w' : World} {B r c room : Nat} {D : Nat → Prop} {A : Option Addr} {L : List (Int × It)} {sent : Int} {closed : Bool}
theorem dback_no (h : DocC w B D r A c room L closed sent) (who : Int) (hl : L.length ≤ 9000) (hr : room ≤ 64) (hw : docI room L who = -1) :
    Calls Try.prog 15 #[.pointer (some ⟨r, 0, none⟩), .int .i64 who] w fun e w' => e = .returned (.bool false) ∧ Below w.heap.size w w' := by
  have HP := Lib.hid (dat_any h who (by omega) hr)
  rw [hw] at HP
  clear h hw
  go_enter Try.func15, Try.ntmps15
  go_wp2_with fail
  refine HP.out.mono ?_; rintro e w1 ⟨rfl, hb1⟩
  have HB1 := Lib.hid hb1
  clear hb1
  go_wp2_with fail
  go_ret
  exact ⟨rfl, HB1.out⟩
set_option maxHeartbeats 4000000 in
theorem dback_yes (h : DocC w B D r A c room L closed sent) (who : Int) (hl : L.length ≤ 9000) (hr : room ≤ 64) {j : Nat} (hw : docI room L who = (j : Int)) (hj : j < L.length) (hs0 : -100000 ≤ sent) (hs : sent ≤ 100000) :
    Calls Try.prog 15 #[.pointer (some ⟨r, 0, none⟩), .int .i64 who] w fun e w' => e = .returned (.bool true) ∧ ∃ D', DocS w' B D' r room (L.eraseIdx j) closed (sent - 1) ∧ Step D D' w w' := by
  have HP := Lib.hid (dat_any h who (by omega) hr)
  rw [hw] at HP
  obtain ⟨b, of, rfl, -, hbw, -⟩ := h.rd.2 (by omega)
  have hcap := h.cap.1
  have s1 := cut_to 29 54 8 Try.underlying29 thing_elem thing_size (some ⟨b, of, none⟩) L.length c j (by omega)
  have s2 := cut_from 29 54 8 Try.underlying29 thing_elem thing_size b of L.length c (j + 1) (by omega) hcap
  obtain ⟨o', ho'⟩ : ∃ o', o' = if c = j + 1 then of else of + (j + 1) * 8 := ⟨_, rfl⟩
  simp only [← ho'] at s2
  push_cast at s2
  have hle : (L.eraseIdx j).length = L.length - 1 := by rw [List.length_eraseIdx]; simp [hj]
  have key : ∀ w1, Below w.heap.size w w1 → w1.cell? ⟨r, 0, none⟩ = some (.slice (some ⟨b, of, none⟩) L.length c) ∧
      ∃ A2 c2 w2, (Builtin.append_ #[29, 29] 29 #[.slice none 0 0, .slice (some ⟨b, of, none⟩) j c]).run Try.prog w1 = .ok (.slice A2 j c2) w2 ∧ w2.cell? ⟨r, 0, none⟩ = some (.slice (some ⟨b, of, none⟩) L.length c) ∧
      ∃ A4 c4 w4, (Builtin.append_ #[29, 29] 29 #[.slice A2 j c2, .slice (some ⟨b, o', none⟩) (L.length - (j + 1)) (c - (j + 1))]).run Try.prog w2 = .ok (.slice A4 (L.length - 1) c4) w4 ∧
        w4.cell? ⟨r, 0, none⟩ = some (.slice (some ⟨b, of, none⟩) L.length c) ∧ w4.frozen? ⟨r, 0, none⟩ = false ∧
        (w4.setCell ⟨r, 0, none⟩ (.slice A4 (L.length - 1) c4)).cell? ⟨r, 3, none⟩ = some (.int .i64 sent) ∧ (w4.setCell ⟨r, 0, none⟩ (.slice A4 (L.length - 1) c4)).frozen? ⟨r, 3, none⟩ = false ∧
        Hid (∃ D', DocS ((w4.setCell ⟨r, 0, none⟩ (.slice A4 (L.length - 1) c4)).setCell ⟨r, 3, none⟩ (.int .i64 (sent - 1))) B D' r room (L.eraseIdx j) closed (sent - 1) ∧ Step D D' w ((w4.setCell ⟨r, 0, none⟩ (.slice A4 (L.length - 1) c4)).setCell ⟨r, 3, none⟩ (.int .i64 (sent - 1)))) := by
    intro w1 hb1
    have h1 := h.below hb1
    have r1 : ReadR 0 w1 (some ⟨b, of, none⟩) j 8 ((L.take j).map ofCells) := by
      have := h1.rd.cut (i := 0) (j := j) (Nat.zero_le _) (by omega)
      rw [List.drop_zero, Nat.sub_zero, Nat.zero_mul, Nat.add_zero, ← List.map_take] at this
      exact this
    obtain ⟨V2, w2, happ, hr2, hg2, -, -⟩ := (RecW.nil w1 w.heap.size 54 8).app 29 54 _ 8 88 Try.underlying29 info_thing rfl (by decide) r1 (c := c) (fun h => by cases h) (by simp only [List.length_nil]; unfold maxLen; omega) (by simp only [List.length_nil]; omega) hb1.size
    rw [List.nil_append] at hr2
    obtain ⟨A2, c2, hV2, -⟩ := hr2.slice
    rw [List.length_map, List.length_take, Nat.min_eq_left (by omega)] at hV2
    subst hV2
    have hb2 : Below w.heap.size w w2 := hb1.grown hg2 hb1.size (fun k hk => by cases hk)
    have h2 := h.below hb2
    have r2 : ReadR 0 w2 (some ⟨b, o', none⟩) (L.length - (j + 1)) 8 ((L.drop (j + 1)).map ofCells) := by
      rcases Nat.eq_zero_or_pos (L.length - (j + 1)) with h0 | h0
      · rw [h0, List.drop_of_length_le (by omega)]
        exact ReadR.nil_ _ _ _ _
      · have := h2.rd.cut (i := j + 1) (j := L.length) (by omega) (Nat.le_refl _)
        rw [← List.map_drop, ← List.map_take, List.take_of_length_le (by simp)] at this
        rw [show o' = of + (j + 1) * 8 by rw [ho', if_neg (by omega)]]
        exact this
    obtain ⟨V4, w4, happ4, hr4, hg4, -, -⟩ := hr2.app 29 54 _ 8 88 Try.underlying29 info_thing rfl (by decide) r2 (c := c - (j + 1)) (fun h => by cases h) (by rw [List.length_map, List.length_take]; unfold maxLen; omega) (by rw [List.length_map, List.length_take]; omega) hb2.size
    have hr4' : RecW w4 w.heap.size 54 8 V4 ((L.eraseIdx j).map ofCells) := by
      rw [List.eraseIdx_eq_take_drop_succ, List.map_append]
      exact hr4
    obtain ⟨A4, c4, hV4, -⟩ := hr4'.slice
    rw [List.length_map] at hV4
    subst hV4
    have hb4 : Below w.heap.size w w4 := hb2.grown hg4 hb2.size (fun k hk => (row_lt hr2.1 hk).1)
    have h5 := h.setL hb4 hr4'
    have h6 := h5.setS (sent - 1)
    have s5 := h.stepL hb4 (.slice A4 (L.eraseIdx j).length c4)
    rw [hle] at happ4 h5 h6 s5
    have h4 := h.below hb4
    exact ⟨h1.c0, A2, c2, w2, happ, h2.c0, A4, c4, w4, happ4, h4.c0, h4.fz 0, h5.c3, h5.fz 3, Lib.hid ⟨_, ⟨A4, c4, h6⟩, s5.1.setCell (p := ⟨r, 3, none⟩) (.inl h.dr) _, s5.2⟩⟩
  have HK := Lib.hid key
  obtain ⟨n, hn⟩ : ∃ n, n = L.length := ⟨_, rfl⟩
  rw [← hn] at HK hl s1 s2 hj hcap
  clear h key hw hn hle ho'
  go_enter Try.func15, Try.ntmps15
  go_wp2_with fail
  refine HP.out.mono ?_; rintro e w1 ⟨rfl, hb1⟩
  obtain ⟨k1, A2, c2', w2, happ, k2, A4, c4, w4, happ4, t1, t2, t3, t4, HF⟩ := HK.out w1 hb1
  have HAP := Lib.hid happ
  have HAP4 := Lib.hid happ4
  clear happ happ4 hb1
  go_wp2_with (first
    | (at_builtin; refine wpList_append_run rfl (.tmp 12) (.tmp 18) 29 rfl rfl _ _ _ _ rfl rfl HAP.out ?_)
    | (at_builtin; refine wpList_append_run rfl (.tmp 21) (.tmp 28) 29 rfl rfl _ _ _ _ rfl rfl HAP4.out ?_))
  go_ret
  exact ⟨rfl, HF.out⟩

theorem DocS.below (h : DocS w B D r room L closed sent) (hb : Below w.heap.size w w') : DocS w' B D r room L closed sent := by obtain ⟨A, c, h⟩ := h; exact ⟨A, c, h.below hb⟩
theorem dSendAny (h : DocS w B D r room L closed sent) (who : Int) (x : It) (hl : L.length ≤ 9000) (hr : room ≤ 64) (hs0 : 0 ≤ sent) (hs : sent ≤ 100000) :
    Calls Try.prog 10 #[.pointer (some ⟨r, 0, none⟩), .int .i64 who, x.val] w fun e w' => e = .returned (.tuple #[.bool (sendB room L closed who), .int .i64 (sendE room L closed who)]) ∧ ∃ D', DocS w' B D' r room (sendL room L closed who x) closed (sendN room L closed who sent) ∧ Step D D' w w' := by
  have hh := h
  obtain ⟨A, c, h⟩ := h
  rcases closed with _ | _
  · by_cases hw : 0 ≤ offI room L who
    · have e1 : sendE room L false who = 18 := by simp [sendE, hw]
      refine (dsend_busy h who x hl hr hw).mono ?_
      rintro e w' ⟨rfl, hb⟩
      rw [show sendB room L false who = false by simp [sendB, e1], show sendL room L false who x = L by simp [sendL, e1], show sendN room L false who sent = sent by simp [sendN, e1], e1]
      exact ⟨rfl, D, hh.below hb, Moved.of_below hb D, fun k hk => .inl hk⟩
    · have e1 : sendE room L false who = 0 := by simp [sendE, hw]
      rw [show sendL room L false who x = L ++ [(who, x)] by simp [sendL, e1], show sendN room L false who sent = sent + 1 by simp [sendN, e1], show sendB room L false who = decide (L.length < room) by simp [sendB, e1], e1]
      exact dsend_yes h who x hl hr hs0 hs hw
  · have e1 : sendE room L true who = 17 := by simp [sendE]
    refine (dsend_closed h who x).mono ?_
    rintro e w' ⟨rfl, hb⟩
    rw [show sendB room L true who = false by simp [sendB, e1], show sendL room L true who x = L by simp [sendL, e1], show sendN room L true who sent = sent by simp [sendN, e1], e1]
    exact ⟨rfl, D, hh.below hb, Moved.of_below hb D, fun k hk => .inl hk⟩
theorem dTakeAny (h : DocS w B D r room L closed sent) (hl : L.length ≤ 9000) :
    Calls Try.prog 12 #[.pointer (some ⟨r, 0, none⟩)] w fun e w' => e = .returned (.tuple #[(takeX L).val, .int .i64 (takeE L closed)]) ∧ ∃ D', DocS w' B D' r room L.tail closed sent ∧ Step D D' w w' := by
  have hh := h
  obtain ⟨A, c, h⟩ := h
  rcases L with _ | ⟨o, R⟩
  · refine (dtake_none h).mono ?_
    rintro e w' ⟨rfl, hb⟩
    exact ⟨rfl, D, hh.below hb, Moved.of_below hb D, fun k hk => .inl hk⟩
  · refine (dtake_some h (by simp only [List.length_cons] at hl; omega)).mono ?_
    rintro e w' ⟨rfl, hd, hm⟩
    exact ⟨rfl, D, hd, hm, fun k hk => .inl hk⟩
theorem dWithdrawAny (h : DocS w B D r room L closed sent) (who : Int) (hl : L.length ≤ 9000) (hr : room ≤ 64) (hs0 : 0 ≤ sent) (hs : sent ≤ 100000) :
    Calls Try.prog 15 #[.pointer (some ⟨r, 0, none⟩), .int .i64 who] w fun e w' => e = .returned (.bool (decide (0 ≤ offI room L who))) ∧ ∃ D', DocS w' B D' r room (backL room L who) closed (backN room L who sent) ∧ Step D D' w w' := by
  have hh := h
  obtain ⟨A, c, h⟩ := h
  rcases docI_cases room L who with ⟨h1, h2⟩ | ⟨j, h1, h2, h3⟩
  · refine (dback_no h who hl hr h1).mono ?_
    rintro e w' ⟨rfl, hb⟩
    simp only [backL, backN, h2]
    exact ⟨rfl, D, hh.below hb, Moved.of_below hb D, fun k hk => .inl hk⟩
  · refine (dback_yes h who hl hr h2 h1 (by omega) hs).mono ?_
    rintro e w' ⟨rfl, D', hd, hs'⟩
    have e1 : backL room L who = L.eraseIdx (room + j) := by simp [backL, h3]
    have e2 : backN room L who sent = sent - 1 := by simp [backN, h3]
    rw [e1, e2]
    exact ⟨by simp [h3], D', hd, hs'⟩
theorem dCloseAny (h : DocS w B D r room L closed sent) (hl : L.length ≤ 9000) (hr : room ≤ 64) :
    Calls Try.prog 17 #[.pointer (some ⟨r, 0, none⟩)] w fun e w' => e = .returned (.int .i64 (shutE room L closed)) ∧ ∃ D', DocS w' B D' r room L (closed || decide (shutE room L closed = 0)) sent ∧ Step D D' w w' := by
  obtain ⟨A, c, h⟩ := h
  refine (dclose_any h (by omega) hr).mono ?_
  rintro e w' ⟨rfl, hd, hm⟩
  exact ⟨rfl, D, ⟨A, c, hd⟩, hm, fun k hk => .inl hk⟩
theorem dWaitsAny (h : DocS w B D r room L closed sent) (who : Int) (hl : L.length ≤ 9000) (hr : room ≤ 64) :
    Calls Try.prog 20 #[.pointer (some ⟨r, 0, none⟩), .int .i64 who] w fun e w' => e = .returned (.bool (decide (0 ≤ offI room L who))) ∧ Below w.heap.size w w' := by
  obtain ⟨A, c, h⟩ := h
  exact dwaits_any h who (by omega) hr
end
end Go.Proofs.Ytmmfioemnoijoaa
