/- Withdraw, New; a pipe as one line. -/
import Derived.Test.YtmmfioemnoijoaaPipU
namespace Go.Proofs.Ytmmfioemnoijoaa
open Go Go.RowKit
set_option linter.unusedVariables false
set_option maxRecDepth 20000

theorem eraseIdx_mapW {α β : Type} (f : α → β) (l : List α) (j : Nat) : (l.eraseIdx j).map f = (l.map f).eraseIdx j := by
  rw [List.eraseIdx_eq_take_drop_succ, List.eraseIdx_eq_take_drop_succ, List.map_append, List.map_take, List.map_drop]
section
variable {w w' : World} {B g room : Nat} {F : Nat → Prop} {IV OV : Value} {ins : List It} {ofs : List (Int × It)} {sent : Int} {closed : Bool}
theorem withdraw_no (h : PipeC w B F g IV OV room ins ofs sent closed) (who : Int) (hn : ofs.length ≤ 100000) (hw : atI ofs who 0 = -1) :
    Calls Try.prog 14 #[.pointer (some ⟨g, 0, none⟩), .int .i64 who] w fun e w' => e = .returned (.bool false) ∧ Below w.heap.size w w' := by
  have HP := Lib.hid (place_any h who hn)
  rw [hw] at HP
  clear h hw
  go_enter Try.func14, Try.ntmps14
  go_wp2_with fail
  refine HP.out.mono ?_; rintro e w1 ⟨rfl, hb1⟩
  have HB1 := Lib.hid hb1
  clear hb1
  go_wp2_with fail
  go_ret
  exact ⟨rfl, HB1.out⟩
set_option maxHeartbeats 2000000 in
theorem withdraw_yes (h : PipeC w B F g IV OV room ins ofs sent closed) (who : Int) (hn : ofs.length ≤ 100000) {j : Nat} (hw : atI ofs who 0 = (j : Int)) (hj : j < ofs.length) (hs0 : -1000000 ≤ sent) (hs : sent ≤ 1000000) :
    Calls Try.prog 14 #[.pointer (some ⟨g, 0, none⟩), .int .i64 who] w fun e w' => e = .returned (.bool true) ∧ ∃ F', PipeS w' B F' g room ins (ofs.eraseIdx j) (sent - 1) closed ∧ Step F F' w w' := by
  have HP := Lib.hid (place_any h who hn)
  rw [hw] at HP
  have key : ∀ w1, Below w.heap.size w w1 → w1.cell? ⟨g, 2, none⟩ = some OV ∧
      Hid (Calls Try.prog 28 #[OV, .int .i64 (j : Int), .int .i64 ((j : Int) + 1)] w1 fun e w4 => ∃ A n c, e = .returned (.slice A n c) ∧ w4.cell? ⟨g, 2, none⟩ = some OV ∧ w4.frozen? ⟨g, 2, none⟩ = false ∧
        (w4.setCell ⟨g, 2, none⟩ (.slice A n c)).cell? ⟨g, 3, none⟩ = some (.int .i64 sent) ∧ (w4.setCell ⟨g, 2, none⟩ (.slice A n c)).frozen? ⟨g, 3, none⟩ = false ∧
        Hid (∃ F', PipeS ((w4.setCell ⟨g, 2, none⟩ (.slice A n c)).setCell ⟨g, 3, none⟩ (.int .i64 (sent - 1))) B F' g room ins (ofs.eraseIdx j) (sent - 1) closed ∧ Step F F' w ((w4.setCell ⟨g, 2, none⟩ (.slice A n c)).setCell ⟨g, 3, none⟩ (.int .i64 (sent - 1))))) := by
    intro w1 hb
    have hp := h.below hb
    refine ⟨hp.c2, Lib.hid ((del_offer hp.ro (i := j) (by simpa using hj) (by simp; omega)).mono ?_)⟩
    rintro e w4 ⟨V', rfl, hr4, hg4, hat⟩
    have hr4' : RecW w4 0 64 8 V' ((ofs.eraseIdx j).map ofCells) := by rw [eraseIdx_mapW]; exact hr4
    obtain ⟨A4, c4, hV4, -⟩ := hr4'.slice
    subst hV4
    have hgg := (hg4.block g hp.lt (fun e => hp.ne2 e.symm)).trans hp.blk
    have hp5 := hp.setO _ (ofs.eraseIdx j) hg4 hr4' fun k hk => .inl (by rw [← hat]; exact hk)
    have s1 : Step F F w w1 := ⟨Moved.of_below hb F, fun k hk => .inl hk⟩
    have s2 := s1.trans (Step.of_set (j := 2) (v := .slice A4 ((ofs.eraseIdx j).map ofCells).length c4) hg4 (fun k hk => .inl (hp.fo k hk)) hp.fg)
    exact ⟨A4, _, c4, rfl, cell_of_row w4 g 2 _ _ (0, 0) hgg, by simp [World.frozen?, hgg], hp5.c3, hp5.fz 3, Lib.hid ⟨_, ⟨_, _, hp5.setS (sent - 1)⟩, s2.1.setCell (p := ⟨g, 3, none⟩) (.inl h.fg) _, s2.2⟩⟩
  have HK := Lib.hid key
  obtain ⟨D, d, hU, -, -, -⟩ := h.ro.slice
  obtain ⟨q, hq⟩ : ∃ q, q = (ofs.map ofCells).length := ⟨_, rfl⟩
  rw [← hq] at hU
  subst hU
  clear h key hw hq
  go_enter Try.func14, Try.ntmps14
  go_wp2_with fail
  refine HP.out.mono ?_; rintro e w1 ⟨rfl, hb1⟩
  obtain ⟨k1, HD⟩ := HK.out w1 hb1
  clear hb1
  go_wp2_with (go_at_call 28; (with_reducible refine HD.out.mono ?_); rintro e w4 ⟨A4, n4, c4, rfl, u1, u2, u3, u4, HF⟩)
  go_ret
  exact ⟨rfl, HF.out⟩
end
theorem new_no (room : Int) (h : room < 0 ∨ 64 < room) (w : World) :
    Calls Try.prog 8 #[.int .i64 room] w fun e w' => e = .returned (.tuple #[.pointer none, .int .i64 2]) ∧ w = w' := by
  rcases h with h | h
  · have hd : decide (room < 0) = true := by simpa using h
    go_enter Try.func8, Try.ntmps8
    go_wp2_with fail
    go_ret2
    exact ⟨rfl, rfl⟩
  · have hd : decide (room < 0) = false := by simp; omega
    have hd2 : decide (64 < room) = true := by simpa using h
    go_enter Try.func8, Try.ntmps8
    go_wp2_with fail
    go_ret2
    exact ⟨rfl, rfl⟩
/-- The pipe that lies in block g, as one line: so many of it are in it, the others offered. -/
def LineP (w : World) (B : Nat) (F : Nat → Prop) (g room : Nat) (L : List (Int × It)) (sent : Int) (closed : Bool) : Prop := PipeS w B F g room ((L.take room).map Prod.snd) (L.drop room) sent closed
theorem new_yes (room : Nat) (h : room ≤ 64) (w : World) :
    Calls Try.prog 8 #[.int .i64 (room : Int)] w fun e w' => ∃ F g, e = .returned (.tuple #[.pointer (some ⟨g, 0, none⟩), .int .i64 0]) ∧ LineP w' w.heap.size F g room [] 0 false ∧ Below w.heap.size w w' := by
  have hd : decide ((room : Int) < 0) = false := by simp
  have hd2 : decide (64 < (room : Int)) = false := by simp; omega
  obtain ⟨W1, hW1⟩ : ∃ W1, W1 = w.alloc (.cells #[.int .i64 (room : Int), .slice none 0 0, .slice none 0 0, .int .i64 0, .bool false] 62) := ⟨_, rfl⟩
  have hb : Below w.heap.size w W1 := by rw [hW1]; exact (Below.refl _ _).alloc (Nat.le_refl _) _
  have hblk : W1.heap[w.heap.size]? = some (.cells #[.int .i64 (room : Int), .slice none 0 0, .slice none 0 0, .int .i64 0, .bool false] 62 (0, 0)) := by rw [hW1]; exact heap_alloc_new w _
  have hp : LineP W1 w.heap.size (fun k => k = w.heap.size) w.heap.size room [] 0 false := by
    refine ⟨.slice none 0 0, .slice none 0 0, ?_, rfl, (fun k hk => nomatch hk), (fun k hk => nomatch hk), hblk, ?_, ?_⟩
    · rintro k rfl
      exact ⟨Nat.le_refl _, (Array.getElem?_eq_some_iff.1 hblk).1⟩
    · rw [List.take_nil]; exact RecW.nil _ _ _ _
    · rw [List.drop_nil]; exact RecW.nil _ _ _ _
  have HF := Lib.hid (And.intro hp hb)
  have HW1 := Lib.hid hW1
  clear hW1 hb hblk hp
  go_enter Try.func8, Try.ntmps8
  go_wp2_with fail
  rw [← HW1.out]
  go_ret2
  exact ⟨_, _, rfl, HF.out⟩

section
variable {w w' : World} {B g room : Nat} {F : Nat → Prop} {L : List (Int × It)} {sent : Int} {closed : Bool}
theorem LineP.low (h : LineP w B F g room L sent closed) {k : Nat} (hk : F k) : B ≤ k ∧ k < w.heap.size := by obtain ⟨IV, OV, hp⟩ := h; exact hp.low k hk
theorem LineP.fg (h : LineP w B F g room L sent closed) : F g := by obtain ⟨IV, OV, hp⟩ := h; exact hp.fg
theorem LineP.below (h : LineP w B F g room L sent closed) (hb : Below w.heap.size w w') : LineP w' B F g room L sent closed := by obtain ⟨IV, OV, hp⟩ := h; exact ⟨IV, OV, hp.below hb⟩
theorem LineP.moved (h : LineP w B F g room L sent closed) {F2 : Nat → Prop} (hm : Moved F2 w w') (hd : ∀ k, F k → ¬ F2 k) : LineP w' B F g room L sent closed := by obtain ⟨IV, OV, hp⟩ := h; exact ⟨IV, OV, hp.moved hm hd⟩

/-- Where a sender's offer stands in the line, behind the first so many; below 0: it has none. -/
def offI (room : Nat) (L : List (Int × It)) (who : Int) : Int := atI (L.drop room) who 0
/-- What Send answers. -/
def sendE (room : Nat) (L : List (Int × It)) (closed : Bool) (who : Int) : Int := if closed = true then 17 else if 0 ≤ offI room L who then 18 else 0
def sendB (room : Nat) (L : List (Int × It)) (closed : Bool) (who : Int) : Bool := decide (sendE room L closed who = 0) && decide (L.length < room)
def sendL (room : Nat) (L : List (Int × It)) (closed : Bool) (who : Int) (x : It) : List (Int × It) := if sendE room L closed who = 0 then L ++ [(who, x)] else L
def sendN (room : Nat) (L : List (Int × It)) (closed : Bool) (who : Int) (n : Int) : Int := if sendE room L closed who = 0 then n + 1 else n
theorem sendAny (h : LineP w B F g room L sent closed) (who : Int) (x : It) (hl : L.length ≤ 9000) (hr : room ≤ 64) (hs0 : 0 ≤ sent) (hs : sent ≤ 100000) :
    Calls Try.prog 9 #[.pointer (some ⟨g, 0, none⟩), .int .i64 who, x.val] w fun e w' => e = .returned (.tuple #[.bool (sendB room L closed who), .int .i64 (sendE room L closed who)]) ∧ ∃ F', LineP w' B F' g room (sendL room L closed who x) (sendN room L closed who sent) closed ∧ Step F F' w w' := by
  have hll : (L.drop room).length ≤ 100000 := by rw [List.length_drop]; omega
  rcases closed with _ | _
  · by_cases hw : 0 ≤ offI room L who
    · have e1 : sendE room L false who = 18 := by simp [sendE, hw]
      obtain ⟨IV, OV, hp⟩ := h
      refine (send_busy hp who x hll hw).mono ?_
      rintro e w' ⟨rfl, hb⟩
      rw [show sendB room L false who = false by simp [sendB, e1], show sendL room L false who x = L by simp [sendL, e1], show sendN room L false who sent = sent by simp [sendN, e1], e1]
      exact ⟨rfl, F, ⟨IV, OV, hp.below hb⟩, Moved.of_below hb F, fun k hk => .inl hk⟩
    · have e1 : sendE room L false who = 0 := by simp [sendE, hw]
      rw [show sendL room L false who x = L ++ [(who, x)] by simp [sendL, e1], show sendN room L false who sent = sent + 1 by simp [sendN, e1]]
      obtain ⟨IV, OV, hp⟩ := h
      by_cases hlt : L.length < room
      · rw [show sendB room L false who = true by simp [sendB, e1, hlt], e1]
        refine (send_in hp who x hll (by simp; omega) hr hs0 (by omega) hw).mono ?_
        rintro e w' ⟨rfl, F', hp', hs'⟩
        refine ⟨rfl, F', ?_, hs'⟩
        show PipeS _ _ _ _ _ _ _ _ _
        have t1 : (L ++ [(who, x)]).take room = L ++ [(who, x)] := List.take_of_length_le (by simp; omega)
        have t2 : (L ++ [(who, x)]).drop room = [] := List.drop_of_length_le (by simp; omega)
        have t3 : L.take room = L := List.take_of_length_le (by omega)
        have t4 : L.drop room = [] := List.drop_of_length_le (by omega)
        rw [t3, t4] at hp'
        rw [t1, t2, List.map_append]
        exact hp'
      · rw [show sendB room L false who = false by simp [sendB, hlt], e1]
        refine (send_off hp who x hll (by simp; omega) hr hs0 (by omega) hw).mono ?_
        rintro e w' ⟨rfl, F', hp', hs'⟩
        refine ⟨rfl, F', ?_, hs'⟩
        show PipeS _ _ _ _ _ _ _ _ _
        rw [List.take_append_of_le_length (by omega), List.drop_append_of_le_length (by omega)]
        exact hp'
  · have e1 : sendE room L true who = 17 := by simp [sendE]
    obtain ⟨IV, OV, hp⟩ := h
    refine (send_closed hp who x).mono ?_
    rintro e w' ⟨rfl, hb⟩
    rw [show sendB room L true who = false by simp [sendB, e1], show sendL room L true who x = L by simp [sendL, e1], show sendN room L true who sent = sent by simp [sendN, e1], e1]
    exact ⟨rfl, F, ⟨IV, OV, hp.below hb⟩, Moved.of_below hb F, fun k hk => .inl hk⟩
/-- What Take answers. -/
def takeX (L : List (Int × It)) : It := match L with
  | [] => zeroIt
  | o :: _ => o.2
def takeE (L : List (Int × It)) (closed : Bool) : Int := match L with
  | [] => if closed = true then 17 else 19
  | _ :: _ => 0
theorem takeAny (h : LineP w B F g room L sent closed) (hl : L.length ≤ 9000) :
    Calls Try.prog 11 #[.pointer (some ⟨g, 0, none⟩)] w fun e w' => e = .returned (.tuple #[(takeX L).val, .int .i64 (takeE L closed)]) ∧ ∃ F', LineP w' B F' g room L.tail sent closed ∧ Step F F' w w' := by
  rcases L with _ | ⟨o, r⟩
  · have hh := h
    obtain ⟨IV, OV, hp⟩ := h
    rw [List.take_nil, List.drop_nil] at hp
    refine (take_none hp).mono ?_
    rintro e w' ⟨rfl, hb⟩
    exact ⟨rfl, F, hh.below hb, Moved.of_below hb F, fun k hk => .inl hk⟩
  · obtain ⟨IV, OV, hp⟩ := h
    have hx : ((o :: r).take room).map Prod.snd ++ (((o :: r).drop room).take 1).map Prod.snd = o.2 :: (r.take room).map Prod.snd := by
      rw [← List.map_append, ← List.map_cons, ← List.take_succ_cons]
      congr 1
      rw [List.take_add]
    refine (take_some hp hx (by rw [List.length_drop]; omega) (by rw [List.length_map, List.length_take]; omega)).mono ?_
    rintro e w' ⟨rfl, F', hp', hs'⟩
    refine ⟨rfl, F', ?_, hs'⟩
    rw [List.drop_drop, List.drop_succ_cons] at hp'
    exact hp'
def backL (room : Nat) (L : List (Int × It)) (who : Int) : List (Int × It) := if 0 ≤ offI room L who then L.eraseIdx (room + (offI room L who).toNat) else L
def backN (room : Nat) (L : List (Int × It)) (who : Int) (n : Int) : Int := if 0 ≤ offI room L who then n - 1 else n
theorem withdrawAny (h : LineP w B F g room L sent closed) (who : Int) (hl : L.length ≤ 9000) (hs0 : 0 ≤ sent) (hs : sent ≤ 100000) :
    Calls Try.prog 14 #[.pointer (some ⟨g, 0, none⟩), .int .i64 who] w fun e w' => e = .returned (.bool (decide (0 ≤ offI room L who))) ∧ ∃ F', LineP w' B F' g room (backL room L who) (backN room L who sent) closed ∧ Step F F' w w' := by
  have hll : (L.drop room).length ≤ 100000 := by rw [List.length_drop]; omega
  have hh := h
  obtain ⟨IV, OV, hp⟩ := h
  rcases atI_cases who (L.drop room) 0 with ⟨h1, _⟩ | ⟨j, h1, h2, _⟩
  · have e0 : offI room L who = -1 := h1
    refine (withdraw_no hp who hll h1).mono ?_
    rintro e w' ⟨rfl, hb⟩
    simp only [backL, backN, e0]
    exact ⟨rfl, F, hh.below hb, Moved.of_below hb F, fun k hk => .inl hk⟩
  · have e0 : offI room L who = (j : Int) := by rw [← Nat.zero_add j]; exact h1
    refine (withdraw_yes hp who hll e0 h2 (by omega) (by omega)).mono ?_
    rintro e w' ⟨rfl, F', hp', hs'⟩
    have e1 : backL room L who = L.eraseIdx (room + j) := by simp [backL, e0]
    have e2 : backN room L who sent = sent - 1 := by simp [backN, e0]
    rw [e1, e2]
    refine ⟨by simp [e0], F', ?_, hs'⟩
    rw [List.length_drop] at h2
    have t1 : (L.eraseIdx (room + j)).take room = L.take room := by
      rw [List.eraseIdx_eq_take_drop_succ, List.take_append_of_le_length (by rw [List.length_take]; omega), List.take_take, Nat.min_eq_left (by omega)]
    have t2 : (L.eraseIdx (room + j)).drop room = (L.drop room).eraseIdx j := by
      rw [List.eraseIdx_eq_take_drop_succ, List.eraseIdx_eq_take_drop_succ, List.drop_append_of_le_length (by rw [List.length_take]; omega), List.drop_take, List.drop_drop]
      congr 2
      omega
    show PipeS _ _ _ _ _ _ _ _ _
    rw [t1, t2]
    exact hp'
def shutE (room : Nat) (L : List (Int × It)) (closed : Bool) : Int := if closed = true then 17 else if room < L.length then 18 else 0
theorem shutAny (h : LineP w B F g room L sent closed) (hl : L.length ≤ 9000) :
    Calls Try.prog 16 #[.pointer (some ⟨g, 0, none⟩)] w fun e w' => e = .returned (.int .i64 (shutE room L closed)) ∧ LineP w' B F g room L sent (closed || decide (shutE room L closed = 0)) ∧ Moved F w w' := by
  obtain ⟨IV, OV, hp⟩ := h
  have e0 : closeE (L.drop room) closed = shutE room L closed := by
    unfold closeE shutE
    rw [List.length_drop]
    by_cases h1 : room < L.length
    · rw [if_pos (show 0 < L.length - room by omega), if_pos h1]
    · rw [if_neg (show ¬ 0 < L.length - room by omega), if_neg h1]
  have := close_any hp (by rw [List.length_drop]; omega)
  rw [e0] at this
  refine this.mono ?_
  rintro e w' ⟨rfl, hp', hs'⟩
  exact ⟨rfl, ⟨IV, OV, hp'⟩, hs'⟩
theorem waitsAny (h : LineP w B F g room L sent closed) (who : Int) (hl : L.length ≤ 9000) :
    Calls Try.prog 19 #[.pointer (some ⟨g, 0, none⟩), .int .i64 who] w fun e w' => e = .returned (.bool (decide (0 ≤ offI room L who))) ∧ Below w.heap.size w w' := by
  obtain ⟨IV, OV, hp⟩ := h
  exact waits_any hp who (by rw [List.length_drop]; omega)
theorem closedAny (h : LineP w B F g room L sent closed) :
    Calls Try.prog 21 #[.pointer (some ⟨g, 0, none⟩)] w fun e w' => e = .returned (.bool closed) ∧ w = w' := by
  obtain ⟨IV, OV, hp⟩ := h
  exact closed_any hp
theorem sentAny (h : LineP w B F g room L sent closed) :
    Calls Try.prog 22 #[.pointer (some ⟨g, 0, none⟩)] w fun e w' => e = .returned (.int .i64 sent) ∧ w = w' := by
  obtain ⟨IV, OV, hp⟩ := h
  exact sent_any hp
theorem readyAny (h : LineP w B F g room L sent closed) (hl : L.length ≤ 9000) :
    Calls Try.prog 23 #[.pointer (some ⟨g, 0, none⟩)] w fun e w' => e = .returned (.bool (closed || decide (0 < L.length))) ∧ ∃ q, w' = w.drewN q := by
  obtain ⟨IV, OV, hp⟩ := h
  have := ready_any hp (by rw [List.length_drop]; omega) (by rw [List.length_map, List.length_take]; omega)
  rw [show ((L.take room).map Prod.snd).length + (L.drop room).length = L.length by rw [List.length_map, List.length_take, List.length_drop]; omega] at this
  exact this
end
end Go.Proofs.Ytmmfioemnoijoaa
