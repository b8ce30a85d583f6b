/- The document's pool: Turn, New; Ints. -/
import Derived.Test.YtgjmgbpphfccaaaRFun2
namespace Go.Proofs.Ytgjmgbpphfccaaa
open Go Go.RowKit
set_option linter.unusedVariables false

section
variable {w : World} {B g size : Nat} {F : Nat → Prop} {HV BV LV : Value} {os : List (List Int)} {hs ln : List Nat}
theorem rturn_no (h : RefC w B F g HV BV LV size os hs ln) (i t : Int) (hn : 0 < hs.length ∧ hs.length ≤ 64) (h0 : heldL hs i = 0) :
    Calls Try.prog 19 #[.pointer (some ⟨g, 0, none⟩), .int .i64 i, .int .i64 t] w fun e w' => e = .returned (.int .i64 2) ∧ w = w' := by
  have HH := Lib.hid (is_any h i hn)
  rw [h0, show decide (0 < 0) = false by decide] at HH
  clear h h0 hn
  go_enter Try.func19, Try.ntmps19
  go_wp2_with fail
  refine HH.out.mono ?_; rintro e w' ⟨rfl, rfl⟩
  go_wp2_with fail
  go_ret
  exact ⟨rfl, rfl⟩
set_option maxHeartbeats 1000000 in
theorem rturn_hold (h : RefC w B F g HV BV LV size os hs ln) (i : Nat) (hn : hs.length ≤ 64) (hi : i < hs.length) (h0 : 0 < hs.getD i 0) (hb : hs.getD i 0 ≤ 1000000) :
    Calls Try.prog 19 #[.pointer (some ⟨g, 0, none⟩), .int .i64 (i : Int), .int .i64 1] w fun e w' => e = .returned (.int .i64 0) ∧ RefC w' B F g HV BV LV size os (hs.set i (hs.getD i 0 + 1)) ln ∧ Moved F w w' := by
  have HH := Lib.hid (is_yes h i hn hi h0)
  obtain ⟨gh, ch, gt, ct, rfl, rfl, h1, h2, h3, h4, hH, hT, f1, f2, hFh, hFt⟩ := h.rows (by omega)
  have c0 := h.c0
  have k2 := hH i hi
  have k3 := f1 i
  have hp := h.setH i (hs.getD i 0 + 1)
  have he : ((hs.getD i 0 + 1 : Nat) : Int) = (hs.getD i 0 : Int) + 1 := by omega
  have d1 := hp.c0
  rw [he] at hp d1
  have HS : Hid (RefC (w.setCell ⟨gh, i, none⟩ (.int .i64 ((hs.getD i 0 : Int) + 1))).drew B F g (.slice (some ⟨gh, 0, none⟩) hs.length ch) (.slice (some ⟨gt, 0, none⟩) hs.length ct) LV size os (hs.set i (hs.getD i 0 + 1)) ln) := Lib.hid (hp.keep (fun _ _ => rfl) (Nat.le_refl _))
  have HM : Hid (Moved F w (w.setCell ⟨gh, i, none⟩ (.int .i64 ((hs.getD i 0 : Int) + 1))).drew) := Lib.hid (((Moved.refl F w).setCell (p := ⟨gh, i, none⟩) (.inl hFh) _).drew)
  obtain ⟨x, hx⟩ : ∃ x, x = hs.getD i 0 := ⟨_, rfl⟩
  rw [← hx] at k2 HS HM h0 hb d1 ⊢
  clear h hH hT f1 f2 hp he hx hFh hFt
  have hne : ((x : Int) + 1 == 0) = false := by simp; omega
  go_enter Try.func19, Try.ntmps19
  go_wp2_with fail
  refine HH.out.mono ?_; rintro e w' ⟨rfl, rfl⟩
  go_wp2_with fail
  go_region
  all_goals go_wp2_with fail
  all_goals go_ret
  all_goals exact ⟨rfl, HS.out, HM.out⟩
set_option maxHeartbeats 1000000 in
theorem rturn_less (h : RefC w B F g HV BV LV size os hs ln) (i : Nat) (hn : hs.length ≤ 64) (hi : i < hs.length) (h0 : 1 < hs.getD i 0) (hb : hs.getD i 0 ≤ 1000000) :
    Calls Try.prog 19 #[.pointer (some ⟨g, 0, none⟩), .int .i64 (i : Int), .int .i64 (-1)] w fun e w' => e = .returned (.int .i64 0) ∧ RefC w' B F g HV BV LV size os (hs.set i (hs.getD i 0 - 1)) ln ∧ Moved F w w' := by
  have HH := Lib.hid (is_yes h i hn hi (by omega))
  obtain ⟨gh, ch, gt, ct, rfl, rfl, h1, h2, h3, h4, hH, hT, f1, f2, hFh, hFt⟩ := h.rows (by omega)
  have c0 := h.c0
  have k2 := hH i hi
  have k3 := f1 i
  have hp := h.setH i (hs.getD i 0 - 1)
  have he : ((hs.getD i 0 - 1 : Nat) : Int) = (hs.getD i 0 : Int) + -1 := by omega
  have d1 := hp.c0
  rw [he] at hp d1
  have HS : Hid (RefC (w.setCell ⟨gh, i, none⟩ (.int .i64 ((hs.getD i 0 : Int) + -1))).drew B F g (.slice (some ⟨gh, 0, none⟩) hs.length ch) (.slice (some ⟨gt, 0, none⟩) hs.length ct) LV size os (hs.set i (hs.getD i 0 - 1)) ln) := Lib.hid (hp.keep (fun _ _ => rfl) (Nat.le_refl _))
  have HM : Hid (Moved F w (w.setCell ⟨gh, i, none⟩ (.int .i64 ((hs.getD i 0 : Int) + -1))).drew) := Lib.hid (((Moved.refl F w).setCell (p := ⟨gh, i, none⟩) (.inl hFh) _).drew)
  obtain ⟨x, hx⟩ : ∃ x, x = hs.getD i 0 := ⟨_, rfl⟩
  rw [← hx] at k2 HS HM h0 hb d1 ⊢
  clear h hH hT f1 f2 hp he hx hFh hFt
  have hne : ((x : Int) + -1 == 0) = false := by simp; omega
  go_enter Try.func19, Try.ntmps19
  go_wp2_with fail
  refine HH.out.mono ?_; rintro e w' ⟨rfl, rfl⟩
  go_wp2_with fail
  go_region
  all_goals go_wp2_with fail
  all_goals go_ret
  all_goals exact ⟨rfl, HS.out, HM.out⟩

set_option maxHeartbeats 4000000 in
theorem rturn_last (h : RefC w B F g HV BV LV size os hs ln) (i : Nat) (hn : hs.length ≤ 64) (hl : ln.length ≤ 64) (hi : i < hs.length) (h0 : hs.getD i 0 = 1) :
    Calls Try.prog 19 #[.pointer (some ⟨g, 0, none⟩), .int .i64 (i : Int), .int .i64 (-1)] w fun e w' => e = .returned (.int .i64 0) ∧ ∃ F' LV', RefC w' B F' g HV BV LV' size (os.set i []) (hs.set i 0) (ln ++ [i]) ∧ Step F F' w w' := by
  have HH := Lib.hid (is_yes h i hn hi (by omega))
  obtain ⟨gh, ch, gt, ct, rfl, rfl, h1, h2, h3, h4, hH, hT, f1, f2, hFh, hFt⟩ := h.rows (by omega)
  have c0 := h.c0
  have k2 : w.cell? ⟨gh, i, none⟩ = some (.int .i64 1) := by have := hH i hi; rw [h0] at this; exact this
  have k3 := f1 i
  have hp1 := h.setH i 0
  have hp1' : RefC (w.setCell ⟨gh, i, none⟩ (.int .i64 0)) B F g (.slice (some ⟨gh, 0, none⟩) hs.length ch) (.slice (some ⟨gt, 0, none⟩) os.length ct) LV size os (hs.set i 0) ln := by rw [h.lo]; exact hp1
  have d0 : (w.setCell ⟨gh, i, none⟩ (.int .i64 0)).cell? ⟨g, 0, none⟩ = some (.slice (some ⟨gh, 0, none⟩) hs.length ch) := hp1.c0
  have d1 : (w.setCell ⟨gh, i, none⟩ (.int .i64 0)).cell? ⟨g, 1, none⟩ = some (.slice (some ⟨gt, 0, none⟩) hs.length ct) := hp1.c1
  have hne1 : gt ≠ gh := fun e => h.ne.2.2.2.1 gt rfl (by rw [e]; rfl)
  have d4 : (w.setCell ⟨gh, i, none⟩ (.int .i64 0)).cell? ⟨gt, i, none⟩ = some (.string (strOfNums (os.getD i []))) := by
    rw [World.cell?_of_block (w := w) (a := ⟨gt, i, none⟩) (Below.heap_setCell _ _ _ _ hne1)]
    exact hT i hi
  have d5 : (w.setCell ⟨gh, i, none⟩ (.int .i64 0)).frozen? ⟨gt, i, none⟩ = false := by
    rw [World.frozen?_of_block (w := w) (a := ⟨gt, i, none⟩) (Below.heap_setCell _ _ _ _ hne1)]
    exact f2 i
  have hp2 := hp1'.setB i []
  obtain ⟨W2, hW2⟩ : ∃ W2, W2 = ((w.setCell ⟨gh, i, none⟩ (.int .i64 0)).setCell ⟨gt, i, none⟩ (.string ⟨#[]⟩)).drew := ⟨_, rfl⟩
  have hp2' : RefC W2 B F g (.slice (some ⟨gh, 0, none⟩) hs.length ch) (.slice (some ⟨gt, 0, none⟩) os.length ct) LV size (os.set i []) (hs.set i 0) ln := by rw [hW2]; exact hp2.keep (fun _ _ => rfl) (Nat.le_refl _)
  have hm2 : Moved F w W2 := by rw [hW2]; exact (((Moved.refl F w).setCell (p := ⟨gh, i, none⟩) (.inl hFh) _).setCell (p := ⟨gt, i, none⟩) (.inl hFt) _).drew
  have hz2 : W2.heap.size = w.heap.size := by rw [hW2]; show ((w.setCell _ _).setCell _ _).heap.size = _; simp [World.setCell]
  have c22 : ((w.setCell ⟨gh, i, none⟩ (.int .i64 0)).setCell ⟨gt, i, none⟩ (.string ⟨#[]⟩)).cell? ⟨g, 2, none⟩ = some LV := hp2.c2
  obtain ⟨A, c, rfl, hrow, hnil, hc1, hc2⟩ := hp2'.line.rowI
  obtain ⟨v3, w3, happ3, hown3, hgr3, hat3⟩ := app_at .i64 41 3 8 Try.underlying41 info_int W2 0 (.slice none 0 0) 0 [] (World.ownsRow_nil _ _ _ _) A ln.length c (ints ln) hrow hnil (by omega) (by unfold maxLen; omega) (Nat.zero_le _)
  rw [Nat.zero_add, List.nil_append] at hown3
  have hz3 := hgr3.size
  obtain ⟨v4, w4, happ4, hown4, hgr4, hat4⟩ := push_at 41 3 (.int .i64 0) 8 Try.underlying41 info_int rfl w3 0 v3 ln.length _ hown3 (.int .i64 (i : Int)) rfl (by omega) (by unfold maxLen; omega) (Nat.zero_le _)
  have hz4 := hgr4.size
  have hnew3 : ∀ k, v3.ownBlock = some k → W2.heap.size ≤ k := fun k hk => by
    rcases hat3 k hk with h1 | h1
    · cases h1
    · exact h1
  have hnew4 : ∀ k, v4.ownBlock = some k → W2.heap.size ≤ k := fun k hk => by
    rcases hat4 k hk with h1 | h1
    · exact hnew3 k h1
    · omega
  have hb4 : Below W2.heap.size W2 w4 := ((Below.refl _ W2).grown hgr3 (Nat.le_refl _) (fun k hk => by cases hk)).grown hgr4 hz3 hnew3
  have hq4 : QRow w4 0 v4 (ln ++ [i]).length (ln ++ [i]) := by
    refine q_of_row ?_
    rw [iv_append]
    simpa [iv, ints] using hown4
  have hp5 := hp2'.setL v4 (ln ++ [i]) hb4 hq4 (fun k hk => .inr (hnew4 k hk))
  have hg4 := (hb4.block g hp2'.lt).trans hp2'.blk
  have c42 : w4.cell? ⟨g, 2, none⟩ = some (.slice A ln.length c) := cell_of_row w4 g 2 _ _ (0, 0) hg4
  have f42 : w4.frozen? ⟨g, 2, none⟩ = false := by simp [World.frozen?, hg4]
  have HFIN : Hid (∃ F' LV', RefC (w4.setCell ⟨g, 2, none⟩ v4) B F' g (.slice (some ⟨gh, 0, none⟩) hs.length ch) (.slice (some ⟨gt, 0, none⟩) hs.length ct) LV' size (os.set i []) (hs.set i 0) (ln ++ [i]) ∧ Step F F' w (w4.setCell ⟨g, 2, none⟩ v4)) := by
    rw [h.lo] at hp5
    refine Lib.hid ⟨_, v4, hp5, ((hm2.grown hgr3 (fun k hk => by cases hk)).grown hgr4 (fun k hk => .inr (by have := hnew3 k hk; omega))).setCell (p := ⟨g, 2, none⟩) (.inl h.fg) _, fun k hk => ?_⟩
    rcases hk with hk | hk
    · exact .inl hk
    · exact .inr (by have := hk.1; omega)
  obtain ⟨A3, c3, rfl, _⟩ := own_cells hown3
  obtain ⟨A4, c4, rfl, _⟩ := own_cells hown4
  have HAPP3 := Lib.hid happ3
  have HAPP4 := Lib.hid happ4
  have HW2 := Lib.hid hW2
  obtain ⟨S0, hS0⟩ : ∃ S0, S0 = strOfNums (os.getD i []) := ⟨_, rfl⟩
  rw [← hS0] at d4
  clear h hH hT f1 f2 hp1 hp1' hp2 hp2' hm2 hz2 hrow hnil happ3 happ4 hown3 hown4 hgr3 hgr4 hat3 hat4 hnew3 hnew4 hb4 hq4 hp5 hg4 hW2 h0 hS0 hFh hFt hz3 hz4
  unfold maxLen at hc2
  go_enter Try.func19, Try.ntmps19
  go_wp2_with fail
  refine HH.out.mono ?_; rintro e w' ⟨rfl, rfl⟩
  go_wp2_with fail
  go_region
  all_goals go_wp2_with (first
    | (at_builtin; rw [← HW2.out]; refine wpList_append_run rfl _ _ 41 rfl rfl _ _ _ _ rfl rfl HAPP3.out ?_)
    | (at_builtin; refine wpList_append_run rfl _ _ 41 rfl rfl _ _ _ _ rfl rfl HAPP4.out ?_))
  all_goals go_ret
  all_goals exact ⟨rfl, HFIN.out⟩
end
end Go.Proofs.Ytgjmgbpphfccaaa
