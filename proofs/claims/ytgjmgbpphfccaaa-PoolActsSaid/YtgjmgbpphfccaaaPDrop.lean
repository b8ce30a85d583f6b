/- Drop: once less; at the last time free, empty, last in the line. -/
import Derived.Test.YtgjmgbpphfccaaaPTake
namespace Go.Proofs.Ytgjmgbpphfccaaa
open Go Go.RowKit
set_option linter.unusedVariables false

section
variable {w : World} {B g gb size : Nat} {F : Nat → Prop} {FV : Value} {Vs : List Value} {os : List (List Int)} {hs ln : List Nat}
theorem drop_no (h : PoolC w B F g gb FV Vs size os hs ln) (i : Int) (hn : hs.length ≤ 64) (h0 : heldL hs i = 0) :
    Calls Try.prog 20 #[.pointer (some ⟨g, 0, none⟩), .int .i64 i] w fun e w' => e = .returned (.int .i64 2) ∧ w = w' := by
  have HH := Lib.hid (holds_any h i hn)
  rw [h0] at HH
  clear h h0
  go_enter Try.func20, Try.ntmps20
  go_wp2_with fail
  refine HH.out.mono ?_; rintro e w' ⟨rfl, rfl⟩
  go_wp2_with fail
  go_ret
  exact ⟨rfl, rfl⟩
theorem drop_less (h : PoolC w B F g gb FV Vs size os hs ln) (i : Nat) (hn : hs.length ≤ 64) (hi : i < hs.length) (h0 : 1 < hs.getD i 0) (hb : hs.getD i 0 ≤ 1000000) :
    Calls Try.prog 20 #[.pointer (some ⟨g, 0, none⟩), .int .i64 (i : Int)] w fun e w' => e = .returned (.int .i64 0) ∧ PoolC w' B F g gb FV Vs size os (hs.set i (hs.getD i 0 - 1)) ln ∧ Moved F w w' := by
  have HH := Lib.hid (holds_in h i hi hn)
  have c1 := h.c1
  have cH := h.cH hi
  have fz := h.fzb (i * 2 + 1)
  have hp := h.setH i (hs.getD i 0 - 1)
  have hm : Moved F w (w.setCell ⟨gb, i * 2 + 1, none⟩ (.int .i64 ((hs.getD i 0 - 1 : Nat) : Int))) := (Moved.refl _ _).setCell (.inl h.fb) _
  have he : ((hs.getD i 0 - 1 : Nat) : Int) = (hs.getD i 0 : Int) - 1 := by omega
  have k1 := hp.c1
  have k2 := hp.cH (i := i) (by rw [List.length_set]; exact hi)
  rw [show (hs.set i (hs.getD i 0 - 1)).getD i 0 = hs.getD i 0 - 1 by simp [List.getD, hi]] at k2
  rw [he] at k1 k2 hp hm
  rw [List.length_set] at k1
  have HS := Lib.hid hp
  have HM := Lib.hid hm
  obtain ⟨x, hx⟩ : ∃ x, x = hs.getD i 0 := ⟨_, rfl⟩
  rw [← hx] at HH cH HS HM h0 hb k1 k2 ⊢
  clear h hx hp hm he
  have hne : ((x : Int) == 0) = false := by simp; omega
  have hne2 : ((x : Int) - 1 == 0) = false := by simp; omega
  go_enter Try.func20, Try.ntmps20
  go_wp2_with fail
  refine HH.out.mono ?_; rintro e w' ⟨rfl, rfl⟩
  go_wp2_with fail
  go_ret
  exact ⟨rfl, HS.out, HM.out⟩

set_option maxHeartbeats 2000000 in
theorem drop_last (h : PoolC w B F g gb FV Vs size os hs ln) (i : Nat) (hn : hs.length ≤ 64) (hl : ln.length ≤ 64) (hi : i < hs.length) (h0 : hs.getD i 0 = 1) :
    Calls Try.prog 20 #[.pointer (some ⟨g, 0, none⟩), .int .i64 (i : Int)] w fun e w' => e = .returned (.int .i64 0) ∧ ∃ F' FV' Vs', PoolC w' B F' g gb FV' Vs' size (os.set i []) (hs.set i 0) (ln ++ [i]) ∧ Step F F' w w' := by
  have hh := holds_in h i hi hn
  rw [h0] at hh
  have HH : Hid (Calls Try.prog 25 #[.pointer (some ⟨g, 0, none⟩), .int .i64 (i : Int)] w fun e w' => e = .returned (.int .i64 1) ∧ w = w') := Lib.hid hh
  clear hh
  have c1 := h.c1
  have cH : w.cell? ⟨gb, i * 2 + 1, none⟩ = some (.int .i64 1) := by have := h.cH hi; rw [h0] at this; exact this
  have fz := h.fzb (i * 2 + 1)
  obtain ⟨W1, hW1⟩ : ∃ W1, W1 = w.setCell ⟨gb, i * 2 + 1, none⟩ (.int .i64 0) := ⟨_, rfl⟩
  have hp1 : PoolC W1 B F g gb FV Vs size os (hs.set i 0) ln := by rw [hW1]; exact h.setH i 0
  have hm1 : Moved F w W1 := by rw [hW1]; exact (Moved.refl _ _).setCell (.inl h.fb) _
  have hi1 : i < (hs.set i 0).length := by rw [List.length_set]; exact hi
  have c11 := hp1.c1
  have cH1 : W1.cell? ⟨gb, i * 2 + 1, none⟩ = some (.int .i64 0) := by have := hp1.cH hi1; rw [show (hs.set i 0).getD i 0 = 0 by simp [List.getD, hi]] at this; exact this
  rw [List.length_set] at c11
  obtain ⟨A, c, hV, cO1, hr1, hc1, hcm1, hz1⟩ := hp1.octAt hi1
  have f11 := hp1.fzb (i * 2)
  have hsl := slice_none A (os.getD i []).length c
  have hown : W1.ownsRow 0 5 1 (.slice A 0 c) 0 [] := by
    have hio : i < os.length := by have := h.lo; omega
    have := hp1.oct i _ os[i] hV (List.getElem?_eq_getElem hio)
    rw [show os.getD i [] = os[i] by simp [List.getD, List.getElem?_eq_getElem hio]] at this
    exact row_cut0 this hz1
  have hst := hp1.setO (w' := W1.drew) i (.slice A (os.getD i []).length c) (.slice A 0 c) [] hV (⟨rfl, rfl, rfl, Nat.le_refl _, fun _ _ _ => rfl⟩) (show W1.drew.ownsRow _ _ _ _ _ _ from hown) (fun k hk => .inl (by cases A <;> exact hk))
  obtain ⟨W2, hW2⟩ : ∃ W2, W2 = W1.drew.setCell ⟨gb, i * 2, none⟩ (.slice A 0 c) := ⟨_, rfl⟩
  have hW2' : W2 = (W1.setCell ⟨gb, i * 2, none⟩ (.slice A 0 c)).drew := by rw [hW2]; rfl
  rw [← hW2] at hst
  obtain ⟨F2, hF2⟩ : ∃ F2 : Nat → Prop, F2 = fun k => F k ∨ (W1.heap.size ≤ k ∧ k < W1.drew.heap.size) := ⟨_, rfl⟩
  rw [← hF2] at hst
  have hz0 : W1.heap.size = w.heap.size := by rw [hW1]; simp [World.setCell]
  have hz2 : W2.heap.size = w.heap.size := by rw [hW2, ← hz0]; show (W1.setCell _ _).heap.size = _; simp [World.setCell]
  have hs2 : Step F F2 w W2 := by
    refine ⟨by rw [hW2]; exact hm1.drew.setCell (p := ⟨gb, i * 2, none⟩) (.inl h.fb) _, fun k hk => ?_⟩
    rw [hF2] at hk
    rcases hk with hk | hk
    · exact .inl hk
    · exact .inr (by have := hk.1; omega)
  have c21 := hst.c2
  obtain ⟨v', w3, happ, hown3, hgr3, hat3⟩ := push_at 41 3 (.int .i64 0) 8 Try.underlying41 info_int rfl W2 0 FV ln.length (iv ln) hst.free (.int .i64 (i : Int)) rfl (by omega) (by unfold maxLen; omega) (Nat.zero_le _)
  have hown3' : w3.ownsRow 0 3 1 v' (ln ++ [i]).length (iv (ln ++ [i])) := by rw [iv_append]; simpa [iv, ints] using hown3
  have hp3 := hst.setF v' (ln ++ [i]) hgr3 hown3' hat3
  have hgg : w3.heap[g]? = some (.cells #[.int .i64 (size : Int), .slice (some ⟨gb, 0, none⟩) (hs.set i 0).length (hs.set i 0).length, FV] 63 (0, 0)) := (hgr3.block g hst.lt (fun e => hst.free_ne.1 e.symm)).trans hst.blk
  have c23 := cell_of_row w3 g 2 _ _ (0, 0) hgg
  have f23 : w3.frozen? ⟨g, 2, none⟩ = false := by simp [World.frozen?, hgg]
  simp only [List.getElem?_toArray, List.getElem?_cons_succ, List.getElem?_cons_zero] at c23
  have hs3 : Step F2 (fun k => F2 k ∨ (W2.heap.size ≤ k ∧ k < w3.heap.size)) W2 (w3.setCell ⟨g, 2, none⟩ v') := by
    refine ⟨((Moved.refl F2 W2).grown hgr3 (fun k hk => .inl (hst.ff k hk))).setCell (p := ⟨g, 2, none⟩) (.inl hst.fg) _, fun k hk => ?_⟩
    rcases hk with hk | hk
    · exact .inl hk
    · exact .inr hk.1
  have HFIN : Hid (∃ F' FV' Vs', PoolC (w3.setCell ⟨g, 2, none⟩ v') B F' g gb FV' Vs' size (os.set i []) (hs.set i 0) (ln ++ [i]) ∧ Step F F' w (w3.setCell ⟨g, 2, none⟩ v')) := Lib.hid ⟨_, _, _, hp3, hs2.trans hs3⟩
  obtain ⟨Af, cf, hFV, _⟩ := hst.lineAt
  obtain ⟨A3, c3, hv3, _⟩ := own_cells hown3
  obtain ⟨o, ho⟩ : ∃ o, o = (os.getD i []).length := ⟨_, rfl⟩
  rw [← ho] at cO1 hsl
  subst hv3
  subst hFV
  have HAPP := Lib.hid happ
  have HW2 := Lib.hid hW2'
  have HW1 := Lib.hid hW1
  clear h hp1 hm1 hr1 hc1 hcm1 hz1 hV hown hst hF2 hz2 hz0 hs2 hgr3 hat3 hown3 hown3' hp3 hgg hs3 happ hW2 hW2' hi1 ho h0
  have d1 := c11
  have d2 := cH1
  rw [hW1] at d1 d2
  clear hW1
  go_enter Try.func20, Try.ntmps20
  go_wp2_with fail
  refine HH.out.mono ?_; rintro e w' ⟨rfl, rfl⟩
  go_wp2_with fail
  rw [← HW1.out]
  clear d1 d2 c1 cH fz
  go_region
  rw [← HW2.out]
  go_wp2_with (at_builtin; refine wpList_append_run rfl _ _ 41 rfl rfl _ _ _ _ rfl rfl HAPP.out ?_)
  go_ret
  exact ⟨rfl, HFIN.out⟩
end
end Go.Proofs.Ytgjmgbpphfccaaa
