/- slices.Grow of nil and slices.Concat of two lists of ranges; the program's Or and And. -/
import Derived.Test.YtiiclhkibpmgmaaNot
import Derived.Test.YtiiclhkibpmgmaaRngI
import Derived.Lib.AppendZerosOnto
import Derived.Lib.SliceRun
import Derived.LoopN
namespace Go.Proofs.Ytiiclhkibpmgmaa
open Go Go.RowKit
set_option linter.unusedVariables false

theorem growG_none (w : World) :
    Calls Try.prog 34 #[.slice none 0 0, .int .i64 0] w fun e w' => e = .returned (.slice none 0 0) ∧ w = w' := by
  go_enter Try.func34, Try.ntmps34
  go_wp2
  go_ret
  exact ⟨rfl, rfl⟩

set_option maxHeartbeats 1000000 in
theorem growG_some (w : World) (N : Nat) (h0 : 0 < N) (hN : N ≤ 3000000) :
    Calls Try.prog 34 #[.slice none 0 0, .int .i64 (N : Int)] w fun e w' => ∃ P pc, e = .returned (.slice P 0 pc) ∧ w'.ownsRow w.heap.size 39 2 (.slice P 0 pc) 0 (cellsG []) ∧ Below w.heap.size w w' := by
  obtain ⟨i0, hi, hz0, hz1, hz2⟩ := info_parts info_rng
  have hcapn : Builtin.nextslicecap N 0 = N := by
    unfold Builtin.nextslicecap
    simp [h0]
  have h := Lib.run_append_grow_zeros (P := Try.prog) w 22 3 22 39 i0 (.agg #[.int .i64 0, .int .i64 0]) .i64 .i64 Try.underlying22 Try.underlying3 hi hz0 none 0 0 [] (run_firstCells_none w.drew i0.size 0 0 0) N h0 (by rw [hz1]; decide) (by omega) (by omega) (by rw [hz2]; omega) (by rw [hz2, Nat.zero_add, hcapn]; omega)
  have hG := grownCap_ge w N 0 39
  have hG2 := grownCap_le_maxLen w N 0 39 (by unfold maxLen; omega)
  rw [Nat.zero_add] at h
  obtain ⟨G, hGe⟩ : ∃ G, G = grownCap w N 0 39 := ⟨_, rfl⟩
  rw [← hGe] at h hG hG2
  obtain ⟨cur, hcur⟩ : ∃ cur, cur = (([] : List Value).toArray ++ Builtin.zeroCells (Value.agg #[.int .i64 0, .int .i64 0]).cells N ++ Builtin.zeroCells (Value.agg #[.int .i64 0, .int .i64 0]).cells (G - N)) := ⟨_, rfl⟩
  have hcs : cur.size = G * 2 := by
    rw [hcur]
    have hc : (Value.agg #[.int .i64 0, .int .i64 0]).cells.size = 2 := rfl
    simp only [Array.size_append, size_zeroCells, hc, List.size_toArray, List.length_nil]
    omega
  rw [← hcur] at h
  clear hcur hGe hcapn
  have H := Lib.hid h; clear h
  have hG63 : G ≤ 9223372036854775807 := by unfold maxLen at hG2; omega
  have hgt : decide ((0 : Int) < (N : Int)) = true := by simp; omega
  have hgt2 : decide (0 < N) = true := decide_eq_true h0
  have hlt : decide ((N : Int) < (0 : Int)) = false := by simp
  go_enter Try.func34, Try.ntmps34
  go_wp2_with (at_builtin; refine Lib.wpList_append_run _ rfl _ _ 22 3 rfl _ _ rfl rfl _ _ H.out ?_)
  go_ret
  exact ⟨_, _, rfl, World.ownsRow_made w.drew cur G (Nat.le_refl _) hG2 hcs, by go_grown⟩

theorem growG_any (w : World) (N : Nat) (hN : N ≤ 3000000) :
    Calls Try.prog 34 #[.slice none 0 0, .int .i64 (N : Int)] w fun e w' => ∃ P pc, e = .returned (.slice P 0 pc) ∧ w'.ownsRow w.heap.size 39 2 (.slice P 0 pc) 0 (cellsG []) ∧ Below w.heap.size w w' := by
  rcases Nat.eq_zero_or_pos N with h | h
  · subst h
    exact (growG_none w).mono fun e w' ⟨he, hw⟩ => ⟨none, 0, he, nilG _ _, by rw [← hw]; exact Below.refl _ _⟩
  · exact growG_some w N h hN

set_option maxHeartbeats 2000000 in
theorem concatG (g : Nat) (A D : Option Addr) (n c m d : Nat) (s t : List (Int × Int)) (w : World) (h0 : w.cell? ⟨g, 0, none⟩ = some (.slice A n c)) (h1 : w.cell? ⟨g, 1, none⟩ = some (.slice D m d)) (hr1 : RowG w A n s) (hr2 : RowG w D m t) (hA : A = none → n = 0 ∧ c = 0) (hD : D = none → m = 0 ∧ d = 0) (hn : n ≤ 1000000) (hm : m ≤ 1000000) :
    Calls Try.prog 29 #[.slice (some ⟨g, 0, none⟩) 2 2] w fun e w' => ∃ P pc, e = .returned (.slice P (n + m) pc) ∧ w'.ownsRow w.heap.size 39 2 (.slice P (n + m) pc) (n + m) (cellsG (s ++ t)) ∧ Below w.heap.size w w' := by
  have hg := growG_any w (n + m) (by omega)
  rw [show ((n + m : Nat) : Int) = (n : Int) + (m : Int) by omega] at hg
  have hlt : g < w.heap.size := World.block_lt_of_cell? w _ h0
  have HR := Lib.hid (And.intro hr1 hr2); clear hr1 hr2
  have HN := Lib.hid (And.intro hA hD); clear hA hD
  have HG := Lib.hid hg; clear hg
  have H0 := Lib.hid h0
  have H1 := Lib.hid h1
  have hltd : decide ((n : Int) + (m : Int) < 0) = false := by simp; omega
  have hltd2 : decide ((n : Int) < 0) = false := by simp
  go_enter Try.func29, Try.ntmps29
  go_wp2_with fail
  refine wp_loop_rounds 3 ?_
  rw [rounds_succ]; go_wp2_with fail
  rw [rounds_succ]; go_wp2_with fail
  rw [rounds_succ]; go_wp2_with fail
  refine HG.out.mono ?_; rintro e w1 ⟨P1, pc1, rfl, hown1, hb1⟩
  clear h0 h1
  have h0 := (hb1.cell (p := ⟨g, 0, none⟩) hlt).trans H0.out
  have h1 := (hb1.cell (p := ⟨g, 1, none⟩) hlt).trans H1.out
  obtain ⟨P2, pc2, w2, happ2, hown2, hb2⟩ := app_inG (c := c) hown1 (HR.out.1.below hb1 (Nat.le_refl _)) HN.out.1 (by omega) (by omega) hb1
  rw [Nat.zero_add] at happ2 hown2
  rw [List.nil_append] at hown2
  have k1 := (hb2.cell (p := ⟨g, 1, none⟩) hlt).trans H1.out
  obtain ⟨P3, pc3, w3, happ3, hown3, hb3⟩ := app_inG (c := d) hown2 (HR.out.2.below hb2 (Nat.le_refl _)) HN.out.2 (by omega) (by omega) hb2
  have H2 := Lib.hid happ2; clear happ2
  have H3 := Lib.hid happ3; clear happ3
  have HO := Lib.hid (And.intro hown3 hb3)
  clear hown1 hown2 hown3 hb1 hb2 hb3
  go_wp2_with fail
  refine wp_loop_rounds 3 ?_
  rw [rounds_succ]; go_wp2_with (at_builtin; refine wpList_append_run rfl _ _ 22 rfl rfl _ _ _ _ rfl rfl H2.out ?_)
  rw [rounds_succ]; go_wp2_with (at_builtin; refine wpList_append_run rfl _ _ 22 rfl rfl _ _ _ _ rfl rfl H3.out ?_)
  rw [rounds_succ]; go_wp2_with fail
  go_ret
  exact ⟨_, _, rfl, HO.out⟩

set_option maxHeartbeats 1000000 in
theorem or_any (s t : List (Int × Int)) (A D : Option Addr) (n c m d : Nat) (W : World) (hr1 : RowG W A n s) (hr2 : RowG W D m t) (hA : A = none → n = 0 ∧ c = 0) (hD : D = none → m = 0 ∧ d = 0) (hn : n ≤ 1000000) (hm : m ≤ 1000000) :
    Calls Try.prog 17 #[.slice A n c, .slice D m d] W fun e w' => ∃ V u, e = .returned V ∧ OutG W w' V u ∧ Canon u ∧ ∀ r, hasL u r = (hasL s r || hasL t r) := by
  have hb : Below W.heap.size W (W.alloc (.cells #[.slice A n c, .slice D m d] 22)) := (Below.refl _ _).alloc (Nat.le_refl _) _
  have hc := concatG W.heap.size A D n c m d s t (W.alloc (.cells #[.slice A n c, .slice D m d] 22)) (by rw [cell_of_row _ W.heap.size 0 _ _ (0, 0) (heap_alloc_new W _)]; rfl) (by rw [cell_of_row _ W.heap.size 1 _ _ (0, 0) (heap_alloc_new W _)]; rfl) (hr1.below hb (Nat.le_refl _)) (hr2.below hb (Nat.le_refl _)) hA hD hn hm
  have HC := Lib.hid hc
  have HB := Lib.hid hb
  clear hc hb hr1 hr2
  go_enter Try.func17, Try.ntmps17
  go_wp2_with (first
    | (go_at_call 29; refine HC.out.mono ?_; rintro e w1 ⟨P, pc, rfl, hown, hb1⟩; have HF := Lib.hid (of_any (s ++ t) P (n + m) pc w1 (by obtain ⟨A', c', e, h, _⟩ := rowG_of_own hown (by have := hown.1; rw [cellsG_length] at this; omega); injection e with e1 _ _; rw [e1]; exact h) (by omega)); have HB1 := Lib.hid (then_ HB.out hb1); clear hown hb1)
    | (go_at_call 9; refine HF.out.mono ?_; rintro e w2 ⟨V, u, rfl, ho, hcan, hmem⟩; have HO := Lib.hid (And.intro ho (And.intro hcan hmem)); clear ho hcan hmem))
  go_ret
  refine ⟨_, u, rfl, ⟨row_base HO.out.1.1 (fun j hj => Nat.le_trans HB1.out.size (row_lt HO.out.1.1 hj).1), then_ HB1.out HO.out.1.2⟩, HO.out.2.1, fun r => ?_⟩
  rw [HO.out.2.2 r, hasL_append]

set_option maxHeartbeats 1000000 in
theorem and_any (s t : List (Int × Int)) (A D : Option Addr) (n c m d : Nat) (W : World) (hr1 : RowG W A n s) (hr2 : RowG W D m t) (hn : n ≤ 1000000) (hm : m ≤ 1000000) :
    Calls Try.prog 18 #[.slice A n c, .slice D m d] W fun e w' => ∃ V u, e = .returned V ∧ OutG W w' V u ∧ Canon u ∧ ∀ r, hasL u r = (hasL s r && hasL t r) := by
  have HR := Lib.hid (And.intro hr1 hr2)
  clear hr1 hr2
  go_enter Try.func18, Try.ntmps18
  have HC := Lib.hid (not_any s A n c W HR.out.1 (by omega))
  go_wp2_with (first
    | (go_at_call 16; refine HC.out.mono ?_; rintro e w1 ⟨V1, u1, rfl, ho1, hc1, hm1⟩; obtain ⟨A1, c1, rfl, hi1, hs1⟩ := canon_out ho1 hc1; have HM1 := Lib.hid (And.intro ho1 (And.intro hm1 hi1)); have HC2 := Lib.hid (not_any t D m d w1 (HR.out.2.below ho1.2 (Nat.le_refl _)) (by omega)); clear HC ho1 hc1 hm1 hi1)
    | (go_at_call 16; refine HC2.out.mono ?_; rintro e w2 ⟨V2, u2, rfl, ho2, hc2, hm2⟩; obtain ⟨A2, c2, rfl, hi2, hs2⟩ := canon_out ho2 hc2; have HM2 := Lib.hid (And.intro (then_ HM1.out.1.2 ho2.2) hm2); have HC3 := Lib.hid (or_any u1 u2 A1 A2 u1.length c1 u2.length c2 w2 (HM1.out.2.2.1.below ho2.2 (Nat.le_refl _)) hi2.1 HM1.out.2.2.2.2.2.1 hi2.2.2.2.1 (by omega) (by omega)); clear HC2 ho2 hc2 hm2 hi2)
    | (go_at_call 17; refine HC3.out.mono ?_; rintro e w3 ⟨V3, u3, rfl, ho3, hc3, hm3⟩; obtain ⟨A3, c3, rfl, hi3, hs3⟩ := canon_out ho3 hc3; have HM3 := Lib.hid (And.intro (then_ HM2.out.1 ho3.2) hm3); have HC4 := Lib.hid (not_any u3 A3 u3.length c3 w3 hi3.1 (by omega)); clear HC3 ho3 hc3 hm3 hi3)
    | (go_at_call 16; refine HC4.out.mono ?_; rintro e w4 ⟨V4, u4, rfl, ho4, hc4, hm4⟩; have HM4 := Lib.hid (And.intro ho4 (And.intro hc4 hm4)); clear HC4 ho4 hc4 hm4))
  go_ret
  refine ⟨_, u4, rfl, ⟨row_base HM4.out.1.1 (fun j hj => Nat.le_trans HM3.out.1.size (row_lt HM4.out.1.1 hj).1), then_ HM3.out.1 HM4.out.1.2⟩, HM4.out.2.1, fun r => ?_⟩
  rw [HM4.out.2.2 r, HM3.out.2 r, HM1.out.2.1 r, HM2.out.2 r]
  cases hs : hasL s r with
  | false =>
    have := inR_of (s := s) (v := r)
    cases inR r <;> simp
  | true =>
    have hr := hasL_in hs
    have : inR r = true := by unfold inR; exact decide_eq_true hr
    rw [this]
    cases hasL t r <;> rfl
end Go.Proofs.Ytiiclhkibpmgmaa
