/- The program's ring: New, Put. -/
import Derived.Test.YtmpemcooianfiaaRinR
namespace Go.Proofs.Ytmpemcooianfiaa
open Go Go.RowKit
set_option linter.unusedVariables false
set_option maxRecDepth 20000

theorem made_recs (z : Array Value) (n : Nat) (hz : 0 < z.size) (h1 : ∀ u ∈ z.toList, u.oneCell' = true) : (madeCells z (n * z.size)).toList = (List.replicate n z.toList).flatten ∧ Wide z.size (List.replicate n z.toList) := by
  have hw : Wide z.size (List.replicate n z.toList) := fun x hx => by rw [List.eq_of_mem_replicate hx]; exact ⟨by simp, h1⟩
  refine ⟨?_, hw⟩
  apply List.ext_getElem?
  intro j
  by_cases hj : j < n * z.size
  · have hq : j / z.size < n := Nat.div_lt_of_lt_mul (by rw [Nat.mul_comm]; exact hj)
    have hr := Nat.mod_lt j hz
    have e1 : j / z.size * z.size + j % z.size = j := by rw [Nat.mul_comm]; exact Nat.div_add_mod j _
    have e2 := flat_at hw (j := j / z.size) (x := z.toList) (by simp [hq]) (i := j % z.size) (v := z[j % z.size]) (by simp [hr])
    rw [e1] at e2
    rw [e2]
    simp [madeCells, hj, hr]
  · rw [List.getElem?_eq_none (by simp [madeCells]; omega), List.getElem?_eq_none (by rw [flat_len hw]; simp; omega)]
def zplc : Array Value := #[.int .i64 0, .int .i64 0, .int .i64 0, .int .i64 0, .string ⟨#[]⟩, .slice none 0 0, .int .i64 0, .bool false]
theorem make_plc (n : Nat) (hn : n ≤ 64) (w : World) : (Instr.makeSlice 52 (.int .i64 (n : Int)) (.int .i64 (n : Int))).run Try.prog w = .ok (.slice (some ⟨w.heap.size, 0, none⟩) n n) (w.alloc (.cells (madeCells zplc (n * 8)) 56)) := by
  obtain ⟨i, hi, hzz⟩ := Option.map_eq_some_iff.1 info_place
  simp only [Prod.mk.injEq] at hzz
  obtain ⟨hz, hs, hb⟩ := hzz
  have hr := run_make (P := Try.prog) w 52 56 i _ Try.underlying52 hi hz .i64 .i64 (n : Int) (n : Int) (by omega) (by omega) (by rw [hb]; omega) (by omega)
  rw [hs, Int.toNat_natCast] at hr
  exact hr
set_option maxHeartbeats 2000000 in
theorem rnew_bad (n : Int) (w : World) (h : n < 1 ∨ 64 < n) : Calls Try.prog 7 #[.int .i64 n] w fun e w' => e = .returned (.tuple #[.pointer none, .int .i64 2]) ∧ Below w.heap.size w w' := by
  by_cases h1 : n < 1
  · have d1 : decide (n < 1) = true := by simpa using h1
    clear h
    go_enter Try.func7, Try.ntmps7
    go_wp2_with fail
    go_ret2
    exact ⟨rfl, Below.refl _ _⟩
  · have d1 : decide (n < 1) = false := by simpa using h1
    have h2 : 64 < n := by omega
    have d2 : decide (64 < n) = true := by simpa using h2
    clear h h1 h2
    go_enter Try.func7, Try.ntmps7
    go_wp2_with fail
    go_ret2
    exact ⟨rfl, Below.refl _ _⟩
set_option maxHeartbeats 2000000 in
theorem rnew_any (n : Nat) (w : World) (h1 : 1 ≤ n) (h2 : n ≤ 64) : Calls Try.prog 7 #[.int .i64 (n : Int)] w fun e w' => ∃ g F, e = .returned (.tuple #[.pointer (some ⟨g, 0, none⟩), .int .i64 0]) ∧ RPt w' F g 0 (List.replicate n none) ∧ Below w.heap.size w w' ∧ ∀ k, F k → w.heap.size ≤ k := by
  have hm := make_plc n h2
  obtain ⟨W1, hW1⟩ : ∃ W1, W1 = w.alloc (.cells (madeCells zplc (n * 8)) 56) := ⟨_, rfl⟩
  have hmw := hm w
  rw [← hW1] at hmw
  have hs1 : W1.heap.size = w.heap.size + 1 := by rw [hW1]; simp
  have hb1 : Below w.heap.size w W1 := by rw [hW1]; exact (Below.refl _ _).alloc (Nat.le_refl _) _
  have hat : W1.heap[w.heap.size]? = some (.cells (madeCells zplc (n * 8)) 56 (0, 0)) := by rw [hW1]; exact heap_alloc_new w _
  have HF : Hid (RPt (W1.alloc (.cells #[.slice (some ⟨w.heap.size, 0, none⟩) n n, .int .i64 0] 54)) (fun k => k = w.heap.size ∨ k = W1.heap.size) W1.heap.size 0 (List.replicate n none) ∧ Below w.heap.size w (W1.alloc (.cells #[.slice (some ⟨w.heap.size, 0, none⟩) n n, .int .i64 0] 54)) ∧ ∀ k, (k = w.heap.size ∨ k = W1.heap.size) → w.heap.size ≤ k) := by
    refine Lib.hid ⟨⟨w.heap.size, n, List.replicate n (plc none), ?_⟩, hb1.alloc hb1.size _, fun k hk => by omega⟩
    obtain ⟨hml, hmw⟩ := made_recs zplc n (by decide) (by decide)
    exact {
      low := fun k hk => by simp; omega
      fg := .inr rfl
      fb := .inl rfl
      hn := by simp
      rl := by simp
      blk := heap_alloc_new W1 _
      row := ⟨by
        rw [List.length_replicate]
        refine ⟨?_, .inr ⟨w.heap.size, n, madeCells zplc (n * 8), rfl, Nat.zero_le _, at_up hat _, Nat.le_refl _, by unfold maxLen; omega, ?_, ?_⟩⟩
        · exact flat_len hmw |>.trans (by simp; rfl)
        · exact size_madeCells _ _
        · rw [show n * 8 = n * zplc.size from rfl, hml, List.take_of_length_le (by rw [flat_len hmw]; simp)]; rfl, hmw⟩
      at_ := fun i o ho => by
        rw [List.getElem?_replicate] at ho
        split at ho
        · rename_i hi
          injection ho with ho
          subst ho
          rw [List.getElem?_replicate, if_pos (Nat.mod_lt _ (by omega))]
        · cases ho }
  rw [hs1] at HF
  clear hat hb1 hW1 hm
  have d1 : decide ((n : Int) < 1) = false := by simp; omega
  have d2 : decide (64 < (n : Int)) = false := by simp; omega
  go_enter Try.func7, Try.ntmps7
  go_wp2_with fail
  go_ret2
  exact ⟨_, _, rfl, HF.out⟩
section
variable {w w' : World} {F : Nat → Prop} {g b n next : Nat} {W : List (Option It)} {rs : List (List Value)}
set_option maxHeartbeats 4000000 in
theorem rput_no (h : RPr w F g b n next W rs) (x : It) (hn : n ≤ 64) (hx : next ≤ 100000) (t0 : -9223372036854775808 ≤ x.n) (t1 : x.n < 9223372036854775808) (hp : putR next W x.n ≠ 0) :
    Calls Try.prog 8 #[.pointer (some ⟨g, 0, none⟩), x.val] w fun e w' => e = .returned (.int .i64 (putR next W x.n)) ∧ Below w.heap.size w w' := by
  obtain ⟨W0, hW0⟩ : ∃ W0, W0 = w.alloc (.cells x.cells.toArray 36) := ⟨_, rfl⟩
  obtain ⟨gx, hgx⟩ : ∃ gx, gx = w.heap.size := ⟨_, rfl⟩
  have hb : Below w.heap.size w W0 := by rw [hW0]; exact (Below.refl _ _).alloc (Nat.le_refl _) _
  have h0 := h.below hb
  have hx0 : W0.heap[gx]? = some (.cells x.cells.toArray 36 (0, 0)) := by rw [hW0, hgx]; exact heap_alloc_new w _
  have k0 := cell_of_row W0 gx 0 _ _ (0, 0) hx0
  simp only [It.cells, List.getElem?_toArray, List.getElem?_cons_zero] at k0
  have HW := Lib.hid fun q => within_any h0 x.n hn hx t0 t1 q
  have HS := Lib.hid fun q => has_any h0 x.n hn hx t0 t1 q
  have c1 := h0.c1
  have HB := Lib.hid hb
  have hcl := item_cells
  by_cases hl : x.n < (next : Int)
  · have hd : decide (x.n < (next : Int)) = true := by simpa using hl
    have hr : putR next W x.n = 2 := by unfold putR; rw [if_pos hl]
    rw [hr]
    unfold It.cells at hW0
    unfold It.val
    try dsimp only at hW0
    try dsimp only
    clear h h0 hb hx0 hr hp hl HW HS
    go_enter Try.func8, Try.ntmps8
    go_wp2_with fail
    rw [← hW0, ← hgx]
    clear hW0 hgx
    go_quiet (fail)
    go_wp2_with fail
    go_ret
    exact ⟨rfl, below_drewN HB.out _⟩
  · have hd : decide (x.n < (next : Int)) = false := by simpa using hl
    cases hi : inW next n x.n with
    | true =>
      have hr := putR_in h.hn hi
      have ha : isAt next n W x.n = true := by
        cases ha : isAt next n W x.n with
        | true => rfl
        | false => rw [ha] at hr; exact absurd hr hp
      rw [ha] at hr HS
      rw [hr]
      unfold It.cells at hW0
      unfold It.val
      try dsimp only at hW0
      try dsimp only
      clear h h0 hb hx0 hr hp hl HW hi ha
      go_enter Try.func8, Try.ntmps8
      go_wp2_with fail
      rw [← hW0, ← hgx]
      clear hW0 hgx
      go_quiet (first | (go_at_call 18; exact HS.out _))
      go_wp2_with fail
      go_ret
      exact ⟨rfl, below_drewN HB.out _⟩
    | false =>
      have hr := putR_out h.hn hi
      rw [if_neg hl] at hr
      have ha : isAt next n W x.n = false := by unfold isAt; rw [hi]; rfl
      rw [ha] at HS
      rw [hi] at HW
      rw [hr]
      unfold It.cells at hW0
      unfold It.val
      try dsimp only at hW0
      try dsimp only
      clear h h0 hb hx0 hr hp hl hi ha
      go_enter Try.func8, Try.ntmps8
      go_wp2_with fail
      rw [← hW0, ← hgx]
      clear hW0 hgx
      go_quiet (first | (go_at_call 18; exact HS.out _))
      go_wp2_with (go_at_call 19; refine (HW.out _).mono ?_; rintro e w1 ⟨rfl, m1, rfl⟩)
      go_ret
      exact ⟨rfl, below_drewN HB.out _⟩
set_option maxHeartbeats 4000000 in
theorem rput_yes (h : RPr w F g b n next W rs) (x : It) (hn : n ≤ 64) (hx : next ≤ 100000) (i : Nat) (hil : i < n) (hxn : x.n = ((next + i : Nat) : Int)) (ha : isAt next n W x.n = false) :
    Calls Try.prog 8 #[.pointer (some ⟨g, 0, none⟩), x.val] w fun e w' => e = .returned (.int .i64 0) ∧ RPt w' F g next (W.set i (some x)) ∧ Step F F w w' := by
  obtain ⟨W0, hW0⟩ : ∃ W0, W0 = w.alloc (.cells x.cells.toArray 36) := ⟨_, rfl⟩
  obtain ⟨gx, hgx⟩ : ∃ gx, gx = w.heap.size := ⟨_, rfl⟩
  have hb : Below w.heap.size w W0 := by rw [hW0]; exact (Below.refl _ _).alloc (Nat.le_refl _) _
  have h0 := h.below hb
  have hx0 : W0.heap[gx]? = some (.cells x.cells.toArray 36 (0, 0)) := by rw [hW0, hgx]; exact heap_alloc_new w _
  have hi : inW next n x.n = true := inW_at.2 ⟨i, hil, hxn⟩
  have HW := Lib.hid fun q => within_any h0 x.n hn hx (by omega) (by omega) q
  have HS := Lib.hid fun q => has_any h0 x.n hn hx (by omega) (by omega) q
  rw [hi] at HW
  rw [ha] at HS
  have HP := Lib.hid fun q => place_any h0 (next + i) hn (by omega) (by omega) q
  rw [← hxn] at HP
  obtain ⟨j, hj⟩ : ∃ j, j = (next + i) % n := ⟨_, rfl⟩
  rw [← hj] at HP
  have HF : Hid (∀ m, RPt ((W0.drewN m).setCells b (j * 8) (plc (some x))) F g next (W.set i (some x)) ∧ Step F F w ((W0.drewN m).setCells b (j * 8) (plc (some x)))) := Lib.hid fun m => by
    refine ⟨⟨b, n, _, (h0.drawn m).set hil (some x) hj⟩, ?_⟩
    exact Step.trans ⟨Moved.of_below (below_drewN hb m) F, fun _ h => .inl h⟩ ((h0.drawn m).stepS _ _)
  have hjn : j < rs.length := by rw [h.rl, hj]; exact Nat.mod_lt _ (by omega)
  obtain ⟨y, hy⟩ : ∃ y, rs[j]? = some y := ⟨_, List.getElem?_eq_getElem hjn⟩
  have hyl := (h.row.2 y (List.mem_of_getElem? hy)).1
  have hcy : ∀ k, k < 8 → ∃ v, W0.cell? ⟨b, j * 8 + k, none⟩ = some v := fun k hk => by
    obtain ⟨b', c', e1, _, _, hc⟩ := h0.row.at hy
    injection e1 with e1
    injection e1 with e1
    injection e1 with e1
    subst e1
    exact ⟨_, hc k y[k] (List.getElem?_eq_getElem (by omega))⟩
  obtain ⟨v0, e0⟩ := hcy 0 (by decide)
  have f0 : W0.frozen? ⟨b, j * 8 + 0, none⟩ = false := h0.fp _
  obtain ⟨v1, e1⟩ := hcy 1 (by decide)
  have f1 : W0.frozen? ⟨b, j * 8 + 1, none⟩ = false := h0.fp _
  obtain ⟨v2, e2⟩ := hcy 2 (by decide)
  have f2 : W0.frozen? ⟨b, j * 8 + 2, none⟩ = false := h0.fp _
  obtain ⟨v3, e3⟩ := hcy 3 (by decide)
  have f3 : W0.frozen? ⟨b, j * 8 + 3, none⟩ = false := h0.fp _
  obtain ⟨v4, e4⟩ := hcy 4 (by decide)
  have f4 : W0.frozen? ⟨b, j * 8 + 4, none⟩ = false := h0.fp _
  obtain ⟨v5, e5⟩ := hcy 5 (by decide)
  have f5 : W0.frozen? ⟨b, j * 8 + 5, none⟩ = false := h0.fp _
  obtain ⟨v6, e6⟩ := hcy 6 (by decide)
  have f6 : W0.frozen? ⟨b, j * 8 + 6, none⟩ = false := h0.fp _
  obtain ⟨v7, e7⟩ := hcy 7 (by decide)
  have f7 : W0.frozen? ⟨b, j * 8 + 7, none⟩ = false := h0.fp _
  simp only [Nat.add_zero] at e0 f0
  have k0 := cell_of_row W0 gx 0 _ _ (0, 0) hx0
  have k1 := cell_of_row W0 gx 1 _ _ (0, 0) hx0
  have k2 := cell_of_row W0 gx 2 _ _ (0, 0) hx0
  have k3 := cell_of_row W0 gx 3 _ _ (0, 0) hx0
  have k4 := cell_of_row W0 gx 4 _ _ (0, 0) hx0
  have k5 := cell_of_row W0 gx 5 _ _ (0, 0) hx0
  have k6 := cell_of_row W0 gx 6 _ _ (0, 0) hx0
  simp only [It.cells, List.getElem?_toArray, List.getElem?_cons_zero, List.getElem?_cons_succ] at k0 k1 k2 k3 k4 k5 k6
  have c1 := h0.c1
  have hcl := item_cells
  have hcp := place_cells
  have hd : decide (x.n < (next : Int)) = false := by simp; omega
  unfold It.cells at hW0
  unfold It.val
  try dsimp only at hW0
  try dsimp only
  clear h h0 hb hx0 hi ha hj hjn hy hyl hxn hcy
  go_enter Try.func8, Try.ntmps8
  go_wp2_with fail
  rw [← hW0, ← hgx]
  clear hW0 hgx
  go_quiet (first | (go_at_call 18; exact HS.out _))
  go_wp2_with (first | (go_at_call 19; refine (HW.out _).mono ?_; rintro e w1 ⟨rfl, m1, rfl⟩))
  go_region_law (first | (go_simp; go_at_call 20; refine (HP.out _).mono ?_; rintro e w1 ⟨rfl, m2, rfl⟩) | fail)
  all_goals
    clear e0 e1 e2 e3 e4 e5 e6 e7 f0 f1 f2 f3 f4 f5 f6 f7 k0 k1 k2 k3 k4 k5 k6 c1
    go_wp2_with fail
    go_ret
    exact ⟨rfl, HF.out m2⟩
theorem rput_any (h : RPr w F g b n next W rs) (x : It) (hn1 : 1 ≤ n) (hn : n ≤ 64) (hx : next ≤ 100000) (t0 : -9223372036854775808 ≤ x.n) (t1 : x.n < 9223372036854775808) :
    Calls Try.prog 8 #[.pointer (some ⟨g, 0, none⟩), x.val] w fun e w' => e = .returned (.int .i64 (putR next W x.n)) ∧ ∃ F', RPt w' F' g next (putW next W x) ∧ Step F F' w w' := by
  by_cases hp : putR next W x.n = 0
  · have hr := room_R (n := n) (next := next) h.hn x.n
    rw [hp] at hr
    have hr2 : inW next n x.n = true ∧ isAt next n W x.n = false := by simpa using hr.symm
    obtain ⟨i, hi, hxi⟩ := inW_at.1 hr2.1
    refine (rput_yes h x hn hx i hi hxi hr2.2).mono ?_
    rintro e w' ⟨h1, h2, h3⟩
    refine ⟨by rw [hp]; exact h1, F, ?_, h3⟩
    unfold putW
    rw [if_pos hp, show (x.n - (next : Int)).toNat = i by omega]
    exact h2
  · refine (rput_no h x hn hx t0 t1 hp).mono ?_
    rintro e w' ⟨h1, h2⟩
    refine ⟨h1, F, ?_, ⟨Moved.of_below h2 F, fun _ h => .inl h⟩⟩
    unfold putW
    rw [if_neg hp]
    exact ⟨b, n, rs, h.below h2⟩
end
end Go.Proofs.Ytmpemcooianfiaa
