/- The document's Give and Room. -/
import Derived.Test.YtmpemcooianfiaaDrgP
namespace Go.Proofs.Ytmpemcooianfiaa
open Go Go.RowKit
set_option linter.unusedVariables false
set_option maxRecDepth 20000
section
variable {w w' : World} {B r c n next : Nat} {D : Nat → Prop} {A : Option Addr} {L : List It}
set_option maxHeartbeats 4000000 in
theorem dgive_none (h : DrgC w B D r A c n next L) (hn : ∀ y, L[0]? = some y → y.n ≠ (next : Int)) (hl : L.length ≤ 1000) :
    Calls Try.prog 11 #[.pointer (some ⟨r, 0, none⟩)] w fun e w' => e = .returned (.tuple #[(numIt 0).val, .bool false]) ∧ Below w.heap.size w w' := by
  obtain ⟨W0, hW0⟩ : ∃ W0, W0 = w.alloc (.cells (numIt 0).cells.toArray 36) := ⟨_, rfl⟩
  have hb : Below w.heap.size w W0 := by rw [hW0]; exact (Below.refl _ _).alloc (Nat.le_refl _) _
  have hx0 : W0.heap[w.heap.size]? = some (.cells (numIt 0).cells.toArray 36 (0, 0)) := by rw [hW0]; exact heap_alloc_new _ _
  obtain ⟨gx, hgx⟩ : ∃ gx, gx = w.heap.size := ⟨_, rfl⟩
  rw [← hgx] at hx0
  have h0 := h.below hb
  have c0 := h0.c0
  have c2 := h0.c2
  have HB := Lib.hid hb
  have HX := Lib.hid hx0
  have hic := item_cells
  obtain ⟨m, hm⟩ : ∃ m, m = L.length := ⟨_, rfl⟩
  rw [← hm] at c0 hl
  have HGX := Lib.hid hgx
  have hfin : ∀ q w4, (W0.drewN q).grownBy w4 (some gx) → Hid (Below w.heap.size w w4) := fun q w4 hg => Lib.hid ((below_drewN HB.out q).grown hg HB.out.size fun k hk => by injection hk with hk; omega)
  have HFIN := Lib.hid hfin
  have hcase : m = 0 ∨ ∃ b o, A = some ⟨b, o, none⟩ ∧ ∃ y : It, y.n ≠ (next : Int) ∧ b < W0.heap.size ∧ W0.cell? ⟨b, o, none⟩ = some (.int .i64 y.n) := by
    rcases Nat.eq_zero_or_pos m with h1 | h1
    · exact .inl h1
    · obtain ⟨b, o, hA, -, hbw, hc⟩ := h0.rd.2 (by rw [← hm]; exact h1)
      obtain ⟨y, hy⟩ : ∃ y, L[0]? = some y := ⟨_, List.getElem?_eq_getElem (by rw [← hm]; exact h1)⟩
      refine .inr ⟨b, o, hA, y, hn y hy, hbw, ?_⟩
      have := hc 0 y.cells (by simp [hy]) 0 _ rfl
      simpa using this
  clear h h0 hb hx0 hn hm hfin
  unfold It.cells numIt at hW0
  dsimp only at hW0
  unfold It.val numIt
  rcases hcase with rfl | ⟨b, o, rfl, y, hy, hbw, d0⟩
  · go_enter Try.func11, Try.ntmps11
    go_wp2_with fail
    rw [← hW0, ← hgx]
    clear hW0 hgx
    go_quiet (fail)
    rename Nat => q1
    go_wp2_with (refine wpList_store_item rfl _ _ rfl gx _ (numIt 0).cells rfl rfl (show (W0.drewN q1).heap[gx]? = _ from HX.out) rfl rfl (numIt 0).wide.2 ?_; intro w4 hb4 hg4 hs4; have H4 := HFIN.out q1 w4 hg4; have e0 := cell_of_row w4 gx 0 _ _ (0, 0) hb4; have e1 := cell_of_row w4 gx 1 _ _ (0, 0) hb4; have e2 := cell_of_row w4 gx 2 _ _ (0, 0) hb4; have e3 := cell_of_row w4 gx 3 _ _ (0, 0) hb4; have e4 := cell_of_row w4 gx 4 _ _ (0, 0) hb4; have e5 := cell_of_row w4 gx 5 _ _ (0, 0) hb4; have e6 := cell_of_row w4 gx 6 _ _ (0, 0) hb4; clear hb4 hg4 hs4; simp only [It.cells, numIt, List.getElem?_toArray, List.getElem?_cons_succ, List.getElem?_cons_zero] at e0 e1 e2 e3 e4 e5 e6)
    (try simp only [Exit.inBlock, Exit.then])
    refine bodyPost_ret (v := .tuple #[.agg #[.int .i64 0, .int .i64 0, .int .i64 0, .int .i64 0, .string ⟨#[]⟩, .slice none 0 0, .int .i64 0], .bool false]) ?_ rfl ⟨rfl, H4.out⟩
    rw [results_cell_tmp rfl]; go_simp
  · have hyb : (y.n == (next : Int)) = false := by simpa using hy
    by_cases hm0 : m = 0
    · subst hm0
      clear d0 hyb hy
      go_enter Try.func11, Try.ntmps11
      go_wp2_with fail
      rw [← hW0, ← hgx]
      clear hW0 hgx
      go_quiet (fail)
      rename Nat => q1
      go_wp2_with (refine wpList_store_item rfl _ _ rfl gx _ (numIt 0).cells rfl rfl (show (W0.drewN q1).heap[gx]? = _ from HX.out) rfl rfl (numIt 0).wide.2 ?_; intro w4 hb4 hg4 hs4; have H4 := HFIN.out q1 w4 hg4; have e0 := cell_of_row w4 gx 0 _ _ (0, 0) hb4; have e1 := cell_of_row w4 gx 1 _ _ (0, 0) hb4; have e2 := cell_of_row w4 gx 2 _ _ (0, 0) hb4; have e3 := cell_of_row w4 gx 3 _ _ (0, 0) hb4; have e4 := cell_of_row w4 gx 4 _ _ (0, 0) hb4; have e5 := cell_of_row w4 gx 5 _ _ (0, 0) hb4; have e6 := cell_of_row w4 gx 6 _ _ (0, 0) hb4; clear hb4 hg4 hs4; simp only [It.cells, numIt, List.getElem?_toArray, List.getElem?_cons_succ, List.getElem?_cons_zero] at e0 e1 e2 e3 e4 e5 e6)
      (try simp only [Exit.inBlock, Exit.then])
      refine bodyPost_ret (v := .tuple #[.agg #[.int .i64 0, .int .i64 0, .int .i64 0, .int .i64 0, .string ⟨#[]⟩, .slice none 0 0, .int .i64 0], .bool false]) ?_ rfl ⟨rfl, H4.out⟩
      rw [results_cell_tmp rfl]; go_simp
    · have hmb : ((m : Int) == 0) = false := by simpa using hm0
      have hpos : 0 < m := by omega
      have hne : ¬ (m : Int) = 0 := by omega
      clear hy hm0
      go_enter Try.func11, Try.ntmps11
      go_wp2_with fail
      rw [← hW0, ← hgx]
      clear hW0 hgx
      go_quiet (fail)
      rename Nat => q1
      go_wp2_with (refine wpList_store_item rfl _ _ rfl gx _ (numIt 0).cells rfl rfl (show (W0.drewN q1).heap[gx]? = _ from HX.out) rfl rfl (numIt 0).wide.2 ?_; intro w4 hb4 hg4 hs4; have H4 := HFIN.out q1 w4 hg4; have e0 := cell_of_row w4 gx 0 _ _ (0, 0) hb4; have e1 := cell_of_row w4 gx 1 _ _ (0, 0) hb4; have e2 := cell_of_row w4 gx 2 _ _ (0, 0) hb4; have e3 := cell_of_row w4 gx 3 _ _ (0, 0) hb4; have e4 := cell_of_row w4 gx 4 _ _ (0, 0) hb4; have e5 := cell_of_row w4 gx 5 _ _ (0, 0) hb4; have e6 := cell_of_row w4 gx 6 _ _ (0, 0) hb4; clear hb4 hg4 hs4; simp only [It.cells, numIt, List.getElem?_toArray, List.getElem?_cons_succ, List.getElem?_cons_zero] at e0 e1 e2 e3 e4 e5 e6)
      (try simp only [Exit.inBlock, Exit.then])
      refine bodyPost_ret (v := .tuple #[.agg #[.int .i64 0, .int .i64 0, .int .i64 0, .int .i64 0, .string ⟨#[]⟩, .slice none 0 0, .int .i64 0], .bool false]) ?_ rfl ⟨rfl, H4.out⟩
      rw [results_cell_tmp rfl]; go_simp
set_option maxHeartbeats 8000000 in
theorem dgive_some {y : It} {R : List It} (h : DrgC w B D r A c n next (y :: R)) (hy : y.n = (next : Int)) (hl : R.length ≤ 1000) (hnx : next ≤ 1000000) :
    Calls Try.prog 11 #[.pointer (some ⟨r, 0, none⟩)] w fun e w' => e = .returned (.tuple #[y.val, .bool true]) ∧ DrgS w' B D r n (next + 1) R ∧ Moved D w w' := by
  obtain ⟨yn, yb, yr, ya, yt, yA, ym, yc, yh, ye⟩ := y
  change yn = (next : Int) at hy
  subst hy
  obtain ⟨y, hy0⟩ : ∃ y : It, y = ⟨(next : Int), yb, yr, ya, yt, yA, ym, yc, yh, ye⟩ := ⟨_, rfl⟩
  rw [← hy0] at h ⊢
  obtain ⟨W0, hW0⟩ : ∃ W0, W0 = w.alloc (.cells (numIt 0).cells.toArray 36) := ⟨_, rfl⟩
  have hb : Below w.heap.size w W0 := by rw [hW0]; exact (Below.refl _ _).alloc (Nat.le_refl _) _
  have hx0 : W0.heap[w.heap.size]? = some (.cells (numIt 0).cells.toArray 36 (0, 0)) := by rw [hW0]; exact heap_alloc_new _ _
  have hz0 : W0.heap.size = w.heap.size + 1 := by rw [hW0]; simp
  obtain ⟨gx, hgx⟩ : ∃ gx, gx = w.heap.size := ⟨_, rfl⟩
  rw [← hgx] at hx0 hz0
  have h0 := h.below hb
  have c0 := h0.c0
  have c2 := h0.c2
  obtain ⟨b, o, rfl, -, hbw, hc⟩ := h0.rd.2 (by simp)
  obtain ⟨m, hm⟩ : ∃ m, m = R.length := ⟨_, rfl⟩
  rw [List.length_cons, ← hm] at c0
  have hc0 := fun i v hv => hc 0 y.cells rfl i v hv
  have d0 := hc0 0 _ rfl
  simp only [Nat.zero_mul, Nat.add_zero] at d0
  rw [show y.n = (next : Int) by rw [hy0]] at d0
  have hic := item_cells
  have HC := Lib.hid hc0
  -- behind the first region
  have key : ∀ U : World, Below W0.heap.size W0 U → U.heap.size = W0.heap.size → ∃ A2 c2', (∀ w : World, (Instr.slice 29 (.slice (some ⟨b, o, none⟩) (m + 1) c) (some (.int .i64 1)) none none).run Try.prog w = .ok (.slice A2 m c2') w) ∧
      (U.alloc (.cells y.cells.toArray 36)).cell? ⟨r, 0, none⟩ = some (.slice (some ⟨b, o, none⟩) (m + 1) c) ∧ (U.alloc (.cells y.cells.toArray 36)).frozen? ⟨r, 0, none⟩ = false ∧
      ((U.alloc (.cells y.cells.toArray 36)).setCell ⟨r, 0, none⟩ (.slice A2 m c2')).cell? ⟨r, 2, none⟩ = some (.int .i64 (next : Int)) ∧ ((U.alloc (.cells y.cells.toArray 36)).setCell ⟨r, 0, none⟩ (.slice A2 m c2')).frozen? ⟨r, 2, none⟩ = false ∧
      Hid (∃ W2, W2 = ((U.alloc (.cells y.cells.toArray 36)).setCell ⟨r, 0, none⟩ (.slice A2 m c2')).setCell ⟨r, 2, none⟩ (.int .i64 ((next : Int) + 1)) ∧ W2.heap[gx]? = some (.cells (numIt 0).cells.toArray 36 (0, 0)) ∧ W2.heap[gx + 1]? = some (.cells y.cells.toArray 36 (0, 0)) ∧ DrgS W2 B D r n (next + 1) R ∧ Moved D w W2) := by
    intro U hU hUs
    have h1 := (h0.below hU).below ((Below.refl U.heap.size U).alloc (Nat.le_refl _) (.cells y.cells.toArray 36))
    obtain ⟨A2, c2', hs, hn2, hr2, ha2, hl2, hm2⟩ := h1.tail (k := 1) (by simp)
    have hrs : ReadR 0 ((U.alloc (.cells y.cells.toArray 36)).setCell ⟨r, 0, none⟩ (.slice A2 m c2')) A2 m 7 (R.map It.cells) := by
      have e1 : (y :: R).length - 1 = m := by simp [hm]
      rw [e1] at hr2
      refine ⟨hr2.1, fun h0 => ?_⟩
      obtain ⟨b2, o2, hA2, hb0, hlt, hcc⟩ := hr2.2 h0
      refine ⟨b2, o2, hA2, hb0, by simpa using hlt, fun j x hx i u hu => ?_⟩
      rw [World.cell?_of_block (w := U.alloc (.cells y.cells.toArray 36)) (a := ⟨b2, o2 + j * 7 + i, none⟩) (Below.heap_setCell _ _ _ _ (ha2 _ hA2).2)]
      exact hcc j x hx i u hu
    have e1 : (y :: R).length - 1 = m := by simp [hm]
    have e2 : (y :: R).length = m + 1 := by simp [hm]
    rw [e1] at hl2 hs
    rw [e2] at hs
    have k0 := h1.c0
    rw [e2] at k0
    have h3 : DrgC ((U.alloc (.cells y.cells.toArray 36)).setCell ⟨r, 0, none⟩ (.slice A2 m c2')) B D r A2 c2' n next R := by
      refine ⟨fun k hk => by simpa using h1.low k hk, h1.dr, ha2, ?_, by rw [← hm]; exact hrs, by omega, hm2, hn2⟩
      rw [← hm]
      exact heap_setCell_same _ r 0 _ _ _ h1.blk
    have h4 := h3.setN (next + 1)
    rw [show ((next + 1 : Nat) : Int) = (next : Int) + 1 by omega] at h4
    have hrl := h.lt
    have hbU : Below w.heap.size w U := hb.trans (hU.mono hb.size)
    refine ⟨A2, c2', hs, k0, h1.fz 0, h3.c2, h3.fz 2, Lib.hid ⟨_, rfl, ?_, ?_, ⟨A2, c2', h4⟩, ?_⟩⟩
    · rw [Below.heap_setCell _ _ _ _ (show gx ≠ r by omega), Below.heap_setCell _ _ _ _ (show gx ≠ r by omega)]
      exact at_up ((hU.block gx (by omega)).trans hx0) _
    · rw [Below.heap_setCell _ _ _ _ (show gx + 1 ≠ r by omega), Below.heap_setCell _ _ _ _ (show gx + 1 ≠ r by omega)]
      exact at_new _ _ (by omega)
    · exact (((Moved.of_below hbU D).alloc _).setCell (p := ⟨r, 0, none⟩) (.inl h.dr) _).setCell (p := ⟨r, 2, none⟩) (.inl h.dr) _
  have HK := Lib.hid key
  have HYW := Lib.hid y.wide
  have hlow := h.low
  have HFIN := Lib.hid fun (W2 w6 : World) (hd : DrgS W2 B D r n (next + 1) R) (hmv : Moved D w W2) (hz : w.heap.size ≤ gx) (hg : W2.grownBy w6 (some gx)) (hs : w6.heap.size = W2.heap.size) => (by
    obtain ⟨A9, c9, hd⟩ := hd
    exact ⟨⟨A9, c9, hd.keep (fun k hk => hg.block k (hd.low k hk).2 fun e => by injection e with e; have := (hlow k hk).2; omega) (Nat.le_of_eq hs.symm)⟩, hmv.grown hg fun k hk => .inr (by injection hk with hk; omega)⟩ : DrgS w6 B D r n (next + 1) R ∧ Moved D w w6)
  have HGX := Lib.hid hgx
  clear h h0 hc hc0 hb hx0 key hm hlow
  subst hy0
  unfold It.cells numIt at hW0
  dsimp only at hW0
  unfold It.val
  dsimp only
  go_enter Try.func11, Try.ntmps11
  go_wp2_with fail
  rw [← hW0, ← hgx]
  clear hW0 hgx
  go_quiet (fail)
  rename Nat => q1
  obtain ⟨A2, c2', hs, k0, f0, k2, f2, HF⟩ := HK.out (W0.drewN q1) (below_drewN (Below.refl _ _) _) rfl
  obtain ⟨W2, hW2, hy1, hy2, hds, hmv⟩ := HF.out
  have d0 := show (W0.drewN q1).cell? _ = _ from HC.out 0 _ rfl
  have d1 := show (W0.drewN q1).cell? _ = _ from HC.out 1 _ rfl
  have d2 := show (W0.drewN q1).cell? _ = _ from HC.out 2 _ rfl
  have d3 := show (W0.drewN q1).cell? _ = _ from HC.out 3 _ rfl
  have d4 := show (W0.drewN q1).cell? _ = _ from HC.out 4 _ rfl
  have d5 := show (W0.drewN q1).cell? _ = _ from HC.out 5 _ rfl
  have d6 := show (W0.drewN q1).cell? _ = _ from HC.out 6 _ rfl
  dsimp only at d0 d1 d2 d3 d4 d5 d6
  simp only [Nat.zero_mul, Nat.add_zero] at d0 d1 d2 d3 d4 d5 d6
  rw [show gx + 1 = (W0.drewN q1).heap.size from hz0.symm] at hy2
  have e0 := cell_of_row W2 (W0.drewN q1).heap.size 0 _ _ (0, 0) hy2
  have e1 := cell_of_row W2 (W0.drewN q1).heap.size 1 _ _ (0, 0) hy2
  have e2 := cell_of_row W2 (W0.drewN q1).heap.size 2 _ _ (0, 0) hy2
  have e3 := cell_of_row W2 (W0.drewN q1).heap.size 3 _ _ (0, 0) hy2
  have e4 := cell_of_row W2 (W0.drewN q1).heap.size 4 _ _ (0, 0) hy2
  have e5 := cell_of_row W2 (W0.drewN q1).heap.size 5 _ _ (0, 0) hy2
  have e6 := cell_of_row W2 (W0.drewN q1).heap.size 6 _ _ (0, 0) hy2
  simp only [It.cells, List.getElem?_toArray, List.getElem?_cons_succ, List.getElem?_cons_zero] at e0 e1 e2 e3 e4 e5 e6
  have HY1 := Lib.hid hy1
  have HFF := Lib.hid (HFIN.out W2 · hds hmv (by have := HGX.out; omega))
  clear hy1 hy2 hds hmv HF HK HFIN hz0 c2
  have c0' : (W0.drewN q1).cell? ⟨r, 0, none⟩ = _ := c0
  clear c0 hbw
  subst hW2
  generalize W0.drewN q1 = U at *
  unfold It.cells at k0 f0 k2 f2 e0 e1 e2 e3 e4 e5 e6 HY1 HFF
  dsimp only at k0 f0 k2 f2 e0 e1 e2 e3 e4 e5 e6
  go_wp2_with (first
    | (refine wpList_store_item rfl (.tmp 2) (.tmp 47) rfl gx _ (It.cells ⟨(next : Int), yb, yr, ya, yt, yA, ym, yc, yh, ye⟩) rfl rfl HY1.out rfl HYW.out.1 HYW.out.2 ?_; intro w6 hb6 hg6 hs6; clear e0 e1 e2 e3 e4 e5 e6; have H6 := Lib.hid (HFF.out w6 hg6 hs6); have g0 := cell_of_row w6 _ 0 _ _ (0, 0) hb6; have g1 := cell_of_row w6 _ 1 _ _ (0, 0) hb6; have g2 := cell_of_row w6 _ 2 _ _ (0, 0) hb6; have g3 := cell_of_row w6 _ 3 _ _ (0, 0) hb6; have g4 := cell_of_row w6 _ 4 _ _ (0, 0) hb6; have g5 := cell_of_row w6 _ 5 _ _ (0, 0) hb6; have g6 := cell_of_row w6 _ 6 _ _ (0, 0) hb6; clear hb6 hg6 hs6; simp only [It.cells, List.getElem?_toArray, List.getElem?_cons_succ, List.getElem?_cons_zero] at g0 g1 g2 g3 g4 g5 g6))
  (try simp only [Exit.inBlock, Exit.then])
  refine bodyPost_ret (v := .tuple #[.agg #[.int .i64 (next : Int), .int .i64 yb, .int .i64 yr, .int .i64 ya, .string yt, .slice yA ym yc, .int .i64 ye], .bool true]) ?_ rfl ⟨rfl, H6.out⟩
  rw [results_cell_tmp rfl]; go_simp
set_option maxHeartbeats 4000000 in
theorem droom_out (h : DrgC w B D r A c n next L) (t : Int) (ht : t < (next : Int) ∨ (n : Int) ≤ t - (next : Int)) (h0 : -9223372036854775808 ≤ t) (h1 : t < 9223372036854775808) (hnx : next ≤ 1000000) :
    Calls Try.prog 14 #[.pointer (some ⟨r, 0, none⟩), .int .i64 t] w fun e w' => e = .returned (.bool false) ∧ ∃ q, w' = w.drewN q := by
  have c1 := h.c1
  have c2 := h.c2
  by_cases hlt : t < (next : Int)
  · clear h ht h0 h1
    go_enter Try.func14, Try.ntmps14
    go_wp2_with fail
    go_quiet (fail)
    go_wp2_with fail
    go_ret
    exact ⟨rfl, _, rfl⟩
  · have hge := ht.resolve_left hlt
    have ew : IntKind.i64.wrap (t - (next : Int)) = t - (next : Int) := by simp [IntKind.wrap, IntKind.bits, IntKind.signed]; omega
    clear h ht h0 h1
    go_enter Try.func14, Try.ntmps14
    go_wp2_with fail
    go_quiet (fail)
    go_wp2_with fail
    go_ret
    exact ⟨rfl, _, rfl⟩
set_option maxHeartbeats 4000000 in
theorem droom_in (h : DrgC w B D r A c n next L) (t : Int) (ht0 : (next : Int) ≤ t) (ht : t - (next : Int) < (n : Int)) (h1 : t < 9223372036854775808) (hl : L.length ≤ 1000) :
    Calls Try.prog 14 #[.pointer (some ⟨r, 0, none⟩), .int .i64 t] w fun e w' => e = .returned (.bool (!(L.any fun y => y.n == t))) ∧ ∃ q, w' = w.drewN q := by
  have c1 := h.c1
  have c2 := h.c2
  have c0 := h.c0
  have hrd := h.rd
  obtain ⟨m, hm⟩ : ∃ m, m = L.length := ⟨_, rfl⟩
  have HM := Lib.hid hm
  have HRD := Lib.hid hrd
  rw [← hm] at c0 hl
  have ew : IntKind.i64.wrap (t - (next : Int)) = t - (next : Int) := by simp [IntKind.wrap, IntKind.bits, IntKind.signed]; omega
  have hlt : ¬ t < (next : Int) := by omega
  have hge : ¬ (n : Int) ≤ t - (next : Int) := by omega
  have hic := item_cells
  obtain ⟨v, hv⟩ : ∃ v, v = !(L.any fun y => y.n == t) := ⟨_, rfl⟩
  rw [← hv]
  have HV := Lib.hid hv
  clear h hrd hm ht0 ht h1 hv
  go_enter Try.func14, Try.ntmps14
  go_wp2_with fail
  go_quiet (fail)
  rename Nat => q1
  go_wp2_with fail
  go_loopw [5] (fun vi wr => ∃ (k : Nat), vi = .int .i64 (k : Int) ∧ k ≤ m ∧ wr = w.drewN q1 ∧ Hid ((L.take k).any (fun y => y.n == t) = false)) (fun vi _ => m - (intOf vi).toNat)
  case atStart => exact ⟨0, rfl, Nat.zero_le _, rfl, Lib.hid rfl⟩
  case round =>
    obtain ⟨k, rfl, hk, rfl, HO⟩ := hrel
    by_cases hkm : k < m
    · obtain ⟨b, o, rfl, -, hbw, hc⟩ := HRD.out.2 (by rw [← HM.out]; omega)
      obtain ⟨y, hy⟩ : ∃ y, L[k]? = some y := ⟨_, List.getElem?_eq_getElem (by rw [← HM.out]; exact hkm)⟩
      have d0 := hc k y.cells (by simp [hy]) 0 _ rfl
      simp only [Nat.add_zero] at d0
      have hsn := take_snocW hy
      cases hyt : (y.n == t) with
      | true =>
        have hany : (L.any fun y => y.n == t) = true := List.any_eq_true.2 ⟨y, List.mem_of_getElem? hy, hyt⟩
        have HVT : Hid (v = false) := Lib.hid (by rw [HV.out, hany]; rfl)
        have e0 : y.n = t := by simpa using hyt
        rw [e0] at d0
        clear hc hy hsn hyt e0 hany
        go_wp2_with fail
        go_ret
        exact ⟨by rw [HVT.out]; rfl, _, rfl⟩
      | false =>
        have HN : Hid ((L.take (k + 1)).any (fun y => y.n == t) = false) := Lib.hid (by rw [hsn, List.any_append, HO.out]; simp [hyt])
        clear hc hy hsn
        go_wp2_with fail
        exact ⟨⟨k + 1, by go_num, by omega, trivial, HN⟩, by simp [intOf]; omega⟩
    · have hkm' : k = m := by omega
      subst hkm'
      have hany : (L.any fun y => y.n == t) = false := by
        have := HO.out
        rwa [List.take_of_length_le (by rw [HM.out]; exact Nat.le_refl _)] at this
      have HVT : Hid (v = true) := Lib.hid (by rw [HV.out, hany]; rfl)
      clear hany
      go_wp2_with fail
      go_ret
      exact ⟨by rw [HVT.out]; rfl, _, rfl⟩
end
end Go.Proofs.Ytmpemcooianfiaa
