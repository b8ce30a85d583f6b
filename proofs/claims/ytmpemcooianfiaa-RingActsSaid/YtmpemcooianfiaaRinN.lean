/- The program's ring: Next. -/
import Derived.Test.YtmpemcooianfiaaRinP
namespace Go.Proofs.Ytmpemcooianfiaa
open Go Go.RowKit
set_option linter.unusedVariables false
set_option maxRecDepth 20000
section
variable {w w' : World} {F : Nat → Prop} {g b n next : Nat} {W : List (Option It)} {rs : List (List Value)}
set_option maxHeartbeats 4000000 in
theorem rnext_no (h : RPr w F g b n next W rs) (hn1 : 1 ≤ n) (hn : n ≤ 64) (hx : next ≤ 100000) (hh : headW W = none) :
    Calls Try.prog 10 #[.pointer (some ⟨g, 0, none⟩)] w fun e w' => e = .returned (.tuple #[(numIt 0).val, .bool false]) ∧ Below w.heap.size w w' := by
  obtain ⟨W0, hW0⟩ : ∃ W0, W0 = w.alloc (.cells (numIt 0).cells.toArray 36) := ⟨_, rfl⟩
  obtain ⟨gx, hgx⟩ : ∃ gx, gx = w.heap.size := ⟨_, rfl⟩
  have hb : Below w.heap.size w W0 := by rw [hW0]; exact (Below.refl _ _).alloc (Nat.le_refl _) _
  have h0 := h.below hb
  have hx0 : W0.heap[gx]? = some (.cells (numIt 0).cells.toArray 36 (0, 0)) := by rw [hW0, hgx]; exact heap_alloc_new w _
  have HX := Lib.hid hx0
  have HR := Lib.hid (ready_0 h0 hn hx hn1)
  rw [hh] at HR
  have HB := Lib.hid hb
  have HG : Hid (w.heap.size ≤ gx) := Lib.hid (by rw [hgx]; exact Nat.le_refl _)
  clear h h0 hb hx0 hh
  unfold It.cells numIt at hW0
  dsimp only at hW0
  unfold It.val numIt
  dsimp only
  go_enter Try.func10, Try.ntmps10
  go_wp2_with fail
  rw [← hW0, ← hgx]
  clear hW0 hgx
  go_wp2_with (first | (go_at_call 17; refine HR.out.mono ?_; rintro e w1 ⟨rfl, m1, rfl⟩) | (refine wpList_store_item rfl _ _ rfl gx _ (numIt 0).cells rfl rfl (show (W0.drewN m1).heap[gx]? = _ from HX.out) rfl rfl (numIt 0).wide.2 ?_; intro w4 hb4 hg4 hs4; have H4 := Lib.hid (((below_drewN HB.out m1).grown hg4 (below_drewN HB.out m1).size (fun k hk => by injection hk with hk; rw [← hk]; exact HG.out) : Below w.heap.size w w4)); have e0 := cell_of_row w4 gx 0 _ _ (0, 0) hb4; have e1 := cell_of_row w4 gx 1 _ _ (0, 0) hb4; have e2 := cell_of_row w4 gx 2 _ _ (0, 0) hb4; have e3 := cell_of_row w4 gx 3 _ _ (0, 0) hb4; have e4 := cell_of_row w4 gx 4 _ _ (0, 0) hb4; have e5 := cell_of_row w4 gx 5 _ _ (0, 0) hb4; have e6 := cell_of_row w4 gx 6 _ _ (0, 0) hb4; clear hb4 hg4 hs4; simp only [It.cells, numIt, List.getElem?_toArray, List.getElem?_cons_succ, List.getElem?_cons_zero] at e0 e1 e2 e3 e4 e5 e6))
  (try simp only [Exit.inBlock, Exit.then])
  refine bodyPost_ret (v := .tuple #[.agg #[.int .i64 0, .int .i64 0, .int .i64 0, .int .i64 0, .string ⟨#[]⟩, .slice none 0 0, .int .i64 0], .bool false]) ?_ rfl ⟨rfl, H4.out⟩
  rw [results_cell_tmp rfl]; go_simp
/-- A place is stored. -/
theorem wpList_store_plc {ops : Array Oper} {rest : List Oper} {op : Oper} {a : Act} {w : World} {Q : Exit → Act → World → Prop} (hgd : op.guard = none) (x y : Operand) (ho : op.op = .store 56 x y) (b o : Nat) (vs : List Value) (hx : a.eval x = .pointer (some ⟨b, o, none⟩)) (hy : a.eval y = .agg vs.toArray)
    (ht : w.there b o 8) (hv : vs.length = 8) (hv1 : ∀ u ∈ vs, u.oneCell' = true) (h : ∀ w4, w4 = w.setCells b o vs → wpList Try.prog ops Q rest (a.put op.dst undef) w4) : wpList Try.prog ops Q (op :: rest) a w := by
  refine wpList_store_mid hgd 56 x y ho b o vs.toArray hx hy (by simpa [hv] using ht) (by rw [info_szW info_place]; simp [hv]) (by simpa using hv1) ?_
  exact h _ rfl
/-- What the walk wants of the ring behind each step of Next. -/
theorem next_facts (h : RPr w F g b n next W rs) {x : It} {r : List (Option It)} (hW : W = some x :: r) {j gx : Nat} (hj : j = next % n) (hgx : gx = w.heap.size) (w1 : World) (h1 : ∃ m, w1 = (w.alloc (.cells (numIt 0).cells.toArray 36)).drewN m) (w4 : World) (h4 : w4 = (w1.alloc (.cells x.cells.toArray 36)).setCells b (j * 8) (plc none)) :
    (w1.alloc (.cells x.cells.toArray 36)).there b (j * 8) 8 ∧ (∀ k v, x.cells[k]? = some v → (w4.setCell ⟨g, 1, none⟩ (.int .i64 ((next : Int) + 1))).cell? ⟨w1.heap.size, k, none⟩ = some v) ∧ w4.cell? ⟨g, 1, none⟩ = some (.int .i64 (next : Int)) ∧ w4.frozen? ⟨g, 1, none⟩ = false ∧
      (w4.setCell ⟨g, 1, none⟩ (.int .i64 ((next : Int) + 1))).heap[gx]? = some (.cells (numIt 0).cells.toArray 36 (0, 0)) ∧
      ∀ w6, (w4.setCell ⟨g, 1, none⟩ (.int .i64 ((next : Int) + 1))).grownBy w6 (some gx) → RPt w6 F g (next + 1) (r ++ [none]) ∧ Step F F w w6 := by
  have hn : n = r.length + 1 := by rw [← h.hn, hW]; rfl
  have hn1 : 0 < n := by omega
  have hb1 : Below w.heap.size w w1 := by
    obtain ⟨m, rfl⟩ := h1
    exact below_drewN ((Below.refl _ _).alloc (Nat.le_refl _) _) m
  have hx1 : w1.heap[gx]? = some (.cells (numIt 0).cells.toArray 36 (0, 0)) := by
    obtain ⟨m, rfl⟩ := h1
    rw [hgx]
    exact heap_alloc_new w _
  have hgl : gx < w1.heap.size := (Array.getElem?_eq_some_iff.1 hx1).1
  have hb2 : Below w.heap.size w (w1.alloc (.cells x.cells.toArray 36)) := hb1.alloc hb1.size _
  have r2 := h.below hb2
  have hx2 : (w1.alloc (.cells x.cells.toArray 36)).heap[w1.heap.size]? = some (.cells x.cells.toArray 36 (0, 0)) := heap_alloc_new w1 _
  have hx3 := at_up hx1 (.cells x.cells.toArray 36)
  have hs2 : (w1.alloc (.cells x.cells.toArray 36)).heap.size = w1.heap.size + 1 := by simp
  obtain ⟨W2, hW2⟩ : ∃ W2, W2 = w1.alloc (.cells x.cells.toArray 36) := ⟨_, rfl⟩
  rw [← hW2] at h4 r2 hx2 hx3 hs2 hb2 ⊢
  have hjn : j < rs.length := by rw [h.rl, hj]; exact Nat.mod_lt _ (by omega)
  have hj0 : j = (next + 0) % n := hj
  have r4 := r2.set hn1 none hj0
  have s4 := r2.stepS (j * 8) none
  obtain ⟨g4, z4⟩ := setCells_kept b (plc none) (j * 8) W2
  rw [← h4] at r4 s4 g4 z4
  have hbl := h.bl
  have hgl2 := h.lt
  have hr4 : (W.set 0 none) = none :: r := by rw [hW]; rfl
  have r5 := r4.cnt hr4
  have r5 : RPr (w4.setCell ⟨g, 1, none⟩ (.int .i64 ((next : Int) + 1))) F g b n (next + 1) (r ++ [none]) (rs.set j (plc none)) := r5
  have s5 : Step F F w (w4.setCell ⟨g, 1, none⟩ (.int .i64 ((next : Int) + 1))) := by
    have h5 : Step F F w w4 := Step.trans ⟨Moved.of_below hb2 F, fun _ h => .inl h⟩ s4
    exact ⟨h5.1.setCell (.inl h.fg) _, h5.2⟩
  obtain ⟨W5, hW5⟩ : ∃ W5, W5 = w4.setCell ⟨g, 1, none⟩ (.int .i64 ((next : Int) + 1)) := ⟨_, rfl⟩
  have hk5 : ∀ q, q ≠ g → q ≠ b → W5.heap[q]? = W2.heap[q]? ∨ W2.heap.size ≤ q := fun q h1 h2 => by
    rcases Nat.lt_or_ge q W2.heap.size with h3 | h3
    · refine .inl ?_
      rw [hW5]
      exact (Below.heap_setCell _ _ _ _ h1).trans (g4.block q h3 (fun e => h2 (Option.some.inj e)))
    · exact .inr h3
  have hz1 := hb1.size
  rw [← hW5] at r5 s5 ⊢
  refine ⟨fun k hk => ?_, fun k v hv => ?_, r4.c1, r4.fz 1, ?_, fun w6 h6 => ?_⟩
  · obtain ⟨y, hy⟩ : ∃ y, rs[j]? = some y := ⟨_, List.getElem?_eq_getElem hjn⟩
    have hyl := (h.row.2 y (List.mem_of_getElem? hy)).1
    obtain ⟨b', c', e1, _, _, hc⟩ := r2.row.at hy
    injection e1 with e1
    injection e1 with e1
    injection e1 with e1
    subst e1
    exact ⟨by rw [hc k y[k] (List.getElem?_eq_getElem (by omega))]; rfl, r2.fp _⟩
  · rcases hk5 w1.heap.size (by omega) (by omega) with h3 | h3
    · rw [cell_of_row W5 w1.heap.size k _ _ (0, 0) (h3.trans hx2)]
      simpa using hv
    · omega
  · rcases hk5 gx (by omega) (by omega) with h3 | h3
    · exact h3.trans hx3
    · omega
  · have hgw : ¬ F gx := fun e => by have := h.low gx e; omega
    refine ⟨⟨b, n, _, r5.keep (fun k hk => h6.block k (r5.low k hk) (fun e => hgw (by injection e with e; rw [← e]; exact hk))) h6.size⟩, s5.1.grown h6 fun k hk => .inr (by injection hk with hk; omega), s5.2⟩
set_option maxHeartbeats 8000000 in
theorem rnext_yes (h : RPr w F g b n next W rs) {x : It} {r : List (Option It)} (hW : W = some x :: r) (hn1 : 1 ≤ n) (hn : n ≤ 64) (hx : next ≤ 100000) :
    Calls Try.prog 10 #[.pointer (some ⟨g, 0, none⟩)] w fun e w' => e = .returned (.tuple #[x.val, .bool true]) ∧ RPt w' F g (next + 1) (r ++ [none]) ∧ Step F F w w' := by
  obtain ⟨W0, hW0⟩ : ∃ W0, W0 = w.alloc (.cells (numIt 0).cells.toArray 36) := ⟨_, rfl⟩
  obtain ⟨gx, hgx⟩ : ∃ gx, gx = w.heap.size := ⟨_, rfl⟩
  have hb : Below w.heap.size w W0 := by rw [hW0]; exact (Below.refl _ _).alloc (Nat.le_refl _) _
  have h0 := h.below hb
  have HR := Lib.hid (ready_0 h0 hn hx hn1)
  rw [show (headW W).isSome = true by rw [hW]; rfl] at HR
  have HP := Lib.hid fun q => place_any h0 next hn (by omega) hn1 q
  obtain ⟨j, hj⟩ : ∃ j, j = next % n := ⟨_, rfl⟩
  rw [← hj] at HP
  have hpl := h0.pl (i := 0) (o := some x) (by rw [hW]; rfl) (j := j) hj
  have HC : Hid (∀ w1, (∃ m, w1 = W0.drewN m) → ∀ k v, (plc (some x))[k]? = some v → w1.cell? ⟨b, j * 8 + k, none⟩ = some v) := Lib.hid fun w1 ⟨m, e⟩ k v hv => by subst e; exact hpl k v hv
  have HN := Lib.hid fun w1 h1 w4 h4 => next_facts h hW hj hgx w1 (by rw [← hW0]; exact h1) w4 h4
  have HXW := Lib.hid x.wide
  have c1 := h0.c1
  have hcl := item_cells
  have hcp := place_cells
  have ew : IntKind.i64.wrap ((next : Int) + 1) = (next : Int) + 1 := by simp [IntKind.wrap, IntKind.bits, IntKind.signed]; omega
  clear h h0 hb hpl hj hW
  unfold It.cells numIt at hW0
  try dsimp only at hW0
  unfold It.val
  try dsimp only
  go_enter Try.func10, Try.ntmps10
  go_wp2_with fail
  rw [← hW0, ← hgx]
  clear hW0 hgx
  go_wp2_with (first | (go_at_call 17; refine HR.out.mono ?_; rintro e w1 ⟨rfl, m1, rfl⟩) | (go_at_call 20; refine (HP.out _).mono ?_; rintro e w1 ⟨rfl, m2, hw1⟩; have hC := HC.out w1 ⟨m2, hw1⟩; have HN1 := Lib.hid (HN.out w1 ⟨m2, hw1⟩); have d0 := hC 0 _ rfl; have d1 := hC 1 _ rfl; have d2 := hC 2 _ rfl; have d3 := hC 3 _ rfl; have d4 := hC 4 _ rfl; have d5 := hC 5 _ rfl; have d6 := hC 6 _ rfl; simp only [Nat.add_zero] at d0; clear hC hw1 c1) | (refine wpList_store_plc rfl _ _ rfl b (j * 8) (plc none) rfl rfl (HN1.out _ rfl).1 rfl (plc_wide none).2 ?_; intro w4 hw4; obtain ⟨-, hk, c1, f1, hz, hfin⟩ := HN1.out w4 hw4; have HFIN := Lib.hid hfin; have HZ := Lib.hid hz; have k0 := hk 0 _ rfl; have k1 := hk 1 _ rfl; have k2 := hk 2 _ rfl; have k3 := hk 3 _ rfl; have k4 := hk 4 _ rfl; have k5 := hk 5 _ rfl; have k6 := hk 6 _ rfl; clear hk hz hfin hw4 d0 d1 d2 d3 d4 d5 d6) | (refine wpList_store_item rfl _ _ rfl gx _ x.cells rfl rfl HZ.out rfl rfl HXW.out.2 ?_; intro w6 hb6 hg6 hs6; have H6 := Lib.hid (HFIN.out w6 hg6); have e0 := cell_of_row w6 gx 0 _ _ (0, 0) hb6; have e1 := cell_of_row w6 gx 1 _ _ (0, 0) hb6; have e2 := cell_of_row w6 gx 2 _ _ (0, 0) hb6; have e3 := cell_of_row w6 gx 3 _ _ (0, 0) hb6; have e4 := cell_of_row w6 gx 4 _ _ (0, 0) hb6; have e5 := cell_of_row w6 gx 5 _ _ (0, 0) hb6; have e6 := cell_of_row w6 gx 6 _ _ (0, 0) hb6; clear hb6 hg6 hs6; simp only [It.cells, List.getElem?_toArray, List.getElem?_cons_succ, List.getElem?_cons_zero] at e0 e1 e2 e3 e4 e5 e6))
  (try simp only [Exit.inBlock, Exit.then])
  refine bodyPost_ret (v := .tuple #[.agg #[.int .i64 x.n, .int .i64 x.b, .int .i64 x.rn, .int .i64 x.ra, .string x.tx, .slice x.hA x.hm x.hc, .int .i64 x.e], .bool true]) ?_ rfl ⟨rfl, H6.out⟩
  rw [results_cell_tmp rfl]; go_simp
theorem rnext_any (h : RPr w F g b n next W rs) (hn1 : 1 ≤ n) (hn : n ≤ 64) (hx : next ≤ 100000) :
    Calls Try.prog 10 #[.pointer (some ⟨g, 0, none⟩)] w fun e w' => e = .returned (.tuple #[(nextX W).val, .bool (headW W).isSome]) ∧ ∃ F', RPt w' F' g (nextN next W) (tailW W) ∧ Step F F' w w' := by
  rcases hc : W with _ | ⟨_ | x, r⟩
  · have := h.hn; rw [hc] at this; simp at this; omega
  · refine (rnext_no h hn1 hn hx (by rw [hc]; rfl)).mono ?_
    rintro e w' ⟨h1, h2⟩
    exact ⟨h1, F, ⟨b, n, rs, by have := h.below h2; rw [hc] at this; exact this⟩, ⟨Moved.of_below h2 F, fun _ h => .inl h⟩⟩
  · refine (rnext_yes h hc hn1 hn hx).mono ?_
    rintro e w' ⟨h1, h2, h3⟩
    exact ⟨h1, F, h2, h3⟩
end
end Go.Proofs.Ytmpemcooianfiaa
