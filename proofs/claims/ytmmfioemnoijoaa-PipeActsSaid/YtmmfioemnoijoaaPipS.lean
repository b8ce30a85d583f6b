/- Send. -/
import Derived.Test.YtmmfioemnoijoaaPipR
namespace Go.Proofs.Ytmmfioemnoijoaa
open Go Go.RowKit
set_option linter.unusedVariables false
set_option maxRecDepth 20000

theorem Step.of_set {w w' : World} {F : Nat → Prop} {g j : Nat} {v : Value} {row : Option Nat} (hg : w.grownBy w' row) (hF : ∀ k, row = some k → F k ∨ w.heap.size ≤ k) (fg : F g) :
    Step F (fun k => F k ∨ (w.heap.size ≤ k ∧ k < w'.heap.size)) w (w'.setCell ⟨g, j, none⟩ v) := by
  refine ⟨((Moved.refl F w).grown hg hF).setCell (p := ⟨g, j, none⟩) (.inl fg) _, fun k hk => ?_⟩
  rcases hk with hk | hk
  · exact .inl hk
  · exact .inr hk.1
section
variable {w w' : World} {B g room : Nat} {F : Nat → Prop} {IV OV : Value} {ins : List It} {ofs : List (Int × It)} {sent : Int} {closed : Bool}
/-- append of an item that lies in a block of its own, and the store of the row. -/
theorem PipeC.push (h : PipeC w B F g IV OV room ins ofs sent closed) {x : It} {d : Nat} (hd : w.heap[d]? = some (.cells x.cells.toArray 36 (0, 0))) (hn : ins.length ≤ 100000) :
    ∃ A' c' w', (Builtin.append_ #[51, 51] 51 #[IV, .slice (some ⟨d, 0, none⟩) 1 1]).run Try.prog w = .ok (.slice A' (ins.length + 1) c') w' ∧
      w'.cell? ⟨g, 1, none⟩ = some IV ∧ w'.frozen? ⟨g, 1, none⟩ = false ∧
      PipeC (w'.setCell ⟨g, 1, none⟩ (.slice A' (ins.length + 1) c')) B (fun k => F k ∨ (w.heap.size ≤ k ∧ k < w'.heap.size)) g (.slice A' (ins.length + 1) c') OV room (ins ++ [x]) ofs sent closed ∧ Step F (fun k => F k ∨ (w.heap.size ≤ k ∧ k < w'.heap.size)) w (w'.setCell ⟨g, 1, none⟩ (.slice A' (ins.length + 1) c')) := by
  have hr := read_one hd x.wide
  obtain ⟨V', w', h1, h2, h3, h4, _⟩ := h.ri.app 51 36 _ 7 80 Try.underlying51 info_item rfl (by decide) hr (fun h => by cases h) (by rw [List.length_map]; unfold maxLen; omega) (by rw [List.length_map]; omega) (Nat.zero_le _)
  have hat : ∀ k, V'.ownBlock = some k → IV.ownBlock = some k ∨ w.heap.size ≤ k := by
    intro k hk
    rcases h4 with h4 | h4
    · exact .inl (h4 ▸ hk)
    · rw [h4] at hk; injection hk with hk; exact .inr (by omega)
  have h2' : RecW w' 0 36 7 V' ((ins ++ [x]).map It.cells) := by rw [List.map_append]; exact h2
  obtain ⟨A', c', hV, _⟩ := h2'.slice
  rw [show ((ins ++ [x]).map It.cells).length = ins.length + 1 by simp] at hV
  subst hV
  have hgg := (h3.block g h.lt (fun e => h.ne1 e.symm)).trans h.blk
  exact ⟨A', c', w', h1, cell_of_row w' g 1 _ _ (0, 0) hgg, by simp [World.frozen?, hgg], h.setI _ _ h3 h2' hat, Step.of_set h3 (fun k hk => .inl (h.fi k hk)) h.fg⟩
/-- append of an offer that lies in a block of its own, and the store of the row. -/
theorem PipeC.pushO (h : PipeC w B F g IV OV room ins ofs sent closed) {x : Int × It} {d : Nat} (hd : w.heap[d]? = some (.cells (ofCells x).toArray 64 (0, 0))) (hn : ofs.length ≤ 100000) :
    ∃ A' c' w', (Builtin.append_ #[60, 60] 60 #[OV, .slice (some ⟨d, 0, none⟩) 1 1]).run Try.prog w = .ok (.slice A' (ofs.length + 1) c') w' ∧
      w'.cell? ⟨g, 2, none⟩ = some OV ∧ w'.frozen? ⟨g, 2, none⟩ = false ∧
      PipeC (w'.setCell ⟨g, 2, none⟩ (.slice A' (ofs.length + 1) c')) B (fun k => F k ∨ (w.heap.size ≤ k ∧ k < w'.heap.size)) g IV (.slice A' (ofs.length + 1) c') room ins (ofs ++ [x]) sent closed ∧ Step F (fun k => F k ∨ (w.heap.size ≤ k ∧ k < w'.heap.size)) w (w'.setCell ⟨g, 2, none⟩ (.slice A' (ofs.length + 1) c')) := by
  have hr := read_one hd (of_wide x)
  obtain ⟨V', w', h1, h2, h3, h4, _⟩ := h.ro.app 60 64 _ 8 88 Try.underlying60 info_offer rfl (by decide) hr (fun h => by cases h) (by rw [List.length_map]; unfold maxLen; omega) (by rw [List.length_map]; omega) (Nat.zero_le _)
  have hat : ∀ k, V'.ownBlock = some k → OV.ownBlock = some k ∨ w.heap.size ≤ k := by
    intro k hk
    rcases h4 with h4 | h4
    · exact .inl (h4 ▸ hk)
    · rw [h4] at hk; injection hk with hk; exact .inr (by omega)
  have h2' : RecW w' 0 64 8 V' ((ofs ++ [x]).map ofCells) := by rw [List.map_append]; exact h2
  obtain ⟨A', c', hV, _⟩ := h2'.slice
  rw [show ((ofs ++ [x]).map ofCells).length = ofs.length + 1 by simp] at hV
  subst hV
  have hgg := (h3.block g h.lt (fun e => h.ne2 e.symm)).trans h.blk
  exact ⟨A', c', w', h1, cell_of_row w' g 2 _ _ (0, 0) hgg, by simp [World.frozen?, hgg], h.setO _ _ h3 h2' hat, Step.of_set h3 (fun k hk => .inl (h.fo k hk)) h.fg⟩
end
section
variable {w w' : World} {B g room : Nat} {F : Nat → Prop} {IV OV : Value} {ins : List It} {ofs : List (Int × It)} {sent : Int}
theorem send_closed (h : PipeC w B F g IV OV room ins ofs sent true) (who : Int) (x : It) :
    Calls Try.prog 9 #[.pointer (some ⟨g, 0, none⟩), .int .i64 who, x.val] w fun e w' => e = .returned (.tuple #[.bool false, .int .i64 17]) ∧ Below w.heap.size w w' := by
  have hb : Below w.heap.size w (w.alloc (.cells x.cells.toArray 36)) := (Below.refl _ _).alloc (Nat.le_refl _) _
  have c4 := (hb.cell (p := ⟨g, 4, none⟩) h.lt).trans h.c4
  have HB := Lib.hid hb
  clear h hb
  unfold It.val
  unfold It.cells at c4 HB
  go_enter Try.func9, Try.ntmps9
  go_wp2_with fail
  go_ret2
  exact ⟨rfl, HB.out⟩
theorem send_busy (h : PipeC w B F g IV OV room ins ofs sent false) (who : Int) (x : It) (hn : ofs.length ≤ 100000) (hw : 0 ≤ atI ofs who 0) :
    Calls Try.prog 9 #[.pointer (some ⟨g, 0, none⟩), .int .i64 who, x.val] w fun e w' => e = .returned (.tuple #[.bool false, .int .i64 18]) ∧ Below w.heap.size w w' := by
  have hb : Below w.heap.size w (w.alloc (.cells x.cells.toArray 36)) := (Below.refl _ _).alloc (Nat.le_refl _) _
  have c4 := (hb.cell (p := ⟨g, 4, none⟩) h.lt).trans h.c4
  have HP := Lib.hid (waits_any (h.below hb) who hn)
  rw [decide_eq_true hw] at HP
  have HB := Lib.hid hb
  clear h hb hw
  unfold It.val
  unfold It.cells at c4 HB HP
  go_enter Try.func9, Try.ntmps9
  go_wp2_with fail
  refine HP.out.mono ?_; rintro e w1 ⟨rfl, hb1⟩
  have HB1 := Lib.hid (HB.out.trans (hb1.mono HB.out.size))
  clear hb1
  go_wp2_with fail
  go_ret2
  exact ⟨rfl, HB1.out⟩

set_option maxHeartbeats 4000000 in
theorem send_in (h : PipeC w B F g IV OV room ins ofs sent false) (who : Int) (x : It) (hn : ofs.length ≤ 100000) (hm : ins.length < room) (hr : room ≤ 64) (hs0 : 0 ≤ sent) (hs : sent ≤ 1000000) (hw : ¬ 0 ≤ atI ofs who 0) :
    Calls Try.prog 9 #[.pointer (some ⟨g, 0, none⟩), .int .i64 who, x.val] w fun e w' => e = .returned (.tuple #[.bool true, .int .i64 0]) ∧ ∃ F', PipeS w' B F' g room (ins ++ [x]) ofs (sent + 1) false ∧ Step F F' w w' := by
  obtain ⟨gx, hgx⟩ : ∃ gx, gx = w.heap.size := ⟨_, rfl⟩
  have hb : Below w.heap.size w (w.alloc (.cells x.cells.toArray 36)) := (Below.refl _ _).alloc (Nat.le_refl _) _
  have hx0 : (w.alloc (.cells x.cells.toArray 36)).heap[gx]? = some (.cells x.cells.toArray 36 (0, 0)) := by rw [hgx]; exact heap_alloc_new w _
  have c4 := (hb.cell (p := ⟨g, 4, none⟩) h.lt).trans h.c4
  have HP := Lib.hid (waits_any (h.below hb) who hn)
  rw [decide_eq_false hw] at HP
  -- behind the look
  have key : ∀ w1, Below (w.alloc (.cells x.cells.toArray 36)).heap.size (w.alloc (.cells x.cells.toArray 36)) w1 →
      w1.cell? ⟨g, 3, none⟩ = some (.int .i64 sent) ∧ w1.frozen? ⟨g, 3, none⟩ = false ∧
      (w1.setCell ⟨g, 3, none⟩ (.int .i64 (sent + 1))).cell? ⟨g, 1, none⟩ = some IV ∧ (w1.setCell ⟨g, 3, none⟩ (.int .i64 (sent + 1))).cell? ⟨g, 0, none⟩ = some (.int .i64 (room : Int)) ∧
      (w1.setCell ⟨g, 3, none⟩ (.int .i64 (sent + 1))).heap[gx]? = some (.cells x.cells.toArray 36 (0, 0)) ∧
      Hid (PipeC (w1.setCell ⟨g, 3, none⟩ (.int .i64 (sent + 1))) B F g IV OV room ins ofs (sent + 1) false ∧ Step F F w (w1.setCell ⟨g, 3, none⟩ (.int .i64 (sent + 1)))) := by
    intro w1 hb1
    have hp1 := (h.below hb).below hb1
    have hp2 := hp1.setS (sent + 1)
    have hbb := hb.trans (hb1.mono hb.size)
    refine ⟨hp1.c3, hp1.fz 3, hp2.c1, hp2.c0, ?_, Lib.hid ⟨hp2, (Moved.of_below hbb F).setCell (p := ⟨g, 3, none⟩) (.inl h.fg) _, fun k hk => .inl hk⟩⟩
    rw [Below.heap_setCell _ _ _ _ (show gx ≠ g by have := h.lt; omega), hb1.block gx (by rw [hgx]; simp)]
    exact hx0
  have HK := Lib.hid key
  obtain ⟨A, c, hV, -, -, -⟩ := h.ri.slice
  rw [List.length_map] at hV
  obtain ⟨p, hp⟩ : ∃ p, p = ins.length := ⟨_, rfl⟩
  have HPL := Lib.hid hp
  rw [← hp] at hV hm
  subst hV
  clear h key hb hx0 hw hp
  have ht : decide ((p : Int) < (room : Int)) = true := by simpa using hm
  unfold It.val
  unfold It.cells at c4 HP HK
  go_enter Try.func9, Try.ntmps9
  go_wp2_with fail
  refine HP.out.mono ?_; rintro e w1 ⟨rfl, hb1⟩
  obtain ⟨k1, k2, k3, k4, k5, H2⟩ := HK.out w1 hb1
  clear hb1
  go_wp2_with fail
  rw [← hgx]
  clear hgx
  obtain ⟨W2, hW2⟩ : ∃ W2, W2 = w1.setCell ⟨g, 3, none⟩ (.int .i64 (sent + 1)) := ⟨_, rfl⟩
  rw [← hW2] at k3 k4 k5 H2 ⊢
  clear hW2 k1 k2 c4
  go_quiet (fail)
  go_wp2_with fail
  obtain ⟨W4, hW4⟩ : ∃ W4, W4 = W2.drewN nq := ⟨_, rfl⟩
  rw [← hW4]
  have hp4 : PipeC W4 B F g (.slice A p c) OV room ins ofs (sent + 1) false := by rw [hW4]; exact H2.out.1.keep (fun _ _ => rfl) (Nat.le_refl _)
  have hx4 : W4.heap[gx]? = some (.cells x.cells.toArray 36 (0, 0)) := by rw [hW4]; exact k5
  have hs4 : Step F F w W4 := by rw [hW4]; exact H2.out.2.drewN nq
  clear hW4 k3 k4 k5 H2
  have e0 := cell_of_row W4 gx 0 _ _ (0, 0) hx4
  have e1 := cell_of_row W4 gx 1 _ _ (0, 0) hx4
  have e2 := cell_of_row W4 gx 2 _ _ (0, 0) hx4
  have e3 := cell_of_row W4 gx 3 _ _ (0, 0) hx4
  have e4 := cell_of_row W4 gx 4 _ _ (0, 0) hx4
  have e5 := cell_of_row W4 gx 5 _ _ (0, 0) hx4
  have e6 := cell_of_row W4 gx 6 _ _ (0, 0) hx4
  simp only [It.cells, List.getElem?_toArray, List.getElem?_cons_succ, List.getElem?_cons_zero] at e0 e1 e2 e3 e4 e5 e6
  have e7 := hp4.c1
  have e8 : ∀ o, (W4.alloc o).cell? ⟨g, 1, none⟩ = some (.slice A p c) := fun o => (hp4.below ((Below.refl _ _).alloc (Nat.le_refl _) o)).c1
  have hb5 : Below W4.heap.size W4 (W4.alloc (.cells x.cells.toArray 36)).drew := ((Below.refl _ _).alloc (Nat.le_refl _) _).drew
  have hd5 : (W4.alloc (.cells x.cells.toArray 36)).drew.heap[W4.heap.size]? = some (.cells x.cells.toArray 36 (0, 0)) := heap_alloc_new W4 _
  obtain ⟨A', c', w6, happ, m1, m2, m3, m4⟩ := (hp4.below hb5).push hd5 (by have := HPL.out; omega)
  have m5 : Step F F w (W4.alloc (.cells x.cells.toArray 36)).drew := hs4.trans ⟨Moved.of_below hb5 F, fun k hk => .inl hk⟩
  have HFIN := Lib.hid (And.intro m3 (m5.trans m4))
  rw [← HPL.out] at happ HFIN
  unfold It.cells at happ
  have HAPP := Lib.hid happ
  clear hp4 hx4 hs4 hb5 hd5 happ m3 m4 m5
  go_region_law (refine step_append_run rfl _ _ 51 rfl rfl _ _ _ _ rfl rfl HAPP.out ?_)
  all_goals go_wp2_with fail
  all_goals go_ret2
  all_goals exact ⟨rfl, _, ⟨_, _, HFIN.out.1⟩, HFIN.out.2⟩
set_option maxHeartbeats 4000000 in
theorem send_off (h : PipeC w B F g IV OV room ins ofs sent false) (who : Int) (x : It) (hn : ofs.length ≤ 100000) (hm : ins.length = room) (hr : room ≤ 64) (hs0 : 0 ≤ sent) (hs : sent ≤ 1000000) (hw : ¬ 0 ≤ atI ofs who 0) :
    Calls Try.prog 9 #[.pointer (some ⟨g, 0, none⟩), .int .i64 who, x.val] w fun e w' => e = .returned (.tuple #[.bool false, .int .i64 0]) ∧ ∃ F', PipeS w' B F' g room ins (ofs ++ [(who, x)]) (sent + 1) false ∧ Step F F' w w' := by
  obtain ⟨gx, hgx⟩ : ∃ gx, gx = w.heap.size := ⟨_, rfl⟩
  have hb : Below w.heap.size w (w.alloc (.cells x.cells.toArray 36)) := (Below.refl _ _).alloc (Nat.le_refl _) _
  have hx0 : (w.alloc (.cells x.cells.toArray 36)).heap[gx]? = some (.cells x.cells.toArray 36 (0, 0)) := by rw [hgx]; exact heap_alloc_new w _
  have c4 := (hb.cell (p := ⟨g, 4, none⟩) h.lt).trans h.c4
  have HP := Lib.hid (waits_any (h.below hb) who hn)
  rw [decide_eq_false hw] at HP
  -- behind the look
  have key : ∀ w1, Below (w.alloc (.cells x.cells.toArray 36)).heap.size (w.alloc (.cells x.cells.toArray 36)) w1 →
      w1.cell? ⟨g, 3, none⟩ = some (.int .i64 sent) ∧ w1.frozen? ⟨g, 3, none⟩ = false ∧
      (w1.setCell ⟨g, 3, none⟩ (.int .i64 (sent + 1))).cell? ⟨g, 1, none⟩ = some IV ∧ (w1.setCell ⟨g, 3, none⟩ (.int .i64 (sent + 1))).cell? ⟨g, 0, none⟩ = some (.int .i64 (room : Int)) ∧
      (w1.setCell ⟨g, 3, none⟩ (.int .i64 (sent + 1))).heap[gx]? = some (.cells x.cells.toArray 36 (0, 0)) ∧
      Hid (PipeC (w1.setCell ⟨g, 3, none⟩ (.int .i64 (sent + 1))) B F g IV OV room ins ofs (sent + 1) false ∧ Step F F w (w1.setCell ⟨g, 3, none⟩ (.int .i64 (sent + 1)))) := by
    intro w1 hb1
    have hp1 := (h.below hb).below hb1
    have hp2 := hp1.setS (sent + 1)
    have hbb := hb.trans (hb1.mono hb.size)
    refine ⟨hp1.c3, hp1.fz 3, hp2.c1, hp2.c0, ?_, Lib.hid ⟨hp2, (Moved.of_below hbb F).setCell (p := ⟨g, 3, none⟩) (.inl h.fg) _, fun k hk => .inl hk⟩⟩
    rw [Below.heap_setCell _ _ _ _ (show gx ≠ g by have := h.lt; omega), hb1.block gx (by rw [hgx]; simp)]
    exact hx0
  have HK := Lib.hid key
  obtain ⟨A, c, hV, -, -, -⟩ := h.ri.slice
  obtain ⟨D, d, hU, -, -, -⟩ := h.ro.slice
  rw [List.length_map] at hV hU
  obtain ⟨q, hq⟩ : ∃ q, q = ofs.length := ⟨_, rfl⟩
  have HQL := Lib.hid hq
  rw [← hq] at hU hn
  rw [hm] at hV
  subst hV; subst hU
  clear h key hb hx0 hw hq hm
  have ht : decide ((room : Int) < (room : Int)) = false := by simp
  unfold It.val
  unfold It.cells at c4 HP HK
  go_enter Try.func9, Try.ntmps9
  go_wp2_with fail
  refine HP.out.mono ?_; rintro e w1 ⟨rfl, hb1⟩
  obtain ⟨k1, k2, k3, k4, k5, H2⟩ := HK.out w1 hb1
  clear hb1
  go_wp2_with fail
  rw [← hgx]
  clear hgx
  obtain ⟨W2, hW2⟩ : ∃ W2, W2 = w1.setCell ⟨g, 3, none⟩ (.int .i64 (sent + 1)) := ⟨_, rfl⟩
  rw [← hW2] at k3 k4 k5 H2 ⊢
  clear hW2 k1 k2 c4
  go_quiet (fail)
  go_wp2_with fail
  obtain ⟨W4, hW4⟩ : ∃ W4, W4 = W2.drewN nq := ⟨_, rfl⟩
  rw [← hW4]
  have hp4 : PipeC W4 B F g (.slice A room c) (.slice D q d) room ins ofs (sent + 1) false := by rw [hW4]; exact H2.out.1.keep (fun _ _ => rfl) (Nat.le_refl _)
  have hx4 : W4.heap[gx]? = some (.cells x.cells.toArray 36 (0, 0)) := by rw [hW4]; exact k5
  have hs4 : Step F F w W4 := by rw [hW4]; exact H2.out.2.drewN nq
  clear hW4 k3 k4 k5 H2
  have e0 := cell_of_row W4 gx 0 _ _ (0, 0) hx4
  have e1 := cell_of_row W4 gx 1 _ _ (0, 0) hx4
  have e2 := cell_of_row W4 gx 2 _ _ (0, 0) hx4
  have e3 := cell_of_row W4 gx 3 _ _ (0, 0) hx4
  have e4 := cell_of_row W4 gx 4 _ _ (0, 0) hx4
  have e5 := cell_of_row W4 gx 5 _ _ (0, 0) hx4
  have e6 := cell_of_row W4 gx 6 _ _ (0, 0) hx4
  simp only [It.cells, List.getElem?_toArray, List.getElem?_cons_succ, List.getElem?_cons_zero] at e0 e1 e2 e3 e4 e5 e6
  have e7 := hp4.c2
  have e8 : ∀ o, (W4.alloc o).cell? ⟨g, 2, none⟩ = some (.slice D q d) := fun o => (hp4.below ((Below.refl _ _).alloc (Nat.le_refl _) o)).c2
  have hb5 : Below W4.heap.size W4 (W4.alloc (.cells (ofCells (who, x)).toArray 64)).drew := ((Below.refl _ _).alloc (Nat.le_refl _) _).drew
  have hd5 : (W4.alloc (.cells (ofCells (who, x)).toArray 64)).drew.heap[W4.heap.size]? = some (.cells (ofCells (who, x)).toArray 64 (0, 0)) := heap_alloc_new W4 _
  obtain ⟨A', c', w6, happ, m1, m2, m3, m4⟩ := (hp4.below hb5).pushO hd5 (by have := HQL.out; omega)
  have m5 : Step F F w (W4.alloc (.cells (ofCells (who, x)).toArray 64)).drew := hs4.trans ⟨Moved.of_below hb5 F, fun k hk => .inl hk⟩
  have HFIN := Lib.hid (And.intro m3 (m5.trans m4))
  rw [← HQL.out] at happ HFIN
  unfold ofCells It.cells at happ
  have HAPP := Lib.hid happ
  clear hp4 hx4 hs4 hb5 hd5 happ m3 m4 m5
  go_region_law (refine step_append_run rfl _ _ 60 rfl rfl _ _ _ _ rfl rfl HAPP.out ?_)
  all_goals go_wp2_with fail
  all_goals go_ret2
  all_goals exact ⟨rfl, _, ⟨_, _, HFIN.out.1⟩, HFIN.out.2⟩
end
end Go.Proofs.Ytmmfioemnoijoaa
