/- Take, Withdraw, New. -/
import Derived.Test.YtmmfioemnoijoaaPipT
namespace Go.Proofs.Ytmmfioemnoijoaa
open Go Go.RowKit
set_option linter.unusedVariables false
set_option maxRecDepth 20000

def zeroIt : It := ⟨0, 0, 0, 0, ⟨#[]⟩, none, 0, 0, [], 0⟩
section
variable {w w' : World} {B g room : Nat} {F : Nat → Prop} {IV OV : Value} {ins : List It} {ofs : List (Int × It)} {sent : Int} {closed : Bool}
theorem admit_any (h : PipeS w B F g room ins ofs sent closed) (hn : ofs.length ≤ 100000) (hm : ins.length ≤ 100000) :
    Calls Try.prog 24 #[.pointer (some ⟨g, 0, none⟩)] w fun e w' => e = .returned (.tuple #[]) ∧ ∃ F', PipeS w' B F' g room (ins ++ (ofs.take 1).map Prod.snd) (ofs.drop 1) sent closed ∧ Step F F' w w' := by
  obtain ⟨IV, OV, h⟩ := h
  rcases ofs with _ | ⟨o, os⟩
  · refine (admit_no h).mono ?_
    rintro e w' ⟨rfl, rfl⟩
    exact ⟨rfl, F, ⟨IV, OV, by simpa using h⟩, Step.refl _ _⟩
  · refine (admit_yes h (by simp only [List.length_cons] at hn; omega) hm).mono ?_
    rintro e w' ⟨rfl, F', hp, hs⟩
    exact ⟨rfl, F', by simpa using hp, hs⟩
theorem take_none (h : PipeC w B F g IV OV room [] [] sent closed) :
    Calls Try.prog 11 #[.pointer (some ⟨g, 0, none⟩)] w fun e w' => e = .returned (.tuple #[zeroIt.val, .int .i64 (if closed = true then 17 else 19)]) ∧ Below w.heap.size w w' := by
  have hb : Below w.heap.size w (w.alloc (.cells zeroIt.cells.toArray 36)) := (Below.refl _ _).alloc (Nat.le_refl _) _
  have hx0 : (w.alloc (.cells zeroIt.cells.toArray 36)).heap[w.heap.size]? = some (.cells zeroIt.cells.toArray 36 (0, 0)) := heap_alloc_new w _
  have HR := Lib.hid (ready_any (h.below hb) (by simp) (by simp))
  have c1 := (h.below hb).c1
  have c2 := (h.below hb).c2
  obtain ⟨A, c, hV, -, -, -⟩ := h.ri.slice
  obtain ⟨D, d, hU, -, -, -⟩ := h.ro.slice
  rw [show (([] : List It).map It.cells).length = 0 from rfl] at hV
  rw [show (([] : List (Int × It)).map ofCells).length = 0 from rfl] at hU
  subst hV; subst hU
  have HB := Lib.hid hb
  obtain ⟨gx, hgx⟩ : ∃ gx, gx = w.heap.size := ⟨_, rfl⟩
  rw [← hgx] at hx0
  have HGX := Lib.hid (And.intro hgx hx0)
  clear h hb hx0 hgx
  unfold zeroIt It.cells at HR c1 c2 HB HGX
  unfold zeroIt It.val
  rcases closed with _ | _
  · go_enter Try.func11, Try.ntmps11
    go_wp2_with fail
    rw [← HGX.out.1]
    obtain ⟨W0, hW0⟩ : ∃ W0, W0 = w.alloc (.cells #[.int .i64 0, .int .i64 0, .int .i64 0, .int .i64 0, .string ⟨#[]⟩, .slice none 0 0, .int .i64 0] 36) := ⟨_, rfl⟩
    rw [← hW0] at HR HB HGX c1 c2 ⊢
    clear hW0
    refine HR.out.mono ?_; rintro e w1 ⟨rfl, q, rfl⟩
    go_wp2_with (refine wpList_store_item rfl (.tmp 2) (.tmp 9) rfl gx _ [.int .i64 0, .int .i64 0, .int .i64 0, .int .i64 0, .string ⟨#[]⟩, .slice none 0 0, .int .i64 0] rfl rfl (show (W0.drewN q).heap[gx]? = _ from HGX.out.2) rfl rfl zeroIt.wide.2 ?_; intro w4 hb4 hg4 hs4; have H4 := Lib.hid (And.intro hg4 hs4); have e0 := cell_of_row w4 gx 0 _ _ (0, 0) hb4; have e1 := cell_of_row w4 gx 1 _ _ (0, 0) hb4; have e2 := cell_of_row w4 gx 2 _ _ (0, 0) hb4; have e3 := cell_of_row w4 gx 3 _ _ (0, 0) hb4; have e4 := cell_of_row w4 gx 4 _ _ (0, 0) hb4; have e5 := cell_of_row w4 gx 5 _ _ (0, 0) hb4; have e6 := cell_of_row w4 gx 6 _ _ (0, 0) hb4; clear hb4 hg4 hs4; simp only [List.getElem?_toArray, List.getElem?_cons_succ, List.getElem?_cons_zero] at e0 e1 e2 e3 e4 e5 e6)
    (try simp only [Exit.inBlock, Exit.then])
    refine bodyPost_ret (v := .tuple #[.agg #[.int .i64 0, .int .i64 0, .int .i64 0, .int .i64 0, .string ⟨#[]⟩, .slice none 0 0, .int .i64 0], .int .i64 19]) ?_ rfl ?_
    · rw [results_cell_tmp rfl]; go_simp
    · refine ⟨rfl, (below_drewN HB.out q).grown H4.out.1 HB.out.size ?_⟩
      intro k hk; injection hk with hk; rw [← hk, HGX.out.1]; exact Nat.le_refl _
  · go_enter Try.func11, Try.ntmps11
    go_wp2_with fail
    rw [← HGX.out.1]
    obtain ⟨W0, hW0⟩ : ∃ W0, W0 = w.alloc (.cells #[.int .i64 0, .int .i64 0, .int .i64 0, .int .i64 0, .string ⟨#[]⟩, .slice none 0 0, .int .i64 0] 36) := ⟨_, rfl⟩
    rw [← hW0] at HR HB HGX c1 c2 ⊢
    clear hW0
    refine HR.out.mono ?_; rintro e w1 ⟨rfl, q, rfl⟩
    go_wp2_with fail
    go_quiet (fail)
    go_wp2_with (refine wpList_store_item rfl (.tmp 2) (.tmp 23) rfl gx _ [.int .i64 0, .int .i64 0, .int .i64 0, .int .i64 0, .string ⟨#[]⟩, .slice none 0 0, .int .i64 0] rfl rfl (show ((W0.drewN q).drewN nq).heap[gx]? = _ from HGX.out.2) rfl rfl zeroIt.wide.2 ?_; intro w4 hb4 hg4 hs4; have H4 := Lib.hid (And.intro hg4 hs4); have e0 := cell_of_row w4 gx 0 _ _ (0, 0) hb4; have e1 := cell_of_row w4 gx 1 _ _ (0, 0) hb4; have e2 := cell_of_row w4 gx 2 _ _ (0, 0) hb4; have e3 := cell_of_row w4 gx 3 _ _ (0, 0) hb4; have e4 := cell_of_row w4 gx 4 _ _ (0, 0) hb4; have e5 := cell_of_row w4 gx 5 _ _ (0, 0) hb4; have e6 := cell_of_row w4 gx 6 _ _ (0, 0) hb4; clear hb4 hg4 hs4; simp only [List.getElem?_toArray, List.getElem?_cons_succ, List.getElem?_cons_zero] at e0 e1 e2 e3 e4 e5 e6)
    (try simp only [Exit.inBlock, Exit.then])
    refine bodyPost_ret (v := .tuple #[.agg #[.int .i64 0, .int .i64 0, .int .i64 0, .int .i64 0, .string ⟨#[]⟩, .slice none 0 0, .int .i64 0], .int .i64 17]) ?_ rfl ?_
    · rw [results_cell_tmp rfl]; go_simp
    · refine ⟨rfl, (below_drewN HB.out (q + nq)).grown H4.out.1 HB.out.size ?_⟩
      intro k hk; injection hk with hk; rw [← hk, HGX.out.1]; exact Nat.le_refl _

set_option maxHeartbeats 4000000 in
theorem take_some {x : It} {r : List It} (h : PipeC w B F g IV OV room ins ofs sent closed) (hx : ins ++ (ofs.take 1).map Prod.snd = x :: r) (hn : ofs.length ≤ 10000) (hm : ins.length ≤ 10000) :
    Calls Try.prog 11 #[.pointer (some ⟨g, 0, none⟩)] w fun e w' => e = .returned (.tuple #[x.val, .int .i64 0]) ∧ ∃ F', PipeS w' B F' g room r (ofs.drop 1) sent closed ∧ Step F F' w w' := by
  have hb : Below w.heap.size w (w.alloc (.cells zeroIt.cells.toArray 36)) := (Below.refl _ _).alloc (Nat.le_refl _) _
  obtain ⟨gx, hgx⟩ : ∃ gx, gx = w.heap.size := ⟨_, rfl⟩
  have hx0 : (w.alloc (.cells zeroIt.cells.toArray 36)).heap[gx]? = some (.cells zeroIt.cells.toArray 36 (0, 0)) := by rw [hgx]; exact heap_alloc_new w _
  have h0 := h.below hb
  have hpos : 0 < ins.length + ofs.length := by
    rcases ins with _ | _
    · rcases ofs with _ | _
      · cases hx
      · simp
    · simp only [List.length_cons]; omega
  have hr := ready_any h0 (by omega) (by omega)
  rw [decide_eq_true hpos, Bool.or_true] at hr
  have hrl : r.length ≤ 10001 := by
    have := congrArg List.length hx
    simp only [List.length_append, List.length_map, List.length_take, List.length_cons] at this
    omega
  -- ahead of admit: a world that has only drawn
  have HADM := Lib.hid (fun q => admit_any (w := (w.alloc (.cells zeroIt.cells.toArray 36)).drewN q) ⟨IV, OV, h0.keep (fun _ _ => rfl) (Nat.le_refl _)⟩ (by omega) (by omega))
  rw [hx] at HADM
  -- behind admit
  have key : ∀ q w2 F2 IV2 OV2, PipeC w2 B F2 g IV2 OV2 room (x :: r) (ofs.drop 1) sent closed → Step F F2 ((w.alloc (.cells zeroIt.cells.toArray 36)).drewN q) w2 →
      ∃ b c, IV2 = .slice (some ⟨b, 0, none⟩) (r.length + 1) c ∧ w2.cell? ⟨g, 1, none⟩ = some IV2 ∧ (∀ i v, x.cells[i]? = some v → w2.cell? ⟨b, i, none⟩ = some v) ∧ (∀ o, (w2.alloc o).cell? ⟨g, 1, none⟩ = some IV2) ∧
      Hid (Calls Try.prog 25 #[IV2, .int .i64 0, .int .i64 1] (w2.alloc (.cells x.cells.toArray 36)) fun e w4 => ∃ A c, e = .returned (.slice A r.length c) ∧ w4.cell? ⟨g, 1, none⟩ = some IV2 ∧ w4.frozen? ⟨g, 1, none⟩ = false ∧
        (w4.setCell ⟨g, 1, none⟩ (.slice A r.length c)).heap[w2.heap.size]? = some (.cells x.cells.toArray 36 (0, 0)) ∧
        (w4.setCell ⟨g, 1, none⟩ (.slice A r.length c)).heap[gx]? = some (.cells zeroIt.cells.toArray 36 (0, 0)) ∧
        Hid (∃ F', PipeS (w4.setCell ⟨g, 1, none⟩ (.slice A r.length c)) B F' g room r (ofs.drop 1) sent closed ∧ Step F F' w (w4.setCell ⟨g, 1, none⟩ (.slice A r.length c)) ∧ ¬ F' gx)) := by
    intro q w2 F2 IV2 OV2 hp hs
    obtain ⟨b, c, hV, -, -, hc⟩ := hp.ri.at (j := 0) rfl
    rw [List.length_map, List.length_cons] at hV
    have hb3 : Below w2.heap.size w2 (w2.alloc (.cells x.cells.toArray 36)) := (Below.refl _ _).alloc (Nat.le_refl _) _
    have hp3 := hp.below hb3
    refine ⟨b, c, hV, hp.c1, fun i v hv => by have := hc i v hv; rwa [Nat.zero_mul, Nat.zero_add] at this, fun o => (hp.below ((Below.refl _ _).alloc (Nat.le_refl _) o)).c1, Lib.hid ?_⟩
    refine Calls.mono (show Calls Try.prog 25 #[IV2, .int .i64 0, .int .i64 1] (w2.alloc (.cells x.cells.toArray 36)) _ from del_item hp3.ri (i := 0) (by simp) (by simp; omega)) ?_
    rintro e w4 ⟨V', rfl, hr4, hg4, hat⟩
    have hr4' : RecW w4 0 36 7 V' (r.map It.cells) := hr4
    obtain ⟨A4, c4, hV4, -⟩ := hr4'.slice
    rw [List.length_map] at hV4
    subst hV4
    have hgg := (hg4.block g hp3.lt (fun e => hp3.ne1 e.symm)).trans hp3.blk
    have hnF : ¬ F gx := fun hk => by have := (h.low gx hk).2; omega
    have hsz1 : gx < ((w.alloc (.cells zeroIt.cells.toArray 36)).drewN q).heap.size := by rw [hgx]; show _ < (w.alloc _).heap.size; simp
    have hnF2 : ¬ F2 gx := fun hk => by
      rcases hs.2 gx hk with h1 | h1
      · exact hnF h1
      · omega
    have hx2 : w2.heap[gx]? = some (.cells zeroIt.cells.toArray 36 (0, 0)) := (hs.1.block gx hsz1 hnF).trans hx0
    have hl2 : gx < w2.heap.size := Nat.lt_of_lt_of_le hsz1 hs.1.size
    have hne : ∀ k, IV2.ownBlock = some k → k ≠ gx := fun k hk e => hnF2 (e ▸ hp.fi k hk)
    have hne2 : ∀ k, IV2.ownBlock = some k → k ≠ w2.heap.size := fun k hk e => by have := (hp.low k (hp.fi k hk)).2; omega
    have hgne : gx ≠ g := fun e => hnF (e ▸ h.fg)
    refine ⟨A4, c4, rfl, cell_of_row w4 g 1 _ _ (0, 0) hgg, by simp [World.frozen?, hgg], ?_, ?_, Lib.hid ⟨_, ⟨_, _, hp3.setI _ r hg4 hr4' fun k hk => .inl (by rw [← hat]; exact hk)⟩, ?_, ?_⟩⟩
    · rw [Below.heap_setCell _ _ _ _ (show w2.heap.size ≠ g by have := hp.lt; omega), hg4.block _ (by simp) fun e => hne2 _ e.symm rfl]
      exact heap_alloc_new w2 _
    · rw [Below.heap_setCell _ _ _ _ hgne, hg4.block gx (by simp; omega) fun e => hne _ e.symm rfl, Below.heap_alloc w2 _ gx hl2]
      exact hx2
    · have s1 : Step F F w ((w.alloc (.cells zeroIt.cells.toArray 36)).drewN q) := ⟨Moved.of_below (below_drewN hb q) F, fun k hk => .inl hk⟩
      have s2 : Step F2 F2 w2 (w2.alloc (.cells x.cells.toArray 36)) := ⟨Moved.of_below hb3 F2, fun k hk => .inl hk⟩
      exact ((s1.trans hs).trans s2).trans (Step.of_set hg4 (fun k hk => .inl (hp3.fi k hk)) hp3.fg)
    · rintro (hk | hk)
      · exact hnF2 hk
      · have := hk.1; simp at this; omega
  have HK := Lib.hid key
  have HR := Lib.hid hr
  have c1 := fun q => (h0.keep (w' := (w.alloc (.cells zeroIt.cells.toArray 36)).drewN q) (fun _ _ => rfl) (Nat.le_refl _)).c1
  have c1 := h0.c1
  have c2 := h0.c2
  obtain ⟨A, c, hV, -, -, -⟩ := h.ri.slice
  obtain ⟨D, d, hU, -, -, -⟩ := h.ro.slice
  rw [List.length_map] at hV hU
  obtain ⟨p, hp⟩ : ∃ p, p = ins.length := ⟨_, rfl⟩
  obtain ⟨q, hq⟩ : ∃ q, q = ofs.length := ⟨_, rfl⟩
  rw [← hp] at hV hm hpos
  rw [← hq] at hU hn hpos
  subst hV; subst hU
  have HB := Lib.hid hb
  have hz : ((p : Int) + (q : Int) == 0) = false := by simp; omega
  have hz' : decide ((p : Int) + (q : Int) = 0) = false := by simp; omega
  obtain ⟨m, hm'⟩ : ∃ m, m = r.length := ⟨_, rfl⟩
  rw [← hm'] at HK
  clear h h0 hx0 key hr hb hx hp hq hm' hrl
  have HGX := Lib.hid hgx
  clear hgx
  have HXW := Lib.hid (And.intro x.wide rfl : _ ∧ zeroIt.cells.length = 7)
  unfold zeroIt It.cells at HR c1 c2 HB HADM HK
  unfold It.val
  go_enter Try.func11, Try.ntmps11
  go_wp2_with fail
  rw [← HGX.out]
  obtain ⟨W0, hW0⟩ : ∃ W0, W0 = w.alloc (.cells #[.int .i64 0, .int .i64 0, .int .i64 0, .int .i64 0, .string ⟨#[]⟩, .slice none 0 0, .int .i64 0] 36) := ⟨_, rfl⟩
  rw [← hW0] at HR HB HADM HK c1 c2 ⊢
  clear hW0
  refine HR.out.mono ?_; rintro e w1 ⟨rfl, q1, rfl⟩
  go_wp2_with fail
  go_quiet (fail)
  go_wp2_with (first
    | (go_at_call 24; (with_reducible refine (HADM.out (q1 + nq)).mono ?_); rintro e w2 ⟨rfl, F2, ⟨IV2, OV2, hp2⟩, hs2⟩; obtain ⟨b, c', rfl, t1, t2, t3, HD⟩ := HK.out _ w2 F2 IV2 OV2 hp2 hs2; have e0 := t2 0 _ rfl; have e1 := t2 1 _ rfl; have e2 := t2 2 _ rfl; have e3 := t2 3 _ rfl; have e4 := t2 4 _ rfl; have e5 := t2 5 _ rfl; have e6 := t2 6 _ rfl; clear t2 hp2 hs2 c1 c2)
    | (go_at_call 25; (with_reducible refine HD.out.mono ?_); rintro e w4 ⟨A4, c4, rfl, u1, u2, u3, u4, HF⟩; clear e0 e1 e2 e3 e4 e5 e6 t1 t3; have f0 := cell_of_row _ _ 0 _ _ (0, 0) u3; have f1 := cell_of_row _ _ 1 _ _ (0, 0) u3; have f2 := cell_of_row _ _ 2 _ _ (0, 0) u3; have f3 := cell_of_row _ _ 3 _ _ (0, 0) u3; have f4 := cell_of_row _ _ 4 _ _ (0, 0) u3; have f5 := cell_of_row _ _ 5 _ _ (0, 0) u3; have f6 := cell_of_row _ _ 6 _ _ (0, 0) u3; have HU4 := Lib.hid u4; clear u3 u4; simp only [List.getElem?_toArray, List.getElem?_cons_succ, List.getElem?_cons_zero] at f0 f1 f2 f3 f4 f5 f6)
    | (refine wpList_store_item rfl (.tmp 2) (.tmp 40) rfl gx _ x.cells rfl rfl HU4.out HXW.out.2 rfl HXW.out.1.2 ?_; intro w6 hb6 hg6 hs6; clear f0 f1 f2 f3 f4 f5 f6; have H6 := Lib.hid (And.intro hg6 hs6); have e0 := cell_of_row w6 gx 0 _ _ (0, 0) hb6; have e1 := cell_of_row w6 gx 1 _ _ (0, 0) hb6; have e2 := cell_of_row w6 gx 2 _ _ (0, 0) hb6; have e3 := cell_of_row w6 gx 3 _ _ (0, 0) hb6; have e4 := cell_of_row w6 gx 4 _ _ (0, 0) hb6; have e5 := cell_of_row w6 gx 5 _ _ (0, 0) hb6; have e6 := cell_of_row w6 gx 6 _ _ (0, 0) hb6; clear hb6 hg6 hs6; simp only [It.cells, List.getElem?_toArray, List.getElem?_cons_succ, List.getElem?_cons_zero] at e0 e1 e2 e3 e4 e5 e6))
  (try simp only [Exit.inBlock, Exit.then])
  refine bodyPost_ret (v := .tuple #[.agg #[.int .i64 x.n, .int .i64 x.b, .int .i64 x.rn, .int .i64 x.ra, .string x.tx, .slice x.hA x.hm x.hc, .int .i64 x.e], .int .i64 0]) ?_ rfl ?_
  · rw [results_cell_tmp rfl]; go_simp
  · obtain ⟨F', ⟨IV', OV', hp⟩, hs, hn'⟩ := HF.out
    refine ⟨rfl, F', ⟨IV', OV', hp.keep (fun k hk => H6.out.1.block k (hp.low k hk).2 fun e => ?_) (Nat.le_of_eq H6.out.2.symm)⟩, ⟨hs.1.grown H6.out.1 fun k hk => .inr ?_, hs.2⟩⟩
    · injection e with e; exact hn' (e ▸ hk)
    · injection hk with hk; rw [← hk, HGX.out]; exact Nat.le_refl _
end
end Go.Proofs.Ytmmfioemnoijoaa
