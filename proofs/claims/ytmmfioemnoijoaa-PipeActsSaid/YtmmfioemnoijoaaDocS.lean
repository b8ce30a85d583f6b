/- The document's Send. -/
import Derived.Test.YtmmfioemnoijoaaDocM
namespace Go.Proofs.Ytmmfioemnoijoaa
open Go Go.RowKit
set_option linter.unusedVariables false
set_option maxRecDepth 20000

/-- The same, without a word on where its line lies. -/
def DocS (w : World) (B : Nat) (D : Nat → Prop) (r room : Nat) (L : List (Int × It)) (closed : Bool) (sent : Int) : Prop := ∃ A c, DocC w B D r A c room L closed sent
section
variable {w w' : World} {B r c room : Nat} {D : Nat → Prop} {A : Option Addr} {L : List (Int × It)} {sent : Int} {closed : Bool}
theorem DocC.stepL (h : DocC w B D r A c room L closed sent) (hb : Below w.heap.size w w') (v : Value) : Step D (fun k => D k ∨ (w.heap.size ≤ k ∧ k < w'.heap.size)) w (w'.setCell ⟨r, 0, none⟩ v) := by
  refine ⟨(Moved.of_below hb D).setCell (p := ⟨r, 0, none⟩) (.inl h.dr) _, fun k hk => ?_⟩
  rcases hk with hk | hk
  · exact .inl hk
  · exact .inr hk.1
theorem dsend_closed (h : DocC w B D r A c room L true sent) (who : Int) (x : It) :
    Calls Try.prog 10 #[.pointer (some ⟨r, 0, none⟩), .int .i64 who, x.val] w fun e w' => e = .returned (.tuple #[.bool false, .int .i64 17]) ∧ Below w.heap.size w w' := by
  have hb : Below w.heap.size w (w.alloc (.cells x.cells.toArray 36)) := (Below.refl _ _).alloc (Nat.le_refl _) _
  have c2 := (h.below hb).c2
  have HB := Lib.hid hb
  clear h hb
  unfold It.val
  unfold It.cells at c2 HB
  go_enter Try.func10, Try.ntmps10
  go_wp2_with fail
  go_ret2
  exact ⟨rfl, HB.out⟩
theorem dsend_busy (h : DocC w B D r A c room L false sent) (who : Int) (x : It) (hl : L.length ≤ 9000) (hr : room ≤ 64) (hw : 0 ≤ offI room L who) :
    Calls Try.prog 10 #[.pointer (some ⟨r, 0, none⟩), .int .i64 who, x.val] w fun e w' => e = .returned (.tuple #[.bool false, .int .i64 18]) ∧ Below w.heap.size w w' := by
  have hb : Below w.heap.size w (w.alloc (.cells x.cells.toArray 36)) := (Below.refl _ _).alloc (Nat.le_refl _) _
  have c2 := (h.below hb).c2
  have HP := Lib.hid (dwaits_any (h.below hb) who (by omega) hr)
  rw [decide_eq_true hw] at HP
  have HB := Lib.hid hb
  clear h hb hw
  unfold It.val
  unfold It.cells at c2 HB HP
  go_enter Try.func10, Try.ntmps10
  go_wp2_with fail
  refine HP.out.mono ?_; rintro e w1 ⟨rfl, hb1⟩
  have HB1 := Lib.hid (HB.out.trans (hb1.mono HB.out.size))
  clear hb1
  go_wp2_with fail
  go_ret2
  exact ⟨rfl, HB1.out⟩
set_option maxHeartbeats 4000000 in
theorem dsend_yes (h : DocC w B D r A c room L false sent) (who : Int) (x : It) (hl : L.length ≤ 9000) (hr : room ≤ 64) (hs0 : 0 ≤ sent) (hs : sent ≤ 100000) (hw : ¬ 0 ≤ offI room L who) :
    Calls Try.prog 10 #[.pointer (some ⟨r, 0, none⟩), .int .i64 who, x.val] w fun e w' => e = .returned (.tuple #[.bool (decide (L.length < room)), .int .i64 0]) ∧ ∃ D', DocS w' B D' r room (L ++ [(who, x)]) false (sent + 1) ∧ Step D D' w w' := by
  obtain ⟨gx, hgx⟩ : ∃ gx, gx = w.heap.size := ⟨_, rfl⟩
  have hb : Below w.heap.size w (w.alloc (.cells x.cells.toArray 36)) := (Below.refl _ _).alloc (Nat.le_refl _) _
  have hx0 : (w.alloc (.cells x.cells.toArray 36)).heap[gx]? = some (.cells x.cells.toArray 36 (0, 0)) := by rw [hgx]; exact heap_alloc_new w _
  have c2 := (h.below hb).c2
  have HP := Lib.hid (dwaits_any (h.below hb) who (by omega) hr)
  rw [decide_eq_false hw] at HP
  have key : ∀ w1, Below (w.alloc (.cells x.cells.toArray 36)).heap.size (w.alloc (.cells x.cells.toArray 36)) w1 →
      w1.cell? ⟨r, 0, none⟩ = some (.slice A L.length c) ∧ ∃ A2 c2 w2, (Builtin.append_ #[29, 29] 29 #[.slice none 0 0, .slice A L.length c]).run Try.prog w1 = .ok (.slice A2 L.length c2) w2 ∧
      w2.heap[gx]? = some (.cells x.cells.toArray 36 (0, 0)) ∧
      ∃ A4 c4 w4, (Builtin.append_ #[29, 29] 29 #[.slice A2 L.length c2, .slice (some ⟨w2.heap.size, 0, none⟩) 1 1]).run Try.prog (w2.alloc (.cells (ofCells (who, x)).toArray 54)) = .ok (.slice A4 (L.length + 1) c4) w4 ∧
        w4.cell? ⟨r, 0, none⟩ = some (.slice A L.length c) ∧ w4.frozen? ⟨r, 0, none⟩ = false ∧
        (w4.setCell ⟨r, 0, none⟩ (.slice A4 (L.length + 1) c4)).cell? ⟨r, 3, none⟩ = some (.int .i64 sent) ∧ (w4.setCell ⟨r, 0, none⟩ (.slice A4 (L.length + 1) c4)).frozen? ⟨r, 3, none⟩ = false ∧
        Hid (((w4.setCell ⟨r, 0, none⟩ (.slice A4 (L.length + 1) c4)).setCell ⟨r, 3, none⟩ (.int .i64 (sent + 1))).cell? ⟨r, 0, none⟩ = some (.slice A4 (L.length + 1) c4) ∧ ((w4.setCell ⟨r, 0, none⟩ (.slice A4 (L.length + 1) c4)).setCell ⟨r, 3, none⟩ (.int .i64 (sent + 1))).cell? ⟨r, 1, none⟩ = some (.int .i64 (room : Int)) ∧
          ∃ D', DocS ((w4.setCell ⟨r, 0, none⟩ (.slice A4 (L.length + 1) c4)).setCell ⟨r, 3, none⟩ (.int .i64 (sent + 1))) B D' r room (L ++ [(who, x)]) false (sent + 1) ∧ Step D D' w ((w4.setCell ⟨r, 0, none⟩ (.slice A4 (L.length + 1) c4)).setCell ⟨r, 3, none⟩ (.int .i64 (sent + 1)))) := by
    intro w1 hb1
    have hbb := hb.trans (hb1.mono hb.size)
    have h1 := h.below hbb
    obtain ⟨V2, w2, happ, hr2, hg2, -, -⟩ := (RecW.nil w1 w.heap.size 54 8).app 29 54 _ 8 88 Try.underlying29 info_thing rfl (by decide) h1.rd (c := c) h1.cap.2.2 (by simp only [List.length_nil]; unfold maxLen; omega) (by simp only [List.length_nil]; omega) hbb.size
    rw [List.nil_append] at hr2
    obtain ⟨A2, c2, hV2, -⟩ := hr2.slice
    rw [List.length_map] at hV2
    subst hV2
    have hb2 : Below w.heap.size w w2 := hbb.grown hg2 hbb.size (fun k hk => by cases hk)
    have hx1 : w1.heap[gx]? = some (.cells x.cells.toArray 36 (0, 0)) := (hb1.block gx (by rw [hgx]; simp)).trans hx0
    have hx2 : w2.heap[gx]? = some (.cells x.cells.toArray 36 (0, 0)) := (hg2.block gx (Array.getElem?_eq_some_iff.1 hx1).1 (fun e => by cases e)).trans hx1
    have hb3 : Below w2.heap.size w2 (w2.alloc (.cells (ofCells (who, x)).toArray 54)) := (Below.refl _ _).alloc (Nat.le_refl _) _
    have hd3 : (w2.alloc (.cells (ofCells (who, x)).toArray 54)).heap[w2.heap.size]? = some (.cells (ofCells (who, x)).toArray 54 (0, 0)) := heap_alloc_new w2 _
    have hr3 := hr2.keep (w' := w2.alloc (.cells (ofCells (who, x)).toArray 54)) fun k hk _ => hb3.block k hk
    have hb03 := hb2.trans (hb3.mono hb2.size)
    obtain ⟨V4, w4, happ4, hr4, hg4, -, -⟩ := hr3.app 29 54 _ 8 88 Try.underlying29 info_thing rfl (by decide) (read_one hd3 (of_wide (who, x))) (c := 1) (fun h => by cases h) (by rw [List.length_map]; unfold maxLen; omega) (by rw [List.length_map]; omega) hb03.size
    have hr4' : RecW w4 w.heap.size 54 8 V4 ((L ++ [(who, x)]).map ofCells) := by rw [List.map_append]; exact hr4
    obtain ⟨A4, c4, hV4, -⟩ := hr4'.slice
    rw [List.length_map] at hV4
    subst hV4
    have hll : (L ++ [(who, x)]).length = L.length + 1 := by simp
    have hb4 : Below w.heap.size w w4 := hb03.grown hg4 hb03.size (fun k hk => (row_lt hr3.1 hk).1)
    have h5 := h.setL hb4 hr4'
    have h6 := h5.setS (sent + 1)
    have s5 := h.stepL hb4 (.slice A4 (L ++ [(who, x)]).length c4)
    rw [hll] at happ4 h5 h6 s5
    have h4 := h.below hb4
    have c60 := h6.c0
    rw [hll] at c60
    exact ⟨h1.c0, A2, c2, w2, happ, hx2, A4, c4, w4, happ4, h4.c0, h4.fz 0, h5.c3, h5.fz 3, Lib.hid ⟨c60, h6.c1, _, ⟨A4, c4, h6⟩, s5.1.setCell (p := ⟨r, 3, none⟩) (.inl h.dr) _, s5.2⟩⟩
  have HK := Lib.hid key
  obtain ⟨n, hn⟩ : ∃ n, n = L.length := ⟨_, rfl⟩
  rw [← hn] at HK hl ⊢
  have HN := Lib.hid hn
  clear h key hb hx0 hw hn
  unfold It.val
  unfold ofCells It.cells at HK
  unfold It.cells at c2 HP
  go_enter Try.func10, Try.ntmps10
  go_wp2_with fail
  rw [← hgx]
  clear hgx
  refine HP.out.mono ?_; rintro e w1 ⟨rfl, hb1⟩
  obtain ⟨k1, A2, c2', w2, happ, hx2, A4, c4, w4, happ4, t1, t2, t3, t4, HF⟩ := HK.out w1 hb1
  have HAP := Lib.hid happ
  have HAP4 := Lib.hid happ4
  have e0 := cell_of_row w2 gx 0 _ _ (0, 0) hx2
  have e1 := cell_of_row w2 gx 1 _ _ (0, 0) hx2
  have e2 := cell_of_row w2 gx 2 _ _ (0, 0) hx2
  have e3 := cell_of_row w2 gx 3 _ _ (0, 0) hx2
  have e4 := cell_of_row w2 gx 4 _ _ (0, 0) hx2
  have e5 := cell_of_row w2 gx 5 _ _ (0, 0) hx2
  have e6 := cell_of_row w2 gx 6 _ _ (0, 0) hx2
  simp only [List.getElem?_toArray, List.getElem?_cons_succ, List.getElem?_cons_zero] at e0 e1 e2 e3 e4 e5 e6
  clear happ happ4 hb1 hx2 c2
  go_wp2_with (first
    | (at_builtin; refine wpList_append_run rfl (.tmp 16) (.tmp 20) 29 rfl rfl _ _ _ _ rfl rfl HAP.out ?_)
    | (at_builtin; refine wpList_append_run rfl (.tmp 23) (.tmp 27) 29 rfl rfl _ _ _ _ rfl rfl HAP4.out ?_))
  obtain ⟨W6, hW6⟩ : ∃ W6, W6 = (w4.setCell ⟨r, 0, none⟩ (.slice A4 (n + 1) c4)).setCell ⟨r, 3, none⟩ (.int .i64 (sent + 1)) := ⟨_, rfl⟩
  rw [← hW6] at HF ⊢
  have k2 := HF.out.1
  have k3 := HF.out.2.1
  have HG := Lib.hid HF.out.2.2
  clear hW6 HF t1 t2 t3 t4 e0 e1 e2 e3 e4 e5 e6 k1
  have HQ := Lib.hid (fun q => (by
    obtain ⟨D', ⟨A', c', hd⟩, hs⟩ := HG.out
    exact ⟨D', ⟨A', c', hd.keep (fun _ _ => rfl) (Nat.le_refl _)⟩, hs.drewN q⟩ : ∃ D', DocS (W6.drewN q) B D' r room (L ++ [(who, x)]) false (sent + 1) ∧ Step D D' w (W6.drewN q)))
  clear HG
  by_cases hlt : n < room
  · have q1 : decide (n < room) = true := by simpa using hlt
    have q2 : (n : Int) + 1 ≤ (room : Int) := by omega
    have HQ1 := Lib.hid q1
    clear hlt q1
    go_quiet (fail)
    go_wp2_with fail
    go_ret2
    rw [HQ1.out]
    exact ⟨rfl, HQ.out _⟩
  · have q1 : decide (n < room) = false := by simpa using hlt
    have q2 : decide ((n : Int) + 1 ≤ (room : Int)) = false := by simp; omega
    have HQ1 := Lib.hid q1
    clear hlt q1
    go_quiet (fail)
    go_wp2_with fail
    go_ret2
    rw [HQ1.out]
    exact ⟨rfl, HQ.out _⟩
end
end Go.Proofs.Ytmmfioemnoijoaa
