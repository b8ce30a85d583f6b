/- The document's Take and Withdraw. -/
import Derived.Test.YtmmfioemnoijoaaDocS
namespace Go.Proofs.Ytmmfioemnoijoaa
open Go Go.RowKit
set_option linter.unusedVariables false
set_option maxRecDepth 20000

theorem thing_elem : Try.prog.elem 29 = 54 := by kernel_rfl
theorem thing_size (w : World) : (sizeOf 54).run Try.prog w = .ok 8 w := by kernel_rfl
section
variable {w w' : World} {B r c room : Nat} {D : Nat → Prop} {A : Option Addr} {L : List (Int × It)} {sent : Int} {closed : Bool}
theorem dtake_none (h : DocC w B D r A c room [] closed sent) :
    Calls Try.prog 12 #[.pointer (some ⟨r, 0, none⟩)] w fun e w' => e = .returned (.tuple #[zeroIt.val, .int .i64 (if closed = true then 17 else 19)]) ∧ Below w.heap.size w w' := by
  have hb : Below w.heap.size w (w.alloc (.cells #[.int .i64 0, .int .i64 0, .int .i64 0, .int .i64 0, .string ⟨#[]⟩, .slice none 0 0, .int .i64 0] 36)) := (Below.refl _ _).alloc (Nat.le_refl _) _
  have c0 := (h.below hb).c0
  have c2 := (h.below hb).c2
  simp only [List.length_nil] at c0
  have HB := Lib.hid hb
  clear h hb
  unfold zeroIt It.val
  rcases closed with _ | _
  · go_enter Try.func12, Try.ntmps12
    go_wp2_with fail
    (try simp only [Exit.inBlock, Exit.then])
    refine bodyPost_ret (v := .tuple #[.agg #[.int .i64 0, .int .i64 0, .int .i64 0, .int .i64 0, .string ⟨#[]⟩, .slice none 0 0, .int .i64 0], .int .i64 19]) ?_ rfl ⟨rfl, HB.out⟩
    rw [results_cell_tmp rfl]; go_simp
  · go_enter Try.func12, Try.ntmps12
    go_wp2_with fail
    (try simp only [Exit.inBlock, Exit.then])
    refine bodyPost_ret (v := .tuple #[.agg #[.int .i64 0, .int .i64 0, .int .i64 0, .int .i64 0, .string ⟨#[]⟩, .slice none 0 0, .int .i64 0], .int .i64 17]) ?_ rfl ⟨rfl, HB.out⟩
    rw [results_cell_tmp rfl]; go_simp
set_option maxHeartbeats 4000000 in
theorem dtake_some {o : Int × It} {R : List (Int × It)} (h : DocC w B D r A c room (o :: R) closed sent) (hl : R.length ≤ 9000) :
    Calls Try.prog 12 #[.pointer (some ⟨r, 0, none⟩)] w fun e w' => e = .returned (.tuple #[o.2.val, .int .i64 0]) ∧ DocS w' B D r room R closed sent ∧ Moved D w w' := by
  obtain ⟨x0, x⟩ := o
  obtain ⟨b, of, rfl, -, hbw, hc⟩ := h.rd.2 (by simp)
  have hcap : R.length + 1 ≤ c := h.cap.1
  obtain ⟨o', ho'⟩ : ∃ o', o' = if c = 1 then of else of + 1 * 8 := ⟨_, rfl⟩
  have hsl : ∀ w : World, (Instr.slice 29 (.slice (some ⟨b, of, none⟩) (R.length + 1) c) (some (.int .i64 1)) none none).run Try.prog w = .ok (.slice (some ⟨b, o', none⟩) R.length (c - 1)) w := by
    have := cut_from 29 54 8 Try.underlying29 thing_elem thing_size b of (R.length + 1) c 1 (by omega) hcap
    rw [← ho', Nat.add_sub_cancel] at this
    exact this
  -- worlds
  obtain ⟨gx, hgx⟩ : ∃ gx, gx = w.heap.size := ⟨_, rfl⟩
  have hb0 : Below w.heap.size w (w.alloc (.cells zeroIt.cells.toArray 36)) := (Below.refl _ _).alloc (Nat.le_refl _) _
  have hz0 : (w.alloc (.cells zeroIt.cells.toArray 36)).heap.size = w.heap.size + 1 := by simp
  have hx0 : (w.alloc (.cells zeroIt.cells.toArray 36)).heap[gx]? = some (.cells zeroIt.cells.toArray 36 (0, 0)) := by rw [hgx]; exact heap_alloc_new w _
  obtain ⟨W1, hW1⟩ : ∃ W1, W1 = (w.alloc (.cells zeroIt.cells.toArray 36)).alloc (.cells x.cells.toArray 36) := ⟨_, rfl⟩
  have hb1 : Below w.heap.size w W1 := by rw [hW1]; exact hb0.alloc hb0.size _
  have hx1 : W1.heap[gx]? = some (.cells zeroIt.cells.toArray 36 (0, 0)) := by rw [hW1]; exact at_up hx0 _
  have hx2 : W1.heap[gx + 1]? = some (.cells x.cells.toArray 36 (0, 0)) := by rw [hW1]; exact at_new _ _ (by rw [hz0, hgx])
  have h0 := h.below hb0
  have h1 := h.below hb1
  have hc0 := fun i v hv => (hb0.cell (p := ⟨b, of + 0 * 8 + i, none⟩) hbw).trans (hc 0 (ofCells (x0, x)) rfl i v hv)
  have d1 := hc0 1 _ rfl
  have d2 := hc0 2 _ rfl
  have d3 := hc0 3 _ rfl
  have d4 := hc0 4 _ rfl
  have d5 := hc0 5 _ rfl
  have d6 := hc0 6 _ rfl
  have d7 := hc0 7 _ rfl
  simp only [Nat.zero_mul, Nat.add_zero] at d1 d2 d3 d4 d5 d6 d7
  have c0 := h0.c0
  have k0 := h1.c0
  have f0 := h1.fz 0
  obtain ⟨W2, hW2⟩ : ∃ W2, W2 = W1.setCell ⟨r, 0, none⟩ (.slice (some ⟨b, o', none⟩) R.length (c - 1)) := ⟨_, rfl⟩
  have hgr : gx ≠ r := by have := h.lt; omega
  have hy1 : W2.heap[gx]? = some (.cells zeroIt.cells.toArray 36 (0, 0)) := by rw [hW2, Below.heap_setCell _ _ _ _ hgr]; exact hx1
  have hy2 : W2.heap[gx + 1]? = some (.cells x.cells.toArray 36 (0, 0)) := by rw [hW2, Below.heap_setCell _ _ _ _ (show gx + 1 ≠ r by have := h.lt; omega)]; exact hx2
  have e0 := cell_of_row W2 (gx + 1) 0 _ _ (0, 0) hy2
  have e1 := cell_of_row W2 (gx + 1) 1 _ _ (0, 0) hy2
  have e2 := cell_of_row W2 (gx + 1) 2 _ _ (0, 0) hy2
  have e3 := cell_of_row W2 (gx + 1) 3 _ _ (0, 0) hy2
  have e4 := cell_of_row W2 (gx + 1) 4 _ _ (0, 0) hy2
  have e5 := cell_of_row W2 (gx + 1) 5 _ _ (0, 0) hy2
  have e6 := cell_of_row W2 (gx + 1) 6 _ _ (0, 0) hy2
  simp only [It.cells, List.getElem?_toArray, List.getElem?_cons_succ, List.getElem?_cons_zero] at e0 e1 e2 e3 e4 e5 e6
  have hD2 : DocC W2 B D r (some ⟨b, o', none⟩) (c - 1) room R closed sent := by
    have hrs := h1.rdset 0 (.slice (some ⟨b, o', none⟩) R.length (c - 1))
    rw [← hW2] at hrs
    refine ⟨fun k hk => ?_, h.dr, fun a ha => ?_, ?_, ?_, by omega, by have := h.cap.2.1; omega, fun h => by cases h⟩
    · have := h1.low k hk; rw [hW2]; simpa using this
    · injection ha with ha
      subst ha
      exact ⟨(h.da _ rfl).1, (h.da _ rfl).2⟩
    · rw [hW2]; exact heap_setCell_same W1 r 0 _ _ _ h1.blk
    · rcases Nat.eq_zero_or_pos R.length with hr0 | hr0
      · have : R = [] := List.eq_nil_of_length_eq_zero hr0
        subst this
        exact ReadR.nil_ _ _ _ _
      · have hcut := hrs.cut (i := 1) (j := R.length + 1) (by omega) (Nat.le_refl _)
        have e1 : ((((x0, x) :: R).map ofCells).drop 1).take (R.length + 1 - 1) = R.map ofCells := by
          rw [List.map_cons, List.drop_succ_cons, List.drop_zero, Nat.add_sub_cancel]
          exact List.take_of_length_le (by simp)
        rw [e1, Nat.add_sub_cancel] at hcut
        rw [show o' = of + 1 * 8 by rw [ho', if_neg (by omega)]]
        exact hcut
  have hM2 : Moved D w W2 := by rw [hW2]; exact (Moved.of_below hb1 D).setCell (p := ⟨r, 0, none⟩) (.inl h.dr) _
  have HY1 := Lib.hid hy1
  have HF := Lib.hid (fun w6 (hg : W2.grownBy w6 (some gx)) (hs : w6.heap.size = W2.heap.size) => (⟨⟨_, _, hD2.keep (fun k hk => hg.block k (hD2.low k hk).2 fun e => by injection e with e; have := (h.low k hk).2; omega) (Nat.le_of_eq hs.symm)⟩, hM2.grown hg fun k hk => .inr (by injection hk with hk; omega)⟩ : DocS w6 B D r room R closed sent ∧ Moved D w w6))
  obtain ⟨n, hn⟩ : ∃ n, n = R.length := ⟨_, rfl⟩
  simp only [List.length_cons] at c0 k0
  rw [← hn] at c0 k0 hsl hl hW2 hcap
  have HXW := Lib.hid (And.intro x.wide rfl : _ ∧ zeroIt.cells.length = 7)
  have HGX := Lib.hid (show Hid (gx = w.heap.size) from Lib.hid hgx)
  clear h h0 h1 hc hc0 hb0 hb1 hx0 hx1 hx2 hz0 hy1 hy2 hD2 hM2 hgr hn ho'
  subst hW2
  subst hW1
  subst hgx
  unfold zeroIt It.cells at c0 k0 f0 d1 d2 d3 d4 d5 d6 d7 e0 e1 e2 e3 e4 e5 e6 HY1 HF
  unfold It.val
  go_enter Try.func12, Try.ntmps12
  go_wp2_with (first
    | (refine wpList_store_item rfl (.tmp 2) (.tmp 26) rfl w.heap.size _ x.cells rfl rfl HY1.out HXW.out.2 rfl HXW.out.1.2 ?_; intro w6 hb6 hg6 hs6; clear e0 e1 e2 e3 e4 e5 e6; have H6 := Lib.hid (HF.out w6 hg6 hs6); have g0 := cell_of_row w6 _ 0 _ _ (0, 0) hb6; have g1 := cell_of_row w6 _ 1 _ _ (0, 0) hb6; have g2 := cell_of_row w6 _ 2 _ _ (0, 0) hb6; have g3 := cell_of_row w6 _ 3 _ _ (0, 0) hb6; have g4 := cell_of_row w6 _ 4 _ _ (0, 0) hb6; have g5 := cell_of_row w6 _ 5 _ _ (0, 0) hb6; have g6 := cell_of_row w6 _ 6 _ _ (0, 0) hb6; clear hb6 hg6 hs6; simp only [It.cells, List.getElem?_toArray, List.getElem?_cons_succ, List.getElem?_cons_zero] at g0 g1 g2 g3 g4 g5 g6))
  (try simp only [Exit.inBlock, Exit.then])
  refine bodyPost_ret (v := .tuple #[.agg #[.int .i64 x.n, .int .i64 x.b, .int .i64 x.rn, .int .i64 x.ra, .string x.tx, .slice x.hA x.hm x.hc, .int .i64 x.e], .int .i64 0]) ?_ rfl ⟨rfl, H6.out⟩
  rw [results_cell_tmp rfl]; go_simp
end
end Go.Proofs.Ytmmfioemnoijoaa
