/- The document's pool: New; Ints. -/
import Derived.Test.YtgjmgbpphfccaaaRTurn
namespace Go.Proofs.Ytgjmgbpphfccaaa
open Go Go.RowKit
set_option linter.unusedVariables false

/-- The pool as it is being made. -/
structure RefN (w : World) (B g : Nat) (HV BV LV : Value) (size : Nat) (os : List (List Int)) (hs ln : List Nat) : Prop where
  lg : B ≤ g
  blk : w.heap[g]? = some (.cells #[HV, BV, LV, .int .i64 (size : Int)] 44 (0, 0))
  hrow : w.ownsRow B 3 1 HV hs.length (iv hs)
  brow : w.ownsRow B 9 1 BV os.length (tv os)
  lrow : w.ownsRow B 3 1 LV ln.length (iv ln)
  apart : ∀ k, LV.ownBlock = some k → HV.ownBlock ≠ some k
section
variable {w : World} {B g size : Nat} {HV BV LV : Value} {os : List (List Int)} {hs ln : List Nat}
theorem RefN.lt (h : RefN w B g HV BV LV size os hs ln) : g < w.heap.size := (Array.getElem?_eq_some_iff.1 h.blk).1
theorem RefN.pushH (h : RefN w B g HV BV LV size os hs ln) (hn : hs.length ≤ 1000) :
    ∃ HV' w1, (Builtin.append_ #[41, 41] 41 #[HV, .slice (some ⟨w.heap.size, 0, none⟩) 1 1]).run Try.prog (w.alloc (.cells #[.int .i64 0] 3)) = .ok HV' w1 ∧ w1.cell? ⟨g, 0, none⟩ = some HV ∧ w1.frozen? ⟨g, 0, none⟩ = false ∧
      RefN (w1.setCell ⟨g, 0, none⟩ HV') B g HV' BV LV size os (hs ++ [0]) ln ∧ Below B w (w1.setCell ⟨g, 0, none⟩ HV') ∧ ∃ A c, HV' = .slice A (hs.length + 1) c := by
  have hlt := h.lt
  have hlg := h.lg
  obtain ⟨v, w1, happ, hown, hgr, hat⟩ := push_at 41 3 (.int .i64 0) 8 Try.underlying41 info_int rfl w B HV hs.length (iv hs) h.hrow (.int .i64 0) rfl (by omega) (by unfold maxLen; omega) (by omega)
  have hz := hgr.size
  have hg1 := (hgr.block g hlt (fun e => row_ne_blk h.hrow h.blk (by decide) e.symm)).trans h.blk
  have hb : Below B w w1 := (Below.refl B w).grown hgr (by omega) (fun k hk => (row_lt h.hrow hk).1)
  obtain ⟨A, c, hv, _⟩ := own_cells hown
  refine ⟨v, w1, happ, cell_of_row w1 g 0 _ _ (0, 0) hg1, by simp [World.frozen?, hg1], ⟨hlg, heap_setCell_same w1 g 0 _ _ _ hg1, ?_, ?_, ?_, fun k hk e => ?_⟩, hb.setCell (p := ⟨g, 0, none⟩) hlg _, A, c, hv⟩
  · have : w1.ownsRow B 3 1 v (hs ++ [0]).length (iv (hs ++ [0])) := by rw [iv_append]; simpa [iv, ints] using hown
    exact row_keep this fun k _ e => Below.heap_setCell _ _ _ _ (fun e' => row_ne_blk hown hg1 (by decide) (by rw [e, e']))
  · refine row_keep (row_keep h.brow fun k hk e => hgr.block k hk (fun e' => ?_)) fun k _ e => Below.heap_setCell _ _ _ _ (fun e' => row_ne_blk h.brow h.blk (by decide) (by rw [e, e']))
    exact row_ne_row h.brow h.hrow (by decide) e'.symm e
  · refine row_keep (row_keep h.lrow fun k hk e => hgr.block k hk (fun e' => h.apart k e e'.symm)) fun k _ e => Below.heap_setCell _ _ _ _ (fun e' => row_ne_blk h.lrow h.blk (by decide) (by rw [e, e']))
  · rcases hat k e with h1 | h1
    · exact h.apart k hk h1
    · have := (row_lt h.lrow hk).2; omega
theorem RefN.pushB (h : RefN w B g HV BV LV size os hs ln) (hn : os.length ≤ 1000) :
    ∃ BV' w1, (Builtin.append_ #[42, 42] 42 #[BV, .slice (some ⟨w.heap.size, 0, none⟩) 1 1]).run Try.prog (w.alloc (.cells #[.string ⟨#[]⟩] 9)) = .ok BV' w1 ∧ w1.cell? ⟨g, 1, none⟩ = some BV ∧ w1.frozen? ⟨g, 1, none⟩ = false ∧
      RefN (w1.setCell ⟨g, 1, none⟩ BV') B g HV BV' LV size (os ++ [[]]) hs ln ∧ Below B w (w1.setCell ⟨g, 1, none⟩ BV') ∧ ∃ A c, BV' = .slice A (os.length + 1) c := by
  have hlt := h.lt
  have hlg := h.lg
  obtain ⟨v, w1, happ, hown, hgr, hat⟩ := push_at 42 9 (.string ⟨#[]⟩) 16 Try.underlying42 info_str rfl w B BV os.length (tv os) h.brow (.string ⟨#[]⟩) rfl (by omega) (by unfold maxLen; omega) (by omega)
  have hz := hgr.size
  have hg1 := (hgr.block g hlt (fun e => row_ne_blk h.brow h.blk (by decide) e.symm)).trans h.blk
  have hb : Below B w w1 := (Below.refl B w).grown hgr (by omega) (fun k hk => (row_lt h.brow hk).1)
  obtain ⟨A, c, hv, _⟩ := own_cells hown
  refine ⟨v, w1, happ, cell_of_row w1 g 1 _ _ (0, 0) hg1, by simp [World.frozen?, hg1], ⟨hlg, heap_setCell_same w1 g 1 _ _ _ hg1, ?_, ?_, ?_, h.apart⟩, hb.setCell (p := ⟨g, 1, none⟩) hlg _, A, c, hv⟩
  · refine row_keep (row_keep h.hrow fun k hk e => hgr.block k hk (fun e' => ?_)) fun k _ e => Below.heap_setCell _ _ _ _ (fun e' => row_ne_blk h.hrow h.blk (by decide) (by rw [e, e']))
    exact row_ne_row h.hrow h.brow (by decide) e'.symm e
  · have : w1.ownsRow B 9 1 v (os ++ [[]]).length (tv (os ++ [[]])) := by
      have e : tv (os ++ [[]]) = tv os ++ [.string ⟨#[]⟩] := by simp [tv]; rfl
      rw [e]; simpa using hown
    exact row_keep this fun k _ e => Below.heap_setCell _ _ _ _ (fun e' => row_ne_blk hown hg1 (by decide) (by rw [e, e']))
  · refine row_keep (row_keep h.lrow fun k hk e => hgr.block k hk (fun e' => ?_)) fun k _ e => Below.heap_setCell _ _ _ _ (fun e' => row_ne_blk h.lrow h.blk (by decide) (by rw [e, e']))
    exact row_ne_row h.lrow h.brow (by decide) e'.symm e
theorem RefN.pushL (h : RefN w B g HV BV LV size os hs ln) (i : Nat) (hn : ln.length ≤ 1000) :
    ∃ LV' w1, (Builtin.append_ #[41, 41] 41 #[LV, .slice (some ⟨w.heap.size, 0, none⟩) 1 1]).run Try.prog (w.alloc (.cells #[.int .i64 (i : Int)] 3)) = .ok LV' w1 ∧ w1.cell? ⟨g, 2, none⟩ = some LV ∧ w1.frozen? ⟨g, 2, none⟩ = false ∧
      RefN (w1.setCell ⟨g, 2, none⟩ LV') B g HV BV LV' size os hs (ln ++ [i]) ∧ Below B w (w1.setCell ⟨g, 2, none⟩ LV') ∧ ∃ A c, LV' = .slice A (ln.length + 1) c := by
  have hlt := h.lt
  have hlg := h.lg
  obtain ⟨v, w1, happ, hown, hgr, hat⟩ := push_at 41 3 (.int .i64 0) 8 Try.underlying41 info_int rfl w B LV ln.length (iv ln) h.lrow (.int .i64 (i : Int)) rfl (by omega) (by unfold maxLen; omega) (by omega)
  have hz := hgr.size
  have hg1 := (hgr.block g hlt (fun e => row_ne_blk h.lrow h.blk (by decide) e.symm)).trans h.blk
  have hb : Below B w w1 := (Below.refl B w).grown hgr (by omega) (fun k hk => (row_lt h.lrow hk).1)
  obtain ⟨A, c, hv, _⟩ := own_cells hown
  refine ⟨v, w1, happ, cell_of_row w1 g 2 _ _ (0, 0) hg1, by simp [World.frozen?, hg1], ⟨hlg, heap_setCell_same w1 g 2 _ _ _ hg1, ?_, ?_, ?_, fun k hk e => ?_⟩, hb.setCell (p := ⟨g, 2, none⟩) hlg _, A, c, hv⟩
  · refine row_keep (row_keep h.hrow fun k hk e => hgr.block k hk (fun e' => h.apart k e'.symm e)) fun k _ e => Below.heap_setCell _ _ _ _ (fun e' => row_ne_blk h.hrow h.blk (by decide) (by rw [e, e']))
  · refine row_keep (row_keep h.brow fun k hk e => hgr.block k hk (fun e' => ?_)) fun k _ e => Below.heap_setCell _ _ _ _ (fun e' => row_ne_blk h.brow h.blk (by decide) (by rw [e, e']))
    exact row_ne_row h.brow h.lrow (by decide) e'.symm e
  · have : w1.ownsRow B 3 1 v (ln ++ [i]).length (iv (ln ++ [i])) := by rw [iv_append]; simpa [iv, ints] using hown
    exact row_keep this fun k _ e => Below.heap_setCell _ _ _ _ (fun e' => row_ne_blk hown hg1 (by decide) (by rw [e, e']))
  · rcases hat k hk with h1 | h1
    · exact h.apart k h1 e
    · have := (row_lt h.hrow e).2; omega
theorem RefN.done (h : RefN w B g HV BV LV size os hs ln) (hl : os.length = hs.length) : RefC w B (fun k => B ≤ k ∧ k < w.heap.size) g HV BV LV size os hs ln where
  low := fun k hk => hk
  fg := ⟨h.lg, h.lt⟩
  fh := fun k hk => row_lt h.hrow hk
  fb := fun k hk => row_lt h.brow hk
  fl := fun k hk => row_lt h.lrow hk
  blk := h.blk
  hrow := row_base h.hrow (fun _ _ => Nat.zero_le _)
  brow := row_base h.brow (fun _ _ => Nat.zero_le _)
  line := q_of_row (row_base h.lrow (fun _ _ => Nat.zero_le _))
  apart := h.apart
  lo := hl
end

end Go.Proofs.Ytgjmgbpphfccaaa
