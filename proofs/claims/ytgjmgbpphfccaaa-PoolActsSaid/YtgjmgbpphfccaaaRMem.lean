/- The document's pool: its memory; is, Take, Fill, View, Bytes, Turn. -/
import Derived.Test.YtgjmgbpphfccaaaPQueue
namespace Go.Proofs.Ytgjmgbpphfccaaa
open Go Go.RowKit
set_option linter.unusedVariables false

/-- Texts as values. -/
def tv (os : List (List Int)) : List Value := os.map fun o => .string (strOfNums o)
theorem tv_length (os : List (List Int)) : (tv os).length = os.length := by simp [tv]
theorem tv_get (os : List (List Int)) (i : Nat) : (tv os)[i]? = (os[i]?).map fun o => .string (strOfNums o) := by simp [tv]
theorem tv_set (os : List (List Int)) (i : Nat) (o : List Int) : (tv os).set i (.string (strOfNums o)) = tv (os.set i o) := by simp [tv, List.map_set]
theorem iv_get (hs : List Nat) (i : Nat) : (iv hs)[i]? = (hs[i]?).map fun h => .int .i64 (h : Int) := by
  unfold iv ints
  rw [List.getElem?_map, List.getElem?_map]
  cases hs[i]? <;> rfl
theorem iv_set (hs : List Nat) (i x : Nat) : (iv hs).set i (.int .i64 (x : Int)) = iv (hs.set i x) := by simp [iv, ints, List.map_set]

structure RefC (w : World) (B : Nat) (F : Nat → Prop) (g : Nat) (HV BV LV : Value) (size : Nat) (os : List (List Int)) (hs ln : List Nat) : Prop where
  low : ∀ k, F k → B ≤ k ∧ k < w.heap.size
  fg : F g
  fh : ∀ k, HV.ownBlock = some k → F k
  fb : ∀ k, BV.ownBlock = some k → F k
  fl : ∀ k, LV.ownBlock = some k → F k
  blk : w.heap[g]? = some (.cells #[HV, BV, LV, .int .i64 (size : Int)] 44 (0, 0))
  hrow : w.ownsRow 0 3 1 HV hs.length (iv hs)
  brow : w.ownsRow 0 9 1 BV os.length (tv os)
  line : QRow w 0 LV ln.length ln
  apart : ∀ k, LV.ownBlock = some k → HV.ownBlock ≠ some k
  lo : os.length = hs.length

theorem q_ne_blk {w : World} {B n : Nat} {v : Value} {xs : List Nat} (h : QRow w B v n xs) {g : Nat} {cs : Array Value} {t : TypeId} {f : Nat × Nat} (hg : w.heap[g]? = some (.cells cs t f)) (hne : 3 ≠ t) : v.ownBlock ≠ some g := by
  rcases h.2 with ⟨rfl, _⟩ | ⟨b, o, cap, cur, rfl, hb, hr, _⟩
  · simp [Value.ownBlock]
  · simp [Value.ownBlock]
    rintro rfl
    rw [hr] at hg
    injection hg with hg
    injection hg with _ ht _
    exact hne ht
theorem q_ne_row {w : World} {B n : Nat} {v : Value} {xs : List Nat} (h : QRow w B v n xs) {B' : Nat} {e' : TypeId} {s' : Nat} {v' : Value} {n' : Nat} {xs' : List Value} (h' : w.ownsRow B' e' s' v' n' xs') (hne : 3 ≠ e') {k : Nat} (hk : v'.ownBlock = some k) : v.ownBlock ≠ some k := by
  rcases h'.2 with ⟨rfl, _⟩ | ⟨b, cap, cur, rfl, hb, hr, _⟩
  · cases hk
  · injection hk with hk
    subst hk
    exact q_ne_blk h hr hne

section
variable {w w' : World} {B g size : Nat} {F : Nat → Prop} {HV BV LV : Value} {os : List (List Int)} {hs ln : List Nat}
theorem RefC.lt (h : RefC w B F g HV BV LV size os hs ln) : g < w.heap.size := (h.low g h.fg).2
theorem RefC.c0 (h : RefC w B F g HV BV LV size os hs ln) : w.cell? ⟨g, 0, none⟩ = some HV := cell_of_row w g 0 _ _ (0, 0) h.blk
theorem RefC.c1 (h : RefC w B F g HV BV LV size os hs ln) : w.cell? ⟨g, 1, none⟩ = some BV := cell_of_row w g 1 _ _ (0, 0) h.blk
theorem RefC.c2 (h : RefC w B F g HV BV LV size os hs ln) : w.cell? ⟨g, 2, none⟩ = some LV := cell_of_row w g 2 _ _ (0, 0) h.blk
theorem RefC.c3 (h : RefC w B F g HV BV LV size os hs ln) : w.cell? ⟨g, 3, none⟩ = some (.int .i64 (size : Int)) := cell_of_row w g 3 _ _ (0, 0) h.blk
theorem RefC.fz (h : RefC w B F g HV BV LV size os hs ln) (j : Nat) : w.frozen? ⟨g, j, none⟩ = false := by have := h.blk; simp [World.frozen?, this]
theorem RefC.keep (h : RefC w B F g HV BV LV size os hs ln) (hs' : ∀ k, F k → w'.heap[k]? = w.heap[k]?) (hz : w.heap.size ≤ w'.heap.size) : RefC w' B F g HV BV LV size os hs ln where
  low := fun k hk => ⟨(h.low k hk).1, Nat.lt_of_lt_of_le (h.low k hk).2 hz⟩
  fg := h.fg
  fh := h.fh
  fb := h.fb
  fl := h.fl
  blk := (hs' g h.fg).trans h.blk
  hrow := row_keep h.hrow fun k _ e => hs' k (h.fh k e)
  brow := row_keep h.brow fun k _ e => hs' k (h.fb k e)
  line := h.line.keep fun k _ e => hs' k (h.fl k e)
  apart := h.apart
  lo := h.lo
theorem RefC.below (h : RefC w B F g HV BV LV size os hs ln) (hb : Below w.heap.size w w') : RefC w' B F g HV BV LV size os hs ln := h.keep (fun k hk => hb.block k (h.low k hk).2) hb.size
theorem RefC.moved (h : RefC w B F g HV BV LV size os hs ln) {F2 : Nat → Prop} (hm : Moved F2 w w') (hd : ∀ k, F k → ¬ F2 k) : RefC w' B F g HV BV LV size os hs ln := h.keep (fun k hk => hm.block k (h.low k hk).2 (hd k hk)) hm.size
theorem RefC.ne (h : RefC w B F g HV BV LV size os hs ln) : HV.ownBlock ≠ some g ∧ BV.ownBlock ≠ some g ∧ LV.ownBlock ≠ some g ∧ (∀ k, BV.ownBlock = some k → HV.ownBlock ≠ some k) ∧ ∀ k, BV.ownBlock = some k → LV.ownBlock ≠ some k :=
  ⟨row_ne_blk h.hrow h.blk (by decide), row_ne_blk h.brow h.blk (by decide), q_ne_blk h.line h.blk (by decide), fun k hk => row_ne_row h.hrow h.brow (by decide) hk, fun k hk => q_ne_row h.line h.brow (by decide) hk⟩
/-- Where the rows lie, if there is a buffer. -/
theorem RefC.rows (h : RefC w B F g HV BV LV size os hs ln) (hn : 0 < hs.length) : ∃ gh ch gt ct, HV = .slice (some ⟨gh, 0, none⟩) hs.length ch ∧ BV = .slice (some ⟨gt, 0, none⟩) hs.length ct ∧ hs.length ≤ ch ∧ ch ≤ maxLen ∧ hs.length ≤ ct ∧ ct ≤ maxLen ∧
    (∀ i, i < hs.length → w.cell? ⟨gh, i, none⟩ = some (.int .i64 (hs.getD i 0 : Int))) ∧ (∀ i, i < hs.length → w.cell? ⟨gt, i, none⟩ = some (.string (strOfNums (os.getD i [])))) ∧ (∀ j, w.frozen? ⟨gh, j, none⟩ = false) ∧ (∀ j, w.frozen? ⟨gt, j, none⟩ = false) ∧ F gh ∧ F gt := by
  have hlo := h.lo
  obtain ⟨A, c, hv, h1, h2, h3, h4⟩ := own_cells h.hrow
  obtain ⟨A', c', hv', h1', h2', h3', h4'⟩ := own_cells h.brow
  rcases A with _ | a
  · have := (h3 rfl).1; omega
  · rcases A' with _ | a'
    · have := (h3' rfl).1; omega
    · obtain ⟨gh, rfl, _, _, q1, q2⟩ := h4 a rfl
      obtain ⟨gt, rfl, _, _, q3, q4⟩ := h4' a' rfl
      rw [hlo] at hv' h1'
      refine ⟨gh, c, gt, c', hv, hv', h1, h2, h1', h2', fun i hi => ?_, fun i hi => ?_, q2, q4, h.fh gh (by rw [hv]; rfl), h.fb gt (by rw [hv']; rfl)⟩
      · exact q1 i _ (by rw [iv_get]; simp [List.getD, List.getElem?_eq_getElem hi])
      · exact q3 i _ (by rw [tv_get]; simp [List.getD, List.getElem?_eq_getElem (show i < os.length by omega)])
/-- How often a buffer is held is stored. -/
theorem RefC.setH {gh ch : Nat} (h : RefC w B F g (.slice (some ⟨gh, 0, none⟩) hs.length ch) BV LV size os hs ln) (i x : Nat) : RefC (w.setCell ⟨gh, i, none⟩ (.int .i64 (x : Int))) B F g (.slice (some ⟨gh, 0, none⟩) hs.length ch) BV LV size os (hs.set i x) ln where
  low := fun k hk => by simpa [World.setCell] using h.low k hk
  fg := h.fg
  fh := h.fh
  fb := h.fb
  fl := h.fl
  blk := (Below.heap_setCell _ _ _ _ (fun e => h.ne.1 (by simp only at e; rw [e]; rfl))).trans h.blk
  hrow := by
    have := (h.hrow.stored i (.int .i64 (x : Int))).1
    rw [iv_set] at this
    rw [List.length_set]
    exact this
  brow := row_keep h.brow fun k _ e => Below.heap_setCell _ _ _ _ (fun e' => h.ne.2.2.2.1 k e (by simp only at e'; rw [e']; rfl))
  line := h.line.keep fun k _ e => Below.heap_setCell _ _ _ _ (fun e' => h.apart k e (by simp only at e'; rw [e']; rfl))
  apart := h.apart
  lo := by rw [List.length_set]; exact h.lo
/-- A text is stored. -/
theorem RefC.setB {gt ct : Nat} (h : RefC w B F g HV (.slice (some ⟨gt, 0, none⟩) os.length ct) LV size os hs ln) (i : Nat) (o : List Int) : RefC (w.setCell ⟨gt, i, none⟩ (.string (strOfNums o))) B F g HV (.slice (some ⟨gt, 0, none⟩) os.length ct) LV size (os.set i o) hs ln where
  low := fun k hk => by simpa [World.setCell] using h.low k hk
  fg := h.fg
  fh := h.fh
  fb := h.fb
  fl := h.fl
  blk := (Below.heap_setCell _ _ _ _ (fun e => h.ne.2.1 (by simp only at e; rw [e]; rfl))).trans h.blk
  hrow := row_keep h.hrow fun k _ e => Below.heap_setCell _ _ _ _ (fun e' => h.ne.2.2.2.1 gt rfl (by simp only at e'; rw [e, e']))
  brow := by
    have := (h.brow.stored i (.string (strOfNums o))).1
    rw [tv_set] at this
    rw [List.length_set]
    exact this
  line := h.line.keep fun k _ e => Below.heap_setCell _ _ _ _ (fun e' => h.ne.2.2.2.2 gt rfl (by simp only at e'; rw [e, e']))
  apart := h.apart
  lo := by rw [List.length_set]; exact h.lo
/-- The line is stored: of its own block, or of a new one. -/
theorem RefC.setL (h : RefC w B F g HV BV LV size os hs ln) (LV' : Value) (ln' : List Nat) (hb : Below w.heap.size w w') (ho : QRow w' 0 LV' ln'.length ln') (hat : ∀ k, LV'.ownBlock = some k → LV.ownBlock = some k ∨ w.heap.size ≤ k) :
    RefC (w'.setCell ⟨g, 2, none⟩ LV') B (fun k => F k ∨ (w.heap.size ≤ k ∧ k < w'.heap.size)) g HV BV LV' size os hs ln' := by
  have h' := h.below hb
  have hz := hb.size
  refine ⟨fun k hk => ?_, .inl h.fg, fun k hk => .inl (h.fh k hk), fun k hk => .inl (h.fb k hk), fun k hk => ?_, heap_setCell_same w' g 2 _ _ _ h'.blk, ?_, ?_, ?_, fun k hk e => ?_, h.lo⟩
  · have : (w'.setCell ⟨g, 2, none⟩ LV').heap.size = w'.heap.size := by simp [World.setCell]
    rw [this]
    rcases hk with hk | hk
    · have := h.low k hk; omega
    · have := h.low g h.fg; omega
  · rcases hat k hk with h1 | h1
    · exact .inl (h.fl k h1)
    · exact .inr ⟨h1, (ho.lt hk).2⟩
  · exact row_keep h'.hrow fun k _ e => Below.heap_setCell _ _ _ _ (fun e' => h.ne.1 (by simp only at e'; rw [e, e']))
  · exact row_keep h'.brow fun k _ e => Below.heap_setCell _ _ _ _ (fun e' => h.ne.2.1 (by simp only at e'; rw [e, e']))
  · exact ho.keep fun k _ e => Below.heap_setCell _ _ _ _ (fun e' => q_ne_blk ho h'.blk (by decide) (by simp only at e'; rw [e, e']))
  · rcases hat k hk with h1 | h1
    · exact h.apart k h1 e
    · have := (h.low k (h.fh k e)).2
      omega

theorem is_any (h : RefC w B F g HV BV LV size os hs ln) (i : Int) (hn : 0 < hs.length ∧ hs.length ≤ 64) :
    Calls Try.prog 27 #[.pointer (some ⟨g, 0, none⟩), .int .i64 i] w fun e w' => e = .returned (.bool (decide (0 < heldL hs i))) ∧ w = w' := by
  obtain ⟨gh, ch, gt, ct, rfl, rfl, h1, h2, h3, h4, hH, hT, f1, f2, _⟩ := h.rows hn.1
  obtain ⟨hn0, hn1⟩ := hn
  have c0 := h.c0
  clear h
  by_cases hi : i < 0 ∨ (hs.length : Int) ≤ i
  · rw [heldL_out hs i hi, show decide (0 < 0) = false by decide]
    clear hH hT f1 f2
    rcases hi with hi | hi
    · have d1 : decide (0 ≤ i) = false := by simp; omega
      go_enter Try.func27, Try.ntmps27
      go_wp2_with fail
      go_ret
      exact ⟨rfl, rfl⟩
    · have d1 : decide (0 ≤ i) = true := by simp; omega
      have d2 : decide (i < (hs.length : Int)) = false := by simp; omega
      go_enter Try.func27, Try.ntmps27
      go_wp2_with fail
      go_ret
      exact ⟨rfl, rfl⟩
  · obtain ⟨k, rfl⟩ := Int.eq_ofNat_of_zero_le (show 0 ≤ i by omega)
    have hk : k < hs.length := by omega
    have hc := hH k hk
    rw [heldL_nat]
    obtain ⟨x, hx⟩ : ∃ x, x = hs.getD k 0 := ⟨_, rfl⟩
    rw [← hx] at hc ⊢
    clear hH hT f1 f2 hx hi
    go_enter Try.func27, Try.ntmps27
    go_wp2_with fail
    go_ret
    exact ⟨by simp, rfl⟩
end
end Go.Proofs.Ytgjmgbpphfccaaa
