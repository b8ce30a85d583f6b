/- The document's ring: its block, its list, which is never written twice. -/
import Derived.Test.YtmpemcooianfiaaCutR
import Derived.Test.YtmpemcooianfiaaRinF
namespace Go.Proofs.Ytmpemcooianfiaa
open Go Go.RowKit
set_option linter.unusedVariables false
set_option maxRecDepth 20000

/-- The document's ring that lies in block r, its memory in the blocks of D. -/
structure DrgC (w : World) (B : Nat) (D : Nat → Prop) (r : Nat) (A : Option Addr) (c n next : Nat) (L : List It) : Prop where
  low : ∀ k, D k → B ≤ k ∧ k < w.heap.size
  dr : D r
  da : ∀ a, A = some a → D a.block ∧ a.block ≠ r
  blk : w.heap[r]? = some (.cells #[.slice A L.length c, .int .i64 (n : Int), .int .i64 (next : Int)] 31 (0, 0))
  rd : ReadR 0 w A L.length 7 (L.map It.cells)
  cap : L.length ≤ c ∧ c ≤ maxLen ∧ (A = none → c = 0)
def DrgS (w : World) (B : Nat) (D : Nat → Prop) (r n next : Nat) (L : List It) : Prop := ∃ A c, DrgC w B D r A c n next L
section
variable {w w' : World} {B r c n next : Nat} {D : Nat → Prop} {A : Option Addr} {L : List It}
theorem DrgC.lt (h : DrgC w B D r A c n next L) : r < w.heap.size := (h.low r h.dr).2
theorem DrgC.c0 (h : DrgC w B D r A c n next L) : w.cell? ⟨r, 0, none⟩ = some (.slice A L.length c) := cell_of_row w r 0 _ _ (0, 0) h.blk
theorem DrgC.c1 (h : DrgC w B D r A c n next L) : w.cell? ⟨r, 1, none⟩ = some (.int .i64 (n : Int)) := cell_of_row w r 1 _ _ (0, 0) h.blk
theorem DrgC.c2 (h : DrgC w B D r A c n next L) : w.cell? ⟨r, 2, none⟩ = some (.int .i64 (next : Int)) := cell_of_row w r 2 _ _ (0, 0) h.blk
theorem DrgC.fz (h : DrgC w B D r A c n next L) (j : Nat) : w.frozen? ⟨r, j, none⟩ = false := by have := h.blk; simp [World.frozen?, this]
theorem DrgC.keep (h : DrgC w B D r A c n next L) (hs' : ∀ k, D k → w'.heap[k]? = w.heap[k]?) (hz : w.heap.size ≤ w'.heap.size) : DrgC w' B D r A c n next L where
  low := fun k hk => ⟨(h.low k hk).1, Nat.lt_of_lt_of_le (h.low k hk).2 hz⟩
  dr := h.dr
  da := h.da
  blk := (hs' r h.dr).trans h.blk
  rd := by
    refine ⟨h.rd.1, fun hn => ?_⟩
    obtain ⟨b, o, hA, h0, hlt, hc⟩ := h.rd.2 hn
    refine ⟨b, o, hA, h0, Nat.lt_of_lt_of_le hlt hz, fun j x hx i v hv => ?_⟩
    rw [World.cell?_of_block (w := w) (w' := w') (a := ⟨b, o + j * 7 + i, none⟩) (hs' b (h.da _ hA).1)]
    exact hc j x hx i v hv
  cap := h.cap
theorem DrgC.below (h : DrgC w B D r A c n next L) (hb : Below w.heap.size w w') : DrgC w' B D r A c n next L := h.keep (fun k hk => hb.block k (h.low k hk).2) hb.size
theorem DrgC.rdset (h : DrgC w B D r A c n next L) (j : Nat) (v : Value) : ReadR 0 (w.setCell ⟨r, j, none⟩ v) A L.length 7 (L.map It.cells) := by
  refine ⟨h.rd.1, fun hn => ?_⟩
  obtain ⟨b, o, hA, h0, hlt, hc⟩ := h.rd.2 hn
  refine ⟨b, o, hA, h0, by simpa using hlt, fun j' x hx i u hu => ?_⟩
  rw [World.cell?_of_block (w := w) (w' := w.setCell ⟨r, j, none⟩ v) (a := ⟨b, o + j' * 7 + i, none⟩) (Below.heap_setCell _ _ _ _ (h.da _ hA).2)]
  exact hc j' x hx i u hu
/-- The next ticket is stored. -/
theorem DrgC.setN (h : DrgC w B D r A c n next L) (x : Nat) : DrgC (w.setCell ⟨r, 2, none⟩ (.int .i64 (x : Int))) B D r A c n x L :=
  ⟨fun k hk => by simpa using h.low k hk, h.dr, h.da, heap_setCell_same w r 2 _ _ _ h.blk, h.rdset _ _, h.cap⟩
/-- A new list is stored, which lies in memory that was made since, or is empty. -/
theorem DrgC.setL (h : DrgC w B D r A c n next L) (hb : Below w.heap.size w w') {A' : Option Addr} {c' : Nat} {L' : List It} (hr : RecW w' w.heap.size 36 7 (.slice A' L'.length c') (L'.map It.cells)) :
    DrgC (w'.setCell ⟨r, 0, none⟩ (.slice A' L'.length c')) B (fun k => D k ∨ (w.heap.size ≤ k ∧ k < w'.heap.size)) r A' c' n next L' := by
  have hgg := (hb.block r h.lt).trans h.blk
  have hz := hb.size
  have hlo : ∀ a, A' = some a → w.heap.size ≤ a.block ∧ a.block < w'.heap.size := fun a ha => row_lt hr.1 (by rw [ha]; rfl)
  obtain ⟨A2, c2, e1, hrd, h2, h3, h4⟩ := hr.read
  injection e1 with e1 e2 e3
  subst e1; subst e3
  rw [List.length_map] at hrd h2
  refine ⟨fun k hk => ?_, .inl h.dr, fun a ha => ⟨.inr (hlo a ha), by have := (hlo a ha).1; have := h.lt; omega⟩, heap_setCell_same w' r 0 _ _ _ hgg, ?_, h2, h3, fun h => (h4 h).2⟩
  · have : (w'.setCell ⟨r, 0, none⟩ (.slice A' L'.length c')).heap.size = w'.heap.size := by simp
    rw [this]
    rcases hk with hk | hk
    · have := h.low k hk; omega
    · have := h.low r h.dr; omega
  · refine (hrd.keep (w' := w'.setCell ⟨r, 0, none⟩ (.slice A' L'.length c')) (Nat.le_of_eq (by simp)) fun b hb _ => Below.heap_setCell _ _ _ _ (by have := h.lt; show b ≠ r; omega)).base (Nat.zero_le _)
theorem DrgC.stepL (h : DrgC w B D r A c n next L) (hb : Below w.heap.size w w') (v : Value) : Step D (fun k => D k ∨ (w.heap.size ≤ k ∧ k < w'.heap.size)) w (w'.setCell ⟨r, 0, none⟩ v) :=
  ⟨(Moved.of_below hb D).setCell (p := ⟨r, 0, none⟩) (.inl h.dr) _, fun k hk => hk.elim .inl fun h => .inr h.1⟩
/-- An empty one that was just made. -/
theorem drg_made (w : World) (n : Nat) {B : Nat} (hB : B ≤ w.heap.size) : DrgC (w.alloc (.cells #[.slice none 0 0, .int .i64 (n : Int), .int .i64 0] 31)) B (fun k => k = w.heap.size) w.heap.size none 0 n 0 [] :=
  ⟨fun k hk => (by subst hk; exact ⟨hB, by simp⟩), rfl, fun a ha => (by cases ha), heap_alloc_new w _, ReadR.nil_ _ _ _ _, Nat.le_refl _, Nat.zero_le _, fun _ => rfl⟩
end
end Go.Proofs.Ytmpemcooianfiaa
