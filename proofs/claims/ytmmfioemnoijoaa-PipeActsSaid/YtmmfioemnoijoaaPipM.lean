/- A pipe's memory: its block, the row of its items, the row of its offers. -/
import Derived.Test.YtmmfioemnoijoaaRec
namespace Go.Proofs.Ytmmfioemnoijoaa
open Go Go.RowKit
set_option linter.unusedVariables false
set_option maxRecDepth 20000

/-- An item: its numbers, its text, its hits (where they lie, and what they are), its error. -/
structure It where
  n : Int
  b : Int
  rn : Int
  ra : Int
  tx : ByteArray
  hA : Option Addr
  hm : Nat
  hc : Nat
  hs : List (Int × Int)
  e : Int
def It.cells (x : It) : List Value := [.int .i64 x.n, .int .i64 x.b, .int .i64 x.rn, .int .i64 x.ra, .string x.tx, .slice x.hA x.hm x.hc, .int .i64 x.e]
def It.val (x : It) : Value := .agg #[.int .i64 x.n, .int .i64 x.b, .int .i64 x.rn, .int .i64 x.ra, .string x.tx, .slice x.hA x.hm x.hc, .int .i64 x.e]
/-- An offer: whose, and which item. -/
def ofCells (o : Int × It) : List Value := .int .i64 o.1 :: o.2.cells
def ofVal (o : Int × It) : Value := .agg #[.int .i64 o.1, .int .i64 o.2.n, .int .i64 o.2.b, .int .i64 o.2.rn, .int .i64 o.2.ra, .string o.2.tx, .slice o.2.hA o.2.hm o.2.hc, .int .i64 o.2.e]
theorem It.wide (x : It) : x.cells.length = 7 ∧ ∀ u ∈ x.cells, u.oneCell' = true := by
  refine ⟨rfl, fun u hu => ?_⟩
  simp only [It.cells, List.mem_cons, List.not_mem_nil, or_false] at hu
  rcases hu with rfl | rfl | rfl | rfl | rfl | rfl | rfl <;> rfl
theorem of_wide (o : Int × It) : (ofCells o).length = 8 ∧ ∀ u ∈ ofCells o, u.oneCell' = true := by
  refine ⟨rfl, fun u hu => ?_⟩
  rcases List.mem_cons.1 hu with rfl | hu
  · rfl
  · exact o.2.wide.2 u hu
theorem wide_it (l : List It) : Wide 7 (l.map It.cells) := fun x hx => by
  obtain ⟨y, _, rfl⟩ := List.mem_map.1 hx
  exact y.wide
theorem wide_of (l : List (Int × It)) : Wide 8 (l.map ofCells) := fun x hx => by
  obtain ⟨y, _, rfl⟩ := List.mem_map.1 hx
  exact of_wide y
theorem info_item : (Try.prog.info? 36).map (fun i => (i.zero, i.size, i.bytes)) = some (some (.agg #[.int .i64 0, .int .i64 0, .int .i64 0, .int .i64 0, .string ⟨#[]⟩, .slice none 0 0, .int .i64 0]), 7, 80) := by kernel_rfl
theorem info_offer : (Try.prog.info? 64).map (fun i => (i.zero, i.size, i.bytes)) = some (some (.agg #[.int .i64 0, .int .i64 0, .int .i64 0, .int .i64 0, .int .i64 0, .string ⟨#[]⟩, .slice none 0 0, .int .i64 0]), 8, 88) := by kernel_rfl

/-- The pipe that lies in block g, its memory in the blocks of F. -/
structure PipeC (w : World) (B : Nat) (F : Nat → Prop) (g : Nat) (IV OV : Value) (room : Nat) (ins : List It) (ofs : List (Int × It)) (sent : Int) (closed : Bool) : Prop where
  low : ∀ k, F k → B ≤ k ∧ k < w.heap.size
  fg : F g
  fi : ∀ k, IV.ownBlock = some k → F k
  fo : ∀ k, OV.ownBlock = some k → F k
  blk : w.heap[g]? = some (.cells #[.int .i64 (room : Int), IV, OV, .int .i64 sent, .bool closed] 62 (0, 0))
  ri : RecW w 0 36 7 IV (ins.map It.cells)
  ro : RecW w 0 64 8 OV (ofs.map ofCells)

/-- The same, without a word on where its rows lie. -/
def PipeS (w : World) (B : Nat) (F : Nat → Prop) (g room : Nat) (ins : List It) (ofs : List (Int × It)) (sent : Int) (closed : Bool) : Prop := ∃ IV OV, PipeC w B F g IV OV room ins ofs sent closed

section
variable {w w' : World} {B g room : Nat} {F : Nat → Prop} {IV OV : Value} {ins : List It} {ofs : List (Int × It)} {sent : Int} {closed : Bool}
theorem PipeC.c0 (h : PipeC w B F g IV OV room ins ofs sent closed) : w.cell? ⟨g, 0, none⟩ = some (.int .i64 (room : Int)) := cell_of_row w g 0 _ _ (0, 0) h.blk
theorem PipeC.c1 (h : PipeC w B F g IV OV room ins ofs sent closed) : w.cell? ⟨g, 1, none⟩ = some IV := cell_of_row w g 1 _ _ (0, 0) h.blk
theorem PipeC.c2 (h : PipeC w B F g IV OV room ins ofs sent closed) : w.cell? ⟨g, 2, none⟩ = some OV := cell_of_row w g 2 _ _ (0, 0) h.blk
theorem PipeC.c3 (h : PipeC w B F g IV OV room ins ofs sent closed) : w.cell? ⟨g, 3, none⟩ = some (.int .i64 sent) := cell_of_row w g 3 _ _ (0, 0) h.blk
theorem PipeC.c4 (h : PipeC w B F g IV OV room ins ofs sent closed) : w.cell? ⟨g, 4, none⟩ = some (.bool closed) := cell_of_row w g 4 _ _ (0, 0) h.blk
theorem PipeC.fz (h : PipeC w B F g IV OV room ins ofs sent closed) (j : Nat) : w.frozen? ⟨g, j, none⟩ = false := by have := h.blk; simp [World.frozen?, this]
theorem PipeC.lt (h : PipeC w B F g IV OV room ins ofs sent closed) : g < w.heap.size := (h.low g h.fg).2
theorem PipeC.ne1 (h : PipeC w B F g IV OV room ins ofs sent closed) : IV.ownBlock ≠ some g := row_ne_blk h.ri.1 h.blk (by decide)
theorem PipeC.ne2 (h : PipeC w B F g IV OV room ins ofs sent closed) : OV.ownBlock ≠ some g := row_ne_blk h.ro.1 h.blk (by decide)
theorem PipeC.keep (h : PipeC w B F g IV OV room ins ofs sent closed) (hs' : ∀ k, F k → w'.heap[k]? = w.heap[k]?) (hz : w.heap.size ≤ w'.heap.size) : PipeC w' B F g IV OV room ins ofs sent closed where
  low := fun k hk => ⟨(h.low k hk).1, Nat.lt_of_lt_of_le (h.low k hk).2 hz⟩
  fg := h.fg
  fi := h.fi
  fo := h.fo
  blk := (hs' g h.fg).trans h.blk
  ri := h.ri.keep fun k _ e => hs' k (h.fi k e)
  ro := h.ro.keep fun k _ e => hs' k (h.fo k e)
theorem PipeC.below (h : PipeC w B F g IV OV room ins ofs sent closed) (hb : Below w.heap.size w w') : PipeC w' B F g IV OV room ins ofs sent closed := h.keep (fun k hk => hb.block k (h.low k hk).2) hb.size
theorem PipeC.moved (h : PipeC w B F g IV OV room ins ofs sent closed) {F2 : Nat → Prop} (hm : Moved F2 w w') (hd : ∀ k, F k → ¬ F2 k) : PipeC w' B F g IV OV room ins ofs sent closed :=
  h.keep (fun k hk => hm.block k (h.low k hk).2 (hd k hk)) hm.size
/-- How many were sent is stored. -/
theorem PipeC.setS (h : PipeC w B F g IV OV room ins ofs sent closed) (x : Int) : PipeC (w.setCell ⟨g, 3, none⟩ (.int .i64 x)) B F g IV OV room ins ofs x closed where
  low := fun k hk => by simpa [World.setCell] using h.low k hk
  fg := h.fg
  fi := h.fi
  fo := h.fo
  blk := heap_setCell_same w g 3 _ _ _ h.blk
  ri := h.ri.keep fun k _ e => Below.heap_setCell _ _ _ _ (fun e' => h.ne1 (by rw [e, e']))
  ro := h.ro.keep fun k _ e => Below.heap_setCell _ _ _ _ (fun e' => h.ne2 (by rw [e, e']))
/-- It is closed. -/
theorem PipeC.setC (h : PipeC w B F g IV OV room ins ofs sent closed) : PipeC (w.setCell ⟨g, 4, none⟩ (.bool true)) B F g IV OV room ins ofs sent true where
  low := fun k hk => by simpa [World.setCell] using h.low k hk
  fg := h.fg
  fi := h.fi
  fo := h.fo
  blk := heap_setCell_same w g 4 _ _ _ h.blk
  ri := h.ri.keep fun k _ e => Below.heap_setCell _ _ _ _ (fun e' => h.ne1 (by rw [e, e']))
  ro := h.ro.keep fun k _ e => Below.heap_setCell _ _ _ _ (fun e' => h.ne2 (by rw [e, e']))
/-- The row of its items is stored: it lies where the old one lay, or in a new block. -/
theorem PipeC.setI (h : PipeC w B F g IV OV room ins ofs sent closed) (IV' : Value) (ins' : List It) (hg : w.grownBy w' IV.ownBlock) (ho : RecW w' 0 36 7 IV' (ins'.map It.cells))
    (hat : ∀ k, IV'.ownBlock = some k → IV.ownBlock = some k ∨ w.heap.size ≤ k) :
    PipeC (w'.setCell ⟨g, 1, none⟩ IV') B (fun k => F k ∨ (w.heap.size ≤ k ∧ k < w'.heap.size)) g IV' OV room ins' ofs sent closed := by
  have hgg := (hg.block g h.lt (fun e => h.ne1 e.symm)).trans h.blk
  have hz := hg.size
  refine ⟨fun k hk => ?_, .inl h.fg, fun k hk => ?_, fun k hk => .inl (h.fo k hk), heap_setCell_same w' g 1 _ _ _ hgg, ?_, ?_⟩
  · have : (w'.setCell ⟨g, 1, none⟩ IV').heap.size = w'.heap.size := by simp [World.setCell]
    rw [this]
    rcases hk with hk | hk
    · have := h.low k hk; omega
    · have := (h.low g h.fg); omega
  · rcases hat k hk with h1 | h1
    · exact .inl (h.fi k h1)
    · exact .inr ⟨h1, (row_lt ho.1 hk).2⟩
  · exact ho.keep fun k _ e => Below.heap_setCell _ _ _ _ (fun e' => row_ne_blk ho.1 hgg (by decide) (by rw [e, e']))
  · refine (h.ro.keep fun k hk e => hg.block k hk (fun e' => ?_)).keep fun k _ e => Below.heap_setCell _ _ _ _ (fun e' => h.ne2 (by rw [e, e']))
    exact row_ne_row h.ro.1 h.ri.1 (by decide) e'.symm e
/-- The row of its offers is stored. -/
theorem PipeC.setO (h : PipeC w B F g IV OV room ins ofs sent closed) (OV' : Value) (ofs' : List (Int × It)) (hg : w.grownBy w' OV.ownBlock) (ho : RecW w' 0 64 8 OV' (ofs'.map ofCells))
    (hat : ∀ k, OV'.ownBlock = some k → OV.ownBlock = some k ∨ w.heap.size ≤ k) :
    PipeC (w'.setCell ⟨g, 2, none⟩ OV') B (fun k => F k ∨ (w.heap.size ≤ k ∧ k < w'.heap.size)) g IV OV' room ins ofs' sent closed := by
  have hgg := (hg.block g h.lt (fun e => h.ne2 e.symm)).trans h.blk
  have hz := hg.size
  refine ⟨fun k hk => ?_, .inl h.fg, fun k hk => .inl (h.fi k hk), fun k hk => ?_, heap_setCell_same w' g 2 _ _ _ hgg, ?_, ?_⟩
  · have : (w'.setCell ⟨g, 2, none⟩ OV').heap.size = w'.heap.size := by simp [World.setCell]
    rw [this]
    rcases hk with hk | hk
    · have := h.low k hk; omega
    · have := (h.low g h.fg); omega
  · rcases hat k hk with h1 | h1
    · exact .inl (h.fo k h1)
    · exact .inr ⟨h1, (row_lt ho.1 hk).2⟩
  · refine (h.ri.keep fun k hk e => hg.block k hk (fun e' => ?_)).keep fun k _ e => Below.heap_setCell _ _ _ _ (fun e' => h.ne1 (by rw [e, e']))
    exact row_ne_row h.ri.1 h.ro.1 (by decide) e'.symm e
  · exact ho.keep fun k _ e => Below.heap_setCell _ _ _ _ (fun e' => row_ne_blk ho.1 hgg (by decide) (by rw [e, e']))
end
end Go.Proofs.Ytmmfioemnoijoaa
