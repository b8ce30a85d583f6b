/- The source's memory: its block, the row of its pieces, their octets. -/
import Derived.Test.YtgmaiickfpgeoaaSrcL
import Derived.Test.YtgmaiickfpgeoaaOwn
import Derived.Test.YtgmaiickfpgeoaaClone
namespace Go.Proofs.Ytgmaiickfpgeoaa
open Go Go.RowKit
set_option linter.unusedVariables false

/-- Outside the blocks from B to U nothing that was there has turned. -/
def Touch (B U : Nat) (w w' : World) : Prop := Below B w w' ∧ ∀ k, U ≤ k → k < w.heap.size → w'.heap[k]? = w.heap[k]?
theorem Touch.refl (B U : Nat) (w : World) : Touch B U w w := ⟨Below.refl _ _, fun _ _ _ => rfl⟩
theorem Touch.of_below {B U : Nat} {w w' : World} (h : Below w.heap.size w w') (hB : B ≤ w.heap.size) : Touch B U w w' := ⟨Below.mono h hB, fun k _ hk => h.block k hk⟩
theorem Touch.trans {B U : Nat} {a b c : World} (h : Touch B U a b) (k : Touch B U b c) : Touch B U a c :=
  ⟨h.1.trans k.1, fun i h1 h2 => (k.2 i h1 (Nat.lt_of_lt_of_le h2 h.1.size)).trans (h.2 i h1 h2)⟩
theorem Touch.drewN {B U : Nat} {a b : World} (h : Touch B U a b) (q : Nat) : Touch B U a (b.drewN q) := ⟨below_drewN h.1 q, h.2⟩
theorem Touch.setCell {B U : Nat} {a b : World} (h : Touch B U a b) {p : Addr} (h1 : B ≤ p.block) (h2 : p.block < U) (v : Value) : Touch B U a (b.setCell p v) :=
  ⟨h.1.setCell h1 v, fun k hk hl => (Below.heap_setCell _ _ _ _ (by omega)).trans (h.2 k hk hl)⟩
theorem RowI.touch {k : IntKind} {w w' : World} {A : Option Addr} {n : Nat} {xs : List Int} (h : RowI k w A n xs) {B U : Nat} (hk : Touch B U w w') (hA : ∀ a, A = some a → a.block < B ∨ U ≤ a.block) : RowI k w' A n xs := by
  refine ⟨h.1, fun hn => ?_⟩
  obtain ⟨b, o, hA', hlt, hc⟩ := h.2 hn
  refine ⟨b, o, hA', Nat.lt_of_lt_of_le hlt hk.1.size, fun j hj => ?_⟩
  have hb : w'.heap[b]? = w.heap[b]? := by
    rcases hA _ hA' with h1 | h1
    · exact hk.1.block b h1
    · exact hk.2 b h1 hlt
  rw [World.cell?_of_block (w := w) (a := ⟨b, o + j, none⟩) hb]
  exact hc j hj

/-- The value is a slice that reads as the octets p; these lie in a block from B to U that is neither g nor gl. -/
def PieceAt (w : World) (B U g gl : Nat) (v : Value) (p : List Int) : Prop :=
  ∃ b o d, v = .slice (some ⟨b, o, none⟩) p.length d ∧ p.length ≤ d ∧ d ≤ maxLen ∧ 0 < p.length ∧ p.length ≤ 1000 ∧ RowI .u8 w (some ⟨b, o, none⟩) p.length p ∧ B ≤ b ∧ b < U ∧ b ≠ g ∧ b ≠ gl
theorem PieceAt.same {w w' : World} {B U g gl : Nat} {v : Value} {p : List Int} (h : PieceAt w B U g gl v p) (hs : ∀ k, B ≤ k → k < U → k ≠ g → k ≠ gl → w'.heap[k]? = w.heap[k]?) (hU : U ≤ w'.heap.size) : PieceAt w' B U g gl v p := by
  obtain ⟨b, o, d, hv, h1, h2, h3, h4, h5, h6, h7, h8, h9⟩ := h
  refine ⟨b, o, d, hv, h1, h2, h3, h4, ⟨h5.1, fun hn => ?_⟩, h6, h7, h8, h9⟩
  obtain ⟨b', o', hA, hlt, hc⟩ := h5.2 hn
  injection hA with hA
  injection hA with e1 e2
  subst e1; subst e2
  refine ⟨b, o, rfl, by omega, fun j hj => ?_⟩
  rw [World.cell?_of_block (w := w) (a := ⟨b, o + j, none⟩) (hs b h6 h7 h8 h9)]
  exact hc j hj

/-- The source that lies in block g, its memory from B to U: what is left of its pieces, what it tells behind them, how many octets it has given, how many are left. -/
def Src (w : World) (B U g : Nat) (ps : List (List Int)) (e given left : Int) : Prop :=
  B ≤ g ∧ g < U ∧ U ≤ w.heap.size ∧ ∃ P pc, w.heap[g]? = some (.cells #[.slice P ps.length pc, .int .i64 e, .int .i64 given, .int .i64 left] 48 (0, 0)) ∧ ps.length ≤ pc ∧ pc ≤ maxLen ∧ ps.length ≤ 1000 ∧
    (0 < ps.length → ∃ gl o cur, P = some ⟨gl, o, none⟩ ∧ gl ≠ g ∧ B ≤ gl ∧ gl < U ∧ w.heap[gl]? = some (.cells cur 22 (0, 0)) ∧ ∀ (j : Nat) (p : List Int), ps[j]? = some p → ∃ v, cur[o + j]? = some v ∧ PieceAt w B U g gl v p)
section
variable {w w' : World} {B U g : Nat} {ps : List (List Int)} {e given left : Int}
theorem Src.same (h : Src w B U g ps e given left) (hs : ∀ k, B ≤ k → k < U → w'.heap[k]? = w.heap[k]?) (hU : U ≤ w'.heap.size) : Src w' B U g ps e given left := by
  obtain ⟨h1, h2, h3, P, pc, hg, h4, h5, h6, hr⟩ := h
  refine ⟨h1, h2, hU, P, pc, (hs g h1 h2).trans hg, h4, h5, h6, fun h0 => ?_⟩
  obtain ⟨gl, o, cur, q1, q2, q3, q4, q5, q6⟩ := hr h0
  refine ⟨gl, o, cur, q1, q2, q3, q4, (hs gl q3 q4).trans q5, fun j p hj => ?_⟩
  obtain ⟨v, hv, hp⟩ := q6 j p hj
  exact ⟨v, hv, hp.same (fun k a b _ _ => hs k a b) hU⟩
theorem Src.below (h : Src w B U g ps e given left) {C : Nat} (hb : Below C w w') (hC : U ≤ C) : Src w' B U g ps e given left :=
  h.same (fun k _ hk => hb.block k (by omega)) (Nat.le_trans h.2.2.1 hb.size)
theorem Src.touch (h : Src w B U g ps e given left) {C V : Nat} (hb : Touch C V w w') (hC : V ≤ B) : Src w' B U g ps e given left :=
  h.same (fun k h1 h2 => hb.2 k (by omega) (by have := h.2.2.1; omega)) (Nat.le_trans h.2.2.1 hb.1.size)
theorem Src.drewN (h : Src w B U g ps e given left) (q : Nat) : Src (w.drewN q) B U g ps e given left := h
theorem Src.c0 (h : Src w B U g [] e given left) : ∃ P pc, w.cell? ⟨g, 0, none⟩ = some (.slice P 0 pc) := by
  obtain ⟨h1, h2, h3, P, pc, hg, _⟩ := h
  exact ⟨P, pc, cell_of_row w g 0 _ _ (0, 0) hg⟩
theorem Src.c1 (h : Src w B U g ps e given left) : w.cell? ⟨g, 1, none⟩ = some (.int .i64 e) := by
  obtain ⟨h1, h2, h3, P, pc, hg, _⟩ := h
  exact cell_of_row w g 1 _ _ (0, 0) hg
theorem Src.c2 (h : Src w B U g ps e given left) : w.cell? ⟨g, 2, none⟩ = some (.int .i64 given) := by
  obtain ⟨h1, h2, h3, P, pc, hg, _⟩ := h
  exact cell_of_row w g 2 _ _ (0, 0) hg
theorem Src.c3 (h : Src w B U g ps e given left) : w.cell? ⟨g, 3, none⟩ = some (.int .i64 left) := by
  obtain ⟨h1, h2, h3, P, pc, hg, _⟩ := h
  exact cell_of_row w g 3 _ _ (0, 0) hg
end

/-- A source that has a piece, laid open. -/
structure SrcC (w : World) (B U g gl o pc b ob d : Nat) (cur : Array Value) (p : List Int) (ps : List (List Int)) (e given left : Int) : Prop where
  hB : B ≤ g
  hU : g < U
  hw : U ≤ w.heap.size
  hne : gl ≠ g
  lB : B ≤ gl
  lU : gl < U
  blk : w.heap[g]? = some (.cells #[.slice (some ⟨gl, o, none⟩) (ps.length + 1) pc, .int .i64 e, .int .i64 given, .int .i64 left] 48 (0, 0))
  row : w.heap[gl]? = some (.cells cur 22 (0, 0))
  cell : cur[o]? = some (.slice (some ⟨b, ob, none⟩) p.length d)
  piece : PieceAt w B U g gl (.slice (some ⟨b, ob, none⟩) p.length d) p
  rest : ∀ (j : Nat) (q : List Int), ps[j]? = some q → ∃ v, cur[o + 1 + j]? = some v ∧ PieceAt w B U g gl v q
  cap : ps.length + 1 ≤ pc
  room : pc ≤ maxLen
  few : ps.length + 1 ≤ 1000

theorem Src.cons {w : World} {B U g : Nat} {p : List Int} {ps : List (List Int)} {e given left : Int} (h : Src w B U g (p :: ps) e given left) : ∃ gl o pc b ob d cur, SrcC w B U g gl o pc b ob d cur p ps e given left := by
  obtain ⟨h1, h2, h3, P, pc, hg, h4, h5, h6, hr⟩ := h
  obtain ⟨gl, o, cur, rfl, q2, q3, q4, q5, q6⟩ := hr (by simp)
  obtain ⟨v, hv, hp⟩ := q6 0 p rfl
  obtain ⟨b, ob, d, rfl, _⟩ := id hp
  exact ⟨gl, o, pc, b, ob, d, cur, h1, h2, h3, q2, q3, q4, by simpa using hg, q5, by simpa using hv, hp, fun j q hj => by
    obtain ⟨v, hv, hq⟩ := q6 (j + 1) q (by simpa using hj)
    exact ⟨v, by rw [← hv]; congr 1; omega, hq⟩, by simpa using h4, h5, by simpa using h6⟩

section
variable {w w' : World} {B U g gl o pc b ob d : Nat} {cur : Array Value} {p : List Int} {ps : List (List Int)} {e given left : Int}
theorem SrcC.c0 (h : SrcC w B U g gl o pc b ob d cur p ps e given left) : w.cell? ⟨g, 0, none⟩ = some (.slice (some ⟨gl, o, none⟩) (ps.length + 1) pc) := cell_of_row w g 0 _ _ (0, 0) h.blk
theorem SrcC.c2 (h : SrcC w B U g gl o pc b ob d cur p ps e given left) : w.cell? ⟨g, 2, none⟩ = some (.int .i64 given) := cell_of_row w g 2 _ _ (0, 0) h.blk
theorem SrcC.c3 (h : SrcC w B U g gl o pc b ob d cur p ps e given left) : w.cell? ⟨g, 3, none⟩ = some (.int .i64 left) := cell_of_row w g 3 _ _ (0, 0) h.blk
theorem SrcC.cl (h : SrcC w B U g gl o pc b ob d cur p ps e given left) : w.cell? ⟨gl, o, none⟩ = some (.slice (some ⟨b, ob, none⟩) p.length d) := (cell_of_row w gl o _ _ (0, 0) h.row).trans h.cell
theorem SrcC.fz (h : SrcC w B U g gl o pc b ob d cur p ps e given left) (j : Nat) : w.frozen? ⟨g, j, none⟩ = false := by have := h.blk; simp [World.frozen?, this]
theorem SrcC.fl (h : SrcC w B U g gl o pc b ob d cur p ps e given left) (j : Nat) : w.frozen? ⟨gl, j, none⟩ = false := by have := h.row; simp [World.frozen?, this]
theorem SrcC.len (h : SrcC w B U g gl o pc b ob d cur p ps e given left) : p.length ≤ d ∧ d ≤ maxLen ∧ 0 < p.length ∧ p.length ≤ 1000 ∧ RowI .u8 w (some ⟨b, ob, none⟩) p.length p ∧ B ≤ b ∧ b < U ∧ b ≠ g ∧ b ≠ gl := by
  obtain ⟨b', ob', d', hv, r⟩ := h.piece
  injection hv with e1 e2 e3
  injection e1 with e1
  injection e1 with e1 e4
  subst e1; subst e3; subst e4
  exact r

/-- A part of the first piece was given. -/
theorem SrcC.part (h : SrcC w B U g gl o pc b ob d cur p ps e given left) (n : Nat) (hn : n < p.length) (G L : Int)
    (hw : w'.heap = (((w.setCell ⟨gl, o, none⟩ (.slice (some ⟨b, ob + n, none⟩) (p.length - n) (d - n))).setCell ⟨g, 2, none⟩ (.int .i64 G)).setCell ⟨g, 3, none⟩ (.int .i64 L)).heap) : Src w' B U g (p.drop n :: ps) e G L := by
  obtain ⟨r1, r2, r3, r4, r5, r6, r7, r8, r9⟩ := h.len
  have hoth : ∀ k, k ≠ g → k ≠ gl → w'.heap[k]? = w.heap[k]? := fun k h1 h2 => by
    rw [hw, Below.heap_setCell _ _ _ _ (by simpa using h1), Below.heap_setCell _ _ _ _ (by simpa using h1), Below.heap_setCell _ _ _ _ (by simpa using h2)]
  have hsz : U ≤ w'.heap.size := by
    have := h.hw
    rw [hw]
    simpa [World.setCell] using this
  have hgl : w'.heap[gl]? = some (.cells (cur.setIfInBounds o (.slice (some ⟨b, ob + n, none⟩) (p.length - n) (d - n))) 22 (0, 0)) := by
    rw [hw, Below.heap_setCell _ _ _ _ (by simpa using h.hne), Below.heap_setCell _ _ _ _ (by simpa using h.hne)]
    exact heap_setCell_same w gl o _ _ _ h.row
  have hg : w'.heap[g]? = some (.cells #[.slice (some ⟨gl, o, none⟩) (ps.length + 1) pc, .int .i64 e, .int .i64 G, .int .i64 L] 48 (0, 0)) := by
    rw [hw]
    have h0 : (w.setCell ⟨gl, o, none⟩ (.slice (some ⟨b, ob + n, none⟩) (p.length - n) (d - n))).heap[g]? = _ := (Below.heap_setCell _ _ _ _ (by simpa using h.hne.symm)).trans h.blk
    exact heap_setCell_same _ g 3 _ _ _ (heap_setCell_same _ g 2 _ _ _ h0)
  have ho : o < cur.size := by
    have := h.cell
    rcases Nat.lt_or_ge o cur.size with h1 | h1
    · exact h1
    · rw [Array.getElem?_eq_none h1] at this; cases this
  refine ⟨h.hB, h.hU, hsz, some ⟨gl, o, none⟩, pc, by simpa using hg, by simpa using h.cap, h.room, by simpa using h.few, fun _ => ⟨gl, o, _, rfl, h.hne, h.lB, h.lU, hgl, fun j q hj => ?_⟩⟩
  rcases j with _ | j
  · simp at hj
    subst hj
    have hl : (p.drop n).length = p.length - n := List.length_drop ..
    have hr : RowI .u8 w (some ⟨b, ob + n, none⟩) (p.length - n) (p.drop n) := by
      have := r5.cut (i := n) (j := p.length) (by omega) (Nat.le_refl _)
      rwa [List.take_of_length_le (by rw [hl]; exact Nat.le_refl _)] at this
    refine ⟨.slice (some ⟨b, ob + n, none⟩) (p.length - n) (d - n), by simp [ho], ?_⟩
    exact PieceAt.same (w := w) ⟨b, ob + n, d - n, by rw [hl], by omega, by unfold maxLen at *; omega, by omega, by omega, by rw [hl]; exact hr, r6, r7, r8, r9⟩ (fun k _ _ h1 h2 => hoth k h1 h2) hsz
  · obtain ⟨v, hv, hq⟩ := h.rest j q (by simpa using hj)
    refine ⟨v, ?_, hq.same (fun k _ _ h1 h2 => hoth k h1 h2) hsz⟩
    rw [Array.getElem?_setIfInBounds_ne (by omega), ← hv]
    congr 1; omega

/-- The whole first piece was given. -/
theorem SrcC.last (h : SrcC w B U g gl o pc b ob d cur p ps e given left) (o' : Nat) (ho' : 0 < ps.length → o' = o + 1) (G L : Int)
    (hw : w'.heap = (((w.setCell ⟨g, 0, none⟩ (.slice (some ⟨gl, o', none⟩) ps.length (pc - 1))).setCell ⟨g, 2, none⟩ (.int .i64 G)).setCell ⟨g, 3, none⟩ (.int .i64 L)).heap) : Src w' B U g ps e G L := by
  have hoth : ∀ k, k ≠ g → w'.heap[k]? = w.heap[k]? := fun k h1 => by
    rw [hw, Below.heap_setCell _ _ _ _ (by simpa using h1), Below.heap_setCell _ _ _ _ (by simpa using h1), Below.heap_setCell _ _ _ _ (by simpa using h1)]
  have hsz : U ≤ w'.heap.size := by
    have := h.hw
    rw [hw]
    simpa [World.setCell] using this
  have hg : w'.heap[g]? = some (.cells #[.slice (some ⟨gl, o', none⟩) ps.length (pc - 1), .int .i64 e, .int .i64 G, .int .i64 L] 48 (0, 0)) := by
    rw [hw]
    exact heap_setCell_same _ g 3 _ _ _ (heap_setCell_same _ g 2 _ _ _ (heap_setCell_same _ g 0 _ _ _ h.blk))
  have hcap := h.cap
  have hroom := h.room
  have hfew := h.few
  refine ⟨h.hB, h.hU, hsz, some ⟨gl, o', none⟩, pc - 1, hg, by omega, by omega, by omega, fun h0 => ⟨gl, o', cur, rfl, h.hne, h.lB, h.lU, (hoth gl h.hne).trans h.row, fun j q hj => ?_⟩⟩
  obtain ⟨v, hv, hq⟩ := h.rest j q hj
  exact ⟨v, by rw [ho' h0]; exact hv, hq.same (fun k _ _ h1 _ => hoth k h1) hsz⟩
end

/-- b[l:], of a slice of octets with an address. -/
theorem slice_at (b o n c l : Nat) (hl : l ≤ n) (hc : l < c) (w : World) :
    (Instr.slice 22 (.slice (some ⟨b, o, none⟩) n c) (some (.int .i64 (l : Int))) none none).run Try.prog w = .ok (.slice (some ⟨b, o + l, none⟩) (n - l) (c - l)) w := by
  have hr := run_slice_l (P := Try.prog) (w := w) (t := 22) (a := some ⟨b, o, none⟩) (len := n) (cap := c) (ht := u8_slice) (kl := .i64) (l := (l : Int)) (h0 := by omega) (h1 := by omega)
  rw [hr, u8_elem, u8_size]
  have : c ≠ l := by omega
  simp [Result.andThen, sliced, this, Addr.add]

theorem bb_elem : Try.prog.elem 46 = 22 := by kernel_rfl
theorem bb_size (w : World) : (sizeOf 22).run Try.prog w = .ok 1 w := by kernel_rfl
theorem bb_slice : Try.prog.underlying 46 = some (.slice (Try.prog.elem 46)) := by rw [bb_elem]; exact Try.underlying46
/-- ps[1:]. -/
theorem list_from (b o n c : Nat) (hl : 1 ≤ n) (hc : n ≤ c) :
    ∃ o', (2 ≤ n → o' = o + 1) ∧ ∀ w : World, (Instr.slice 46 (.slice (some ⟨b, o, none⟩) n c) (some (.int .i64 1)) none none).run Try.prog w = .ok (.slice (some ⟨b, o', none⟩) (n - 1) (c - 1)) w := by
  refine ⟨if c = 1 then o else o + 1, fun h => if_neg (by omega), fun w => ?_⟩
  have hr := run_slice_l (P := Try.prog) (w := w) (t := 46) (a := some ⟨b, o, none⟩) (len := n) (cap := c) (ht := bb_slice) (kl := .i64) (l := 1) (h0 := by omega) (h1 := by omega)
  rw [hr, bb_elem, bb_size]
  by_cases h1 : c = 1
  · simp [Result.andThen, sliced, h1]
  · simp [Result.andThen, sliced, h1, Addr.add]
end Go.Proofs.Ytgmaiickfpgeoaa
