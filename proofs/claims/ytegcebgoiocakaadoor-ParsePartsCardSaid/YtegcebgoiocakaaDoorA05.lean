/- Trees as values: rows of nodes, and what they read as. -/
import Derived.Test.YtegcebgoiocakaaDoorA03
import Derived.Test.YtegcebgoiocakaaDoorA04
namespace Go.Proofs.YtegcebgoiocakaaDoor
open Go Go.RowKit
set_option linter.unusedVariables false
set_option maxRecDepth 20000

/-- A node's five values. -/
def nodeV (op : Int) (A : Option Addr) (ns cs : Nat) (mn mx : Int) (D : Option Addr) (nk ck : Nat) : List Value :=
  [.int .i64 op, .slice A ns cs, .int .i64 mn, .int .i64 mx, .slice D nk ck]
/-- A row of ranges all of whose blocks are of F. -/
def RowF (F : Nat → Prop) (w : World) (A : Option Addr) (n : Nat) (s : List (Int × Int)) : Prop := RowG w A n s ∧ ∀ b o, 0 < n → A = some ⟨b, o, none⟩ → F b
/-- The row of nodes at block b from off o on (five cells each) reads as a; all its blocks are of F. -/
def WoodAt (F : Nat → Prop) (w : World) : Wood → Nat → Nat → Prop
  | .nil, _, _ => True
  | .cons op s mn mx k x, b, o =>
    (∃ (A D : Option Addr) (ns cs nk ck : Nat), (∀ j v, (nodeV op A ns cs mn mx D nk ck)[j]? = some v → w.cell? ⟨b, o + j, none⟩ = some v) ∧ RowF F w A ns s ∧ k.len = nk ∧ (0 < nk → ∃ b' o', D = some ⟨b', o', none⟩ ∧ F b' ∧ b' < w.heap.size ∧ WoodAt F w k b' o')) ∧ WoodAt F w x b (o + 5)
/-- Kids at D. -/
def KidsAt (F : Nat → Prop) (w : World) (D : Option Addr) (nk : Nat) (k : Wood) : Prop :=
  k.len = nk ∧ (0 < nk → ∃ b o, D = some ⟨b, o, none⟩ ∧ F b ∧ b < w.heap.size ∧ WoodAt F w k b o)
/-- One node, as a value. -/
def NodeIn (F : Nat → Prop) (w : World) (v : Value) (T : Wood) : Prop :=
  ∃ (op : Int) (s : List (Int × Int)) (mn mx : Int) (k : Wood) (A D : Option Addr) (ns cs nk ck : Nat), T = .cons op s mn mx k .nil ∧ v = .agg #[.int .i64 op, .slice A ns cs, .int .i64 mn, .int .i64 mx, .slice D nk ck] ∧ RowF F w A ns s ∧ KidsAt F w D nk k

section
variable {F F' : Nat → Prop} {w w' : World}
theorem RowF.keep {A : Option Addr} {n : Nat} {s : List (Int × Int)} (h : RowF F w A n s) (hs : w.heap.size ≤ w'.heap.size) (hk : ∀ b, F b → b < w.heap.size → w'.heap[b]? = w.heap[b]?) : RowF F w' A n s := by
  refine ⟨⟨h.1.1, fun hn => ?_⟩, h.2⟩
  obtain ⟨b, o, hA, hb, hc⟩ := h.1.2 hn
  have hh := hk b (h.2 b o hn hA) hb
  have hcell : ∀ j, w'.cell? ⟨b, j, none⟩ = w.cell? ⟨b, j, none⟩ := fun j => by simp only [World.cell?, hh]
  refine ⟨b, o, hA, by omega, fun j hj => ?_⟩
  rw [hcell, hcell]
  exact hc j hj
theorem RowF.mono {A : Option Addr} {n : Nat} {s : List (Int × Int)} (h : RowF F w A n s) (hf : ∀ b, F b → F' b) : RowF F' w A n s := ⟨h.1, fun b o hn hA => hf b (h.2 b o hn hA)⟩
theorem WoodAt.keep (hs : w.heap.size ≤ w'.heap.size) (hk : ∀ b, F b → b < w.heap.size → w'.heap[b]? = w.heap[b]?) : ∀ {T : Wood} {b o : Nat}, WoodAt F w T b o → (T.len = 0 ∨ (F b ∧ b < w.heap.size)) → WoodAt F w' T b o
  | .nil, _, _, _, _ => trivial
  | .cons op s mn mx k x, b, o, ⟨⟨A, D, ns, cs, nk, ck, h1, h2, h3, h4⟩, h5⟩, hb => by
    have hb : F b ∧ b < w.heap.size := by
      rcases hb with hb | hb
      · simp [Wood.len] at hb
      · exact hb
    have hh := hk b hb.1 hb.2
    have hcell : ∀ j, w'.cell? ⟨b, j, none⟩ = w.cell? ⟨b, j, none⟩ := fun j => by simp only [World.cell?, hh]
    refine ⟨⟨A, D, ns, cs, nk, ck, fun j v hv => by rw [hcell]; exact h1 j v hv, h2.keep hs hk, h3, fun hn => ?_⟩, WoodAt.keep hs hk h5 (.inr hb)⟩
    obtain ⟨b', o', hD, hF, hlt, hw⟩ := h4 hn
    exact ⟨b', o', hD, hF, by omega, WoodAt.keep hs hk hw (.inr ⟨hF, hlt⟩)⟩
theorem WoodAt.mono (hf : ∀ b, F b → F' b) : ∀ {T : Wood} {b o : Nat}, WoodAt F w T b o → WoodAt F' w T b o
  | .nil, _, _, _ => trivial
  | .cons op s mn mx k x, b, o, ⟨⟨A, D, ns, cs, nk, ck, h1, h2, h3, h4⟩, h5⟩ => by
    refine ⟨⟨A, D, ns, cs, nk, ck, h1, h2.mono hf, h3, fun hn => ?_⟩, WoodAt.mono hf h5⟩
    obtain ⟨b', o', hD, hF, hlt, hw⟩ := h4 hn
    exact ⟨b', o', hD, hf _ hF, hlt, WoodAt.mono hf hw⟩
theorem KidsAt.keep {D : Option Addr} {nk : Nat} {k : Wood} (h : KidsAt F w D nk k) (hs : w.heap.size ≤ w'.heap.size) (hk : ∀ b, F b → b < w.heap.size → w'.heap[b]? = w.heap[b]?) : KidsAt F w' D nk k := by
  refine ⟨h.1, fun hn => ?_⟩
  obtain ⟨b, o, hD, hF, hlt, hw⟩ := h.2 hn
  exact ⟨b, o, hD, hF, by omega, hw.keep hs hk (.inr ⟨hF, hlt⟩)⟩
theorem KidsAt.mono {D : Option Addr} {nk : Nat} {k : Wood} (h : KidsAt F w D nk k) (hf : ∀ b, F b → F' b) : KidsAt F' w D nk k := by
  refine ⟨h.1, fun hn => ?_⟩
  obtain ⟨b, o, hD, hF, hlt, hw⟩ := h.2 hn
  exact ⟨b, o, hD, hf _ hF, hlt, hw.mono hf⟩
theorem NodeIn.keep {v : Value} {T : Wood} (h : NodeIn F w v T) (hs : w.heap.size ≤ w'.heap.size) (hk : ∀ b, F b → b < w.heap.size → w'.heap[b]? = w.heap[b]?) : NodeIn F w' v T := by
  obtain ⟨op, s, mn, mx, k, A, D, ns, cs, nk, ck, h1, h2, h3, h4⟩ := h
  exact ⟨op, s, mn, mx, k, A, D, ns, cs, nk, ck, h1, h2, h3.keep hs hk, h4.keep hs hk⟩
theorem NodeIn.below {v : Value} {T : Wood} (h : NodeIn F w v T) (hb : Below w.heap.size w w') : NodeIn F w' v T := h.keep hb.size fun b _ hlt => hb.block b hlt
theorem NodeIn.mono {v : Value} {T : Wood} (h : NodeIn F w v T) (hf : ∀ b, F b → F' b) : NodeIn F' w v T := by
  obtain ⟨op, s, mn, mx, k, A, D, ns, cs, nk, ck, h1, h2, h3, h4⟩ := h
  exact ⟨op, s, mn, mx, k, A, D, ns, cs, nk, ck, h1, h2, h3.mono hf, h4.mono hf⟩
/-- A node of a row, as a value: its five cells. -/
theorem WoodAt.nth : ∀ {T : Wood} {b o j : Nat}, WoodAt F w T b o → j < T.len → ∃ (op : Int) (s : List (Int × Int)) (mn mx : Int) (k : Wood) (A D : Option Addr) (ns cs nk ck : Nat), T.nth j = .cons op s mn mx k .nil ∧ (∀ i v, (nodeV op A ns cs mn mx D nk ck)[i]? = some v → w.cell? ⟨b, o + j * 5 + i, none⟩ = some v) ∧ RowF F w A ns s ∧ KidsAt F w D nk k
  | .nil, _, _, _, _, h => by simp [Wood.len] at h
  | .cons op s mn mx k x, b, o, 0, ⟨⟨A, D, ns, cs, nk, ck, h1, h2, h3, h4⟩, h5⟩, _ => ⟨op, s, mn, mx, k, A, D, ns, cs, nk, ck, rfl, fun i v hv => by rw [Nat.zero_mul, Nat.add_zero]; exact h1 i v hv, h2, h3, h4⟩
  | .cons op s mn mx k x, b, o, j + 1, ⟨_, h5⟩, h => by
    obtain ⟨op', s', mn', mx', k', A, D, ns, cs, nk, ck, e, h1, h2, h3⟩ := WoodAt.nth (j := j) h5 (by simp only [Wood.len] at h; omega)
    refine ⟨op', s', mn', mx', k', A, D, ns, cs, nk, ck, e, fun i v hv => ?_, h2, h3⟩
    rw [show o + (j + 1) * 5 + i = o + 5 + j * 5 + i by omega]
    exact h1 i v hv
/-- The five cells, one by one. -/
theorem node_cells {b o : Nat} {op mn mx : Int} {A D : Option Addr} {ns cs nk ck : Nat} (h : ∀ i v, (nodeV op A ns cs mn mx D nk ck)[i]? = some v → w.cell? ⟨b, o + i, none⟩ = some v) :
    w.cell? ⟨b, o, none⟩ = some (.int .i64 op) ∧ w.cell? ⟨b, o + 1, none⟩ = some (.slice A ns cs) ∧ w.cell? ⟨b, o + 2, none⟩ = some (.int .i64 mn) ∧ w.cell? ⟨b, o + 3, none⟩ = some (.int .i64 mx) ∧ w.cell? ⟨b, o + 4, none⟩ = some (.slice D nk ck) :=
  ⟨h 0 _ rfl, h 1 _ rfl, h 2 _ rfl, h 3 _ rfl, h 4 _ rfl⟩
end

/-- A node that a call has boxed: its cells stay. -/
theorem box_cell {W wr : World} {cs : Array Value} {t : TypeId} (hb : Below (W.alloc (.cells cs t)).heap.size (W.alloc (.cells cs t)) wr) (j : Nat) : wr.cell? ⟨W.heap.size, j, none⟩ = cs[j]? := by
  rw [hb.cell (p := ⟨W.heap.size, j, none⟩) (by simp), cell_of_row _ W.heap.size j _ _ (0, 0) (heap_alloc_new W _)]
theorem KidsAt.below {F : Nat → Prop} {w w' : World} {D : Option Addr} {nk : Nat} {k : Wood} (h : KidsAt F w D nk k) (hb : Below w.heap.size w w') : KidsAt F w' D nk k := h.keep hb.size fun b _ hlt => hb.block b hlt
/-- What is boxed, with names for the world and the block. -/
theorem box_world (W : World) (cs : Array Value) (t : TypeId) : ∃ (W1 : World) (g : Nat), W1 = W.alloc (.cells cs t) ∧ g = W.heap.size ∧ Below W.heap.size W W1 ∧ W.heap.size ≤ W1.heap.size ∧ ∀ wr, Below W1.heap.size W1 wr → (∀ j, wr.cell? ⟨g, j, none⟩ = cs[j]?) ∧ Below W.heap.size W wr :=
  ⟨_, _, rfl, rfl, (Below.refl _ _).alloc (Nat.le_refl _) _, by simp, fun wr hb => ⟨fun j => box_cell hb j, ((Below.refl _ _).alloc (Nat.le_refl _) _).trans (hb.mono (by simp))⟩⟩
theorem len_size : ∀ a : Wood, a.len ≤ a.size
  | .nil => Nat.le_refl _
  | .cons _ _ _ _ _ x => by have := len_size x; simp only [Wood.len, Wood.size]; omega
/-- A kid, as a value, with its cells. -/
theorem KidsAt.kid {F : Nat → Prop} {w : World} {D : Option Addr} {nk : Nat} {k : Wood} (h : KidsAt F w D nk k) {j : Nat} (hj : j < nk) : ∃ (b o : Nat) (op : Int) (s : List (Int × Int)) (mn mx : Int) (k' : Wood) (A' D' : Option Addr) (ns cs nk' ck' : Nat), D = some ⟨b, o, none⟩ ∧ b < w.heap.size ∧ k.nth j = .cons op s mn mx k' .nil ∧
    w.cell? ⟨b, o + j * 5, none⟩ = some (.int .i64 op) ∧ w.cell? ⟨b, o + j * 5 + 1, none⟩ = some (.slice A' ns cs) ∧ w.cell? ⟨b, o + j * 5 + 2, none⟩ = some (.int .i64 mn) ∧ w.cell? ⟨b, o + j * 5 + 3, none⟩ = some (.int .i64 mx) ∧ w.cell? ⟨b, o + j * 5 + 4, none⟩ = some (.slice D' nk' ck') ∧
    NodeIn F w (.agg #[.int .i64 op, .slice A' ns cs, .int .i64 mn, .int .i64 mx, .slice D' nk' ck']) (k.nth j) := by
  obtain ⟨b, o, hD, _, hlt, hw⟩ := h.2 (by omega)
  obtain ⟨op, s, mn, mx, k', A', D', ns, cs, nk', ck', e, hc, hr, hk⟩ := hw.nth (j := j) (by rw [h.1]; exact hj)
  obtain ⟨c0, c1, c2, c3, c4⟩ := node_cells hc
  exact ⟨b, o, op, s, mn, mx, k', A', D', ns, cs, nk', ck', hD, hlt, e, c0, c1, c2, c3, c4, op, s, mn, mx, k', A', D', ns, cs, nk', ck', e, rfl, hr, hk⟩

/-! ### Sizes -/
/-- Nodes and ranges together. -/
def heavy : Wood → Nat
  | .nil => 0
  | .cons _ s _ _ k x => 1 + s.length + heavy k + heavy x
theorem heavy_nth : ∀ (a : Wood) (j : Nat), j < a.len → heavy (a.nth j) ≤ heavy a
  | .nil, _, h => by simp [Wood.len] at h
  | .cons .., 0, _ => by simp only [Wood.nth, heavy]; omega
  | .cons _ _ _ _ _ x, j + 1, h => by
    have := heavy_nth x j (by simp only [Wood.len] at h; omega)
    simp only [Wood.nth, heavy]; omega
theorem len_heavy : ∀ a : Wood, a.len ≤ heavy a
  | .nil => Nat.le_refl _
  | .cons _ _ _ _ _ x => by have := len_heavy x; simp only [Wood.len, heavy]; omega
theorem size_heavy : ∀ a : Wood, a.size ≤ heavy a
  | .nil => Nat.le_refl _
  | .cons _ _ _ _ k x => by have := size_heavy x; have := size_heavy k; simp only [Wood.size, heavy]; omega
end Go.Proofs.YtegcebgoiocakaaDoor
/- The reader of code points: its memory; peek, next, take. -/
namespace Go.Proofs.YtegcebgoiocakaaDoor
open Go Go.RowKit
set_option linter.unusedVariables false
set_option maxRecDepth 20000

/-- Nothing that was there has turned but block g. -/
def Off (g : Nat) (w w' : World) : Prop := Below g w w' ∧ ∀ k, k < w.heap.size → k ≠ g → w'.heap[k]? = w.heap[k]?
theorem Off.refl (g : Nat) (w : World) : Off g w w := ⟨Below.refl _ _, fun _ _ _ => rfl⟩
theorem Off.trans {g : Nat} {a b c : World} (h : Off g a b) (k : Off g b c) : Off g a c :=
  ⟨h.1.trans k.1, fun i h1 h2 => (k.2 i (Nat.lt_of_lt_of_le h1 h.1.size) h2).trans (h.2 i h1 h2)⟩
theorem Off.drewN {g : Nat} {a b : World} (h : Off g a b) (q : Nat) : Off g a (b.drewN q) := ⟨below_drewN h.1 q, h.2⟩
theorem Off.of_below {g : Nat} {a b : World} (h : Below a.heap.size a b) (hg : g < a.heap.size) : Off g a b := ⟨Below.mono h (Nat.le_of_lt hg), fun k hk _ => h.block k hk⟩
theorem Off.setCell {g : Nat} {a b : World} (h : Off g a b) (j : Nat) (v : Value) : Off g a (b.setCell ⟨g, j, none⟩ v) :=
  ⟨h.1.setCell (Nat.le_refl _) v, fun k hk hne => (Below.heap_setCell _ _ _ _ hne).trans (h.2 k hk hne)⟩
theorem Off.alloc {g : Nat} {a b : World} (h : Off g a b) (hg : g < a.heap.size) (o : Obj) : Off g a (b.alloc o) := h.trans (Off.of_below ((Below.refl _ _).alloc (Nat.le_refl _) o) (Nat.lt_of_lt_of_le hg h.1.size))

/-- The reader that lies in block g: the code points that are left. -/
structure RdAt (w : World) (g : Nat) (A : Option Addr) (n c : Nat) (l : List Int) : Prop where
  blk : w.heap[g]? = some (.cells #[.slice A n c] 38 (0, 0))
  row : RowI .i64 w A n l
  cap : n ≤ c ∧ c ≤ maxLen
  few : n ≤ 1000
  low : ∀ a, A = some a → a.block < g
  nil : A = none → n = 0 ∧ c = 0
  pts : ∀ x ∈ l, 0 ≤ x ∧ x ≤ 1114111
def Rd (w : World) (g : Nat) (l : List Int) : Prop := ∃ A n c, RdAt w g A n c l
section
variable {w w' : World} {g n c : Nat} {A : Option Addr} {l : List Int}
theorem RdAt.lt (h : RdAt w g A n c l) : g < w.heap.size := (Array.getElem?_eq_some_iff.1 h.blk).1
theorem RdAt.c0 (h : RdAt w g A n c l) : w.cell? ⟨g, 0, none⟩ = some (.slice A n c) := cell_of_row w g 0 _ _ (0, 0) h.blk
theorem RdAt.fz (h : RdAt w g A n c l) : w.frozen? ⟨g, 0, none⟩ = false := by have := h.blk; simp [World.frozen?, this]
theorem RdAt.drewN (h : RdAt w g A n c l) (q : Nat) : RdAt (w.drewN q) g A n c l := ⟨h.blk, h.row, h.cap, h.few, h.low, h.nil, h.pts⟩
theorem RdAt.below (h : RdAt w g A n c l) (hb : Below w.heap.size w w') : RdAt w' g A n c l := ⟨(hb.block g h.lt).trans h.blk, h.row.below hb (Nat.le_refl _), h.cap, h.few, h.low, h.nil, h.pts⟩
/-- Nothing up to the reader has turned. -/
theorem RdAt.keep (h : RdAt w g A n c l) {B : Nat} (hb : Below B w w') (hB : g < B) : RdAt w' g A n c l :=
  ⟨(hb.block g hB).trans h.blk, rowI_keep h.row fun b o e _ => hb.block b (by have := h.low _ e; simp only at this; omega), h.cap, h.few, h.low, h.nil, h.pts⟩
theorem Rd.keep (h : Rd w g l) {B : Nat} (hb : Below B w w') (hB : g < B) : Rd w' g l := by obtain ⟨A, n, c, h⟩ := h; exact ⟨A, n, c, h.keep hb hB⟩
theorem Rd.lt (h : Rd w g l) : g < w.heap.size := by obtain ⟨A, n, c, h⟩ := h; exact h.lt
theorem Rd.below (h : Rd w g l) (hb : Below w.heap.size w w') : Rd w' g l := by obtain ⟨A, n, c, h⟩ := h; exact ⟨A, n, c, h.below hb⟩
theorem Rd.drewN (h : Rd w g l) (q : Nat) : Rd (w.drewN q) g l := by obtain ⟨A, n, c, h⟩ := h; exact ⟨A, n, c, h.drewN q⟩
theorem Rd.pts (h : Rd w g l) : ∀ x ∈ l, 0 ≤ x ∧ x ≤ 1114111 := by obtain ⟨A, n, c, h⟩ := h; exact h.pts
theorem Rd.few (h : Rd w g l) : l.length ≤ 1000 := by obtain ⟨A, n, c, h⟩ := h; rw [h.row.1]; exact h.few
theorem RdAt.nilL (h : RdAt w g A n c []) : n = 0 := by have := h.row.1; simpa using this.symm
theorem RdAt.cons {x : Int} (h : RdAt w g A n c (x :: l)) : ∃ b o, A = some ⟨b, o, none⟩ ∧ 0 < n ∧ n = l.length + 1 ∧ b ≠ g ∧ w.cell? ⟨b, o, none⟩ = some (.int .i64 x) ∧ 0 ≤ x ∧ x ≤ 1114111 := by
  have hl := h.row.1
  rw [List.length_cons] at hl
  obtain ⟨b, o, hA, _, hc⟩ := h.row.2 (by omega)
  have := hc 0 (by omega)
  have hp := h.pts x (List.mem_cons_self ..)
  exact ⟨b, o, hA, by omega, by omega, Nat.ne_of_lt (h.low _ hA), by simpa using this, hp.1, hp.2⟩
/-- The first k code points have been read. -/
theorem RdAt.cut (h : RdAt w g A n c l) {k : Nat} (hk : k ≤ n) {A' : Option Addr} {n' c' : Nat} (hA : (k < c ∧ A' = Option.map (fun x => x.add k) A) ∨ (k = c ∧ A' = A)) (hn : n' = n - k) (hc : c' = c - k) : RdAt (w.setCell ⟨g, 0, none⟩ (.slice A' n' c')) g A' n' c' (l.drop k) := by
  subst hn; subst hc
  have hrow : RowI .i64 w A' (n - k) (l.drop k) := by
    rcases hA with ⟨_, rfl⟩ | ⟨rfl, rfl⟩
    · exact rowI_from h.row hk
    · have hn : n = k := by have := h.cap.1; omega
      have : l.drop k = [] := List.drop_of_length_le (by rw [h.row.1]; omega)
      rw [this, hn, Nat.sub_self]
      exact RowI.nil_
  have hne : ∀ a, A' = some a → a.block < g := by
    rcases hA with ⟨_, rfl⟩ | ⟨_, rfl⟩
    · intro a e
      rcases A with _ | a'
      · cases e
      · simp only [Option.map_some, Option.some.injEq] at e
        subst e
        have := h.low a' rfl
        unfold Addr.add
        split <;> exact this
    · exact h.low
  refine ⟨heap_setCell_same w g 0 _ _ _ h.blk, ?_, ⟨by have := h.cap; omega, by have := h.cap; omega⟩, by have := h.few; omega, hne, ?_, fun x hx => h.pts x (List.mem_of_mem_drop hx)⟩
  · exact rowI_keep hrow fun b o e _ => Below.heap_setCell _ _ _ _ (Nat.ne_of_lt (hne _ e))
  · intro e
    rcases hA with ⟨_, rfl⟩ | ⟨_, rfl⟩
    · rcases A with _ | a
      · have := h.nil rfl; omega
      · cases e
    · have := h.nil e; omega
end

theorem peek_any {w : World} {g : Nat} {l : List Int} (h : Rd w g l) :
    Calls Tryd.prog 24 #[.pointer (some ⟨g, 0, none⟩)] w fun e w' => e = .returned (.int .i64 (l.headD (-1))) ∧ w = w' := by
  obtain ⟨A, n, c, h⟩ := h
  have c0 := h.c0
  rcases l with _ | ⟨x, l⟩
  · have hn := h.nilL
    subst hn
    clear h
    go_enter Tryd.func24, Tryd.ntmps24
    go_wp2
    go_ret
    exact ⟨rfl, rfl⟩
  · obtain ⟨b, o, rfl, h0, _, _, c1, _, _⟩ := h.cons
    have h1 : ((n : Int) == 0) = false := by simp; omega
    clear h
    go_enter Tryd.func24, Tryd.ntmps24
    go_wp2
    go_ret
    exact ⟨rfl, rfl⟩

theorem next_nil {w : World} {g : Nat} (h : Rd w g []) :
    Calls Tryd.prog 26 #[.pointer (some ⟨g, 0, none⟩)] w fun e w' => e = .returned (.int .i64 (-1)) ∧ w = w' := by
  have HP := Lib.hid (peek_any h)
  clear h
  go_enter Tryd.func26, Tryd.ntmps26
  go_wp2_with (go_at_call 24; (with_reducible refine HP.out.mono ?_); rintro e w1 ⟨rfl, rfl⟩; rw [show ([] : List Int).headD (-1) = -1 from rfl])
  go_ret
  exact ⟨rfl, rfl⟩
theorem next_cons {w : World} {g : Nat} {x : Int} {l : List Int} (h : Rd w g (x :: l)) :
    Calls Tryd.prog 26 #[.pointer (some ⟨g, 0, none⟩)] w fun e w' => e = .returned (.int .i64 x) ∧ Rd w' g l ∧ Off g w w' := by
  have HP := Lib.hid (peek_any h)
  obtain ⟨A, n, c, h⟩ := h
  have c0 := h.c0
  have f0 := h.fz
  obtain ⟨b, o, rfl, h0, hnl, _, _, hx0, _⟩ := h.cons
  have hx : (x != -1) = true := by simp; omega
  obtain ⟨hc1, hc2⟩ := h.cap
  rcases Nat.eq_or_lt_of_le (show 1 ≤ c by omega) with hc | hc
  · subst hc
    have hn : n = 1 := by omega
    subst hn
    have HC := Lib.hid (h.cut (k := 1) (Nat.le_refl _) (.inr ⟨rfl, rfl⟩) rfl rfl)
    clear h hc1 hc2 hnl h0
    go_enter Tryd.func26, Tryd.ntmps26
    go_wp2_with (go_at_call 24; (with_reducible refine HP.out.mono ?_); rintro e w1 ⟨rfl, rfl⟩; rw [show (x :: l).headD (-1) = x from rfl])
    go_ret
    exact ⟨rfl, ⟨_, _, _, HC.out⟩, (Off.refl _ _).setCell _ _⟩
  · have HC := Lib.hid (h.cut (k := 1) (A' := some ⟨b, o + 1, none⟩) (n' := l.length) (c' := c - 1) (show 1 ≤ n by omega) (.inl ⟨hc, by simp [Addr.add]⟩) (by omega) rfl)
    subst hnl
    have h2 : ((l.length : Int) + 1) ≤ (c : Int) := by omega
    clear h hc2
    go_enter Tryd.func26, Tryd.ntmps26
    go_wp2_with (go_at_call 24; (with_reducible refine HP.out.mono ?_); rintro e w1 ⟨rfl, rfl⟩; rw [show (x :: l).headD (-1) = x from rfl])
    go_ret
    exact ⟨rfl, ⟨_, _, _, HC.out⟩, (Off.refl _ _).setCell _ _⟩
/-- The next code point is read, if there is one. -/
theorem next_any {w : World} {g : Nat} {l : List Int} (h : Rd w g l) :
    Calls Tryd.prog 26 #[.pointer (some ⟨g, 0, none⟩)] w fun e w' => e = .returned (.int .i64 (l.headD (-1))) ∧ Rd w' g l.tail ∧ Off g w w' := by
  rcases l with _ | ⟨x, l⟩
  · exact (next_nil h).mono fun e w' ⟨he, hw⟩ => ⟨he, hw ▸ h, hw ▸ Off.refl _ _⟩
  · exact next_cons h

theorem take_no {w : World} {g : Nat} {l : List Int} {x : Int} (h : Rd w g l) (hx : l.headD (-1) ≠ x) :
    Calls Tryd.prog 16 #[.pointer (some ⟨g, 0, none⟩), .int .i64 x] w fun e w' => e = .returned (.bool false) ∧ w = w' := by
  have HP := Lib.hid (peek_any h)
  have hx : (l.headD (-1) != x) = true := by simpa using hx
  generalize l.headD (-1) = y at HP hx
  clear h
  go_enter Tryd.func16, Tryd.ntmps16
  go_wp2_with (go_at_call 24; (with_reducible refine HP.out.mono ?_); rintro e w1 ⟨rfl, rfl⟩)
  go_ret
  exact ⟨rfl, rfl⟩
theorem take_yes {w : World} {g : Nat} {l : List Int} {x : Int} (h : Rd w g (x :: l)) :
    Calls Tryd.prog 16 #[.pointer (some ⟨g, 0, none⟩), .int .i64 x] w fun e w' => e = .returned (.bool true) ∧ Rd w' g l ∧ Off g w w' := by
  have HP := Lib.hid (peek_any h)
  have HN := Lib.hid (next_cons h)
  have hx : (x != x) = false := by simp
  clear h
  go_enter Tryd.func16, Tryd.ntmps16
  go_wp2_with (first
    | (go_at_call 24; (with_reducible refine HP.out.mono ?_); rintro e w1 ⟨rfl, rfl⟩; rw [show (x :: l).headD (-1) = x from rfl])
    | (go_at_call 26; (with_reducible refine HN.out.mono ?_); rintro e w2 ⟨rfl, hr, ho⟩; have HO := Lib.hid (And.intro hr ho); clear hr ho))
  go_ret
  exact ⟨rfl, HO.out.1, HO.out.2⟩
end Go.Proofs.YtegcebgoiocakaaDoor
/- Patterns in plain words, over code points: sets, tokens, trees. -/
namespace Go.Proofs.YtegcebgoiocakaaDoor
open Go Go.RowKit
set_option linter.unusedVariables false

/-! ### The set of the numbers that a test says -/
def setGo (f : Int → Bool) : Nat → List (Int × Int)
  | 0 => []
  | k + 1 =>
    if f (1114112 - ((k + 1 : Nat) : Int)) = true then
      match setGo f k with
      | [] => [(1114112 - ((k + 1 : Nat) : Int), 1114112 - ((k + 1 : Nat) : Int))]
      | p :: s => if p.1 = 1114112 - ((k + 1 : Nat) : Int) + 1 then (1114112 - ((k + 1 : Nat) : Int), p.2) :: s else (1114112 - ((k + 1 : Nat) : Int), 1114112 - ((k + 1 : Nat) : Int)) :: p :: s
    else setGo f k
theorem setGo_is (f : Int → Bool) : ∀ k : Nat, k ≤ 1114112 → CanonF (1114112 - (k : Int)) (setGo f k) ∧ ∀ r, hasL (setGo f k) r = (decide (1114112 - (k : Int) ≤ r ∧ r ≤ 1114111) && f r)
  | 0, _ => ⟨trivial, fun r => by rw [setGo, hasL_nil, decide_eq_false (by omega), Bool.false_and]⟩
  | k + 1, hk => by
    obtain ⟨h1, h2⟩ := setGo_is f k (by omega)
    rw [setGo]
    obtain ⟨L, hL⟩ : ∃ L : Int, L = 1114112 - ((k + 1 : Nat) : Int) := ⟨_, rfl⟩
    have e : (1114112 : Int) - (k : Int) = L + 1 := by omega
    rw [← hL]
    rw [e] at h1 h2
    have hL0 : 0 ≤ L ∧ L ≤ 1114111 := by omega
    obtain ⟨t, ht⟩ : ∃ t, t = setGo f k := ⟨_, rfl⟩
    rw [← ht] at h1 h2 ⊢
    clear ht
    by_cases hf : f L = true
    · rw [if_pos hf]
      have done : ∀ u, CanonF L u → (∀ r, hasL u r = (decide (r = L) || hasL t r)) → CanonF L u ∧ ∀ r, hasL u r = (decide (L ≤ r ∧ r ≤ 1114111) && f r) := by
        intro u hu hm
        refine ⟨hu, fun r => ?_⟩
        rw [hm r, h2 r]
        by_cases hr : r = L
        · subst hr
          rw [hf, decide_eq_true rfl, Bool.true_or, decide_eq_true (by omega), Bool.true_and]
        · rw [decide_eq_false hr, Bool.false_or]
          congr 1
          apply decide_eq_decide.2
          omega
      rcases t with _ | ⟨p, s⟩
      · refine done [(L, L)] ⟨Int.le_refl _, Int.le_refl _, hL0.2, trivial⟩ fun r => ?_
        rw [hasL_cons, hasL_nil, Bool.or_false, Bool.or_false]
        apply decide_eq_decide.2
        dsimp only
        omega
      · obtain ⟨q1, q2, q3, q4⟩ := h1
        by_cases hp : p.1 = L + 1
        · show CanonF L (if p.1 = L + 1 then _ else _) ∧ _
          dsimp only
          rw [if_pos hp]
          refine done ((L, p.2) :: s) ⟨Int.le_refl _, by dsimp only; omega, q3, q4⟩ fun r => ?_
          rw [hasL_cons, hasL_cons, ← Bool.or_assoc, ← Bool.decide_or]
          congr 1
          apply decide_eq_decide.2
          dsimp only
          omega
        · dsimp only
          rw [if_neg hp]
          refine done ((L, L) :: p :: s) ⟨Int.le_refl _, Int.le_refl _, hL0.2, by dsimp only; omega, q2, q3, q4⟩ fun r => ?_
          rw [hasL_cons]
          congr 1
          apply decide_eq_decide.2
          dsimp only
          omega
    · rw [if_neg hf]
      refine ⟨h1.mono (by omega), fun r => ?_⟩
      rw [h2 r]
      by_cases hr : r = L
      · subst hr
        rw [Bool.eq_false_iff.2 hf, Bool.and_false, Bool.and_false]
      · congr 1
        apply decide_eq_decide.2
        omega
/-- The set of the numbers from 0 to 10ffff for which f is true. -/
def setOf (f : Int → Bool) : List (Int × Int) := setGo f 1114112
theorem setOf_canon (f : Int → Bool) : Canon (setOf f) := (setGo_is f 1114112 (Nat.le_refl _)).1
theorem setOf_has (f : Int → Bool) (r : Int) : hasL (setOf f) r = (decide (0 ≤ r ∧ r ≤ 1114111) && f r) := (setGo_is f 1114112 (Nat.le_refl _)).2 r
attribute [irreducible] setOf
theorem setOf_one {f : Int → Bool} {s : List (Int × Int)} (hc : Canon s) (h : ∀ r, hasL s r = (decide (0 ≤ r ∧ r ≤ 1114111) && f r)) : s = setOf f :=
  canon_one hc (setOf_canon f) fun r => (h r).trans (setOf_has f r).symm

/-! ### Tokens -/
/-- A token: kind 0: one point of a set; 1: a bar, a parenthesis, a beginning, an end (r); 2: a count. -/
structure TokL where
  kind : Int
  r : Int
  set : List (Int × Int)
  mn : Int
  mx : Int
def tokC (s : List (Int × Int)) : TokL := ⟨0, 0, s, 0, 0⟩
def tokS (r : Int) : TokL := ⟨1, r, [], 0, 0⟩
def tokN (a b : Int) : TokL := ⟨2, 0, [], a, b⟩

def namedS (r : Int) : List (Int × Int) := if r = 100 then [(48, 57)] else if r = 119 then [(48, 57), (65, 90), (95, 95), (97, 122)] else if r = 115 then [(9, 13), (32, 32)] else []
/-- What stands for itself behind a backslash. -/
def signL : List Int := [46, 94, 36, 124, 40, 41, 91, 93, 123, 125, 42, 43, 63, 92, 45]
/-- What stands behind a backslash: its set; is it a point? -/
def escL (r : Int) : Option (List (Int × Int) × Bool) :=
  if r = 100 ∨ r = 119 ∨ r = 115 then some (namedS r, false)
  else if r = 68 ∨ r = 87 ∨ r = 83 then some (setOf fun x => !hasL (namedS (r + 32)) x, false)
  else if r = 110 then some ([(10, 10)], true)
  else if r = 114 then some ([(13, 13)], true)
  else if r = 116 then some ([(9, 9)], true)
  else if r ∈ signL then some ([(r, r)], true)
  else none
/-- A point of a class, and what is behind it. -/
def ptL : List Int → Option (List (Int × Int) × Bool × List Int)
  | [] => none
  | r :: l =>
    if r = 91 ∨ r = 93 ∨ r = 94 ∨ r = 45 then none
    else if r = 92 then
      match l with
      | [] => none
      | e :: l' => (escL e).map fun p => (p.1, p.2, l')
    else some ([(r, r)], true, l)
/-- A part of a class, and what is behind it. -/
def partL (l : List Int) : Option (List (Int × Int) × List Int) :=
  match ptL l with
  | none => none
  | some (s, is, l1) =>
    match l1 with
    | 45 :: l2 =>
      if is = true then
        match ptL l2 with
        | some (t, true, l3) => if (t.headD (0, 0)).1 < (s.headD (0, 0)).1 then none else some ([((s.headD (0, 0)).1, (t.headD (0, 0)).1)], l3)
        | _ => none
      else some (s, l1)
    | _ => some (s, l1)
/-- The parts of a class: at least one, up to its end. -/
def partsL : Nat → List Int → List (Int × Int) → Bool → Option (List (Int × Int) × List Int)
  | 0, _, _, _ => none
  | f + 1, l, all, more =>
    match more, l with
    | true, 93 :: l' => some (all, l')
    | _, _ =>
      match partL l with
      | none => none
      | some (s, l1) => partsL f l1 (all ++ s) true
/-- A class behind its bracket. -/
def classL (l : List Int) : Option (List (Int × Int) × List Int) :=
  match l with
  | 94 :: l' => (partsL (l'.length + 1) l' [] false).map fun p => (setOf fun x => !hasL p.1 x, p.2)
  | _ => (partsL (l.length + 1) l [] false).map fun p => (setOf fun x => hasL p.1 x, p.2)
def isDig (r : Int) : Bool := decide (48 ≤ r) && decide (r ≤ 57)
/-- One or two digits. -/
def numL (l : List Int) : Option (Int × List Int) :=
  match l with
  | a :: b :: l' =>
    if isDig a = true then
      if isDig b = true then
        if 10 * (a - 48) + (b - 48) > 50 then none else some (10 * (a - 48) + (b - 48), l')
      else some (a - 48, b :: l')
    else none
  | [a] => if isDig a = true then some (a - 48, []) else none
  | [] => none
/-- A count behind its brace. -/
def braceL (l : List Int) : Option (TokL × List Int) :=
  match numL l with
  | some (a, 125 :: l') => some (tokN a a, l')
  | some (a, 44 :: 125 :: l') => some (tokN a (-1), l')
  | some (a, 44 :: l') =>
    match numL l' with
    | some (b, 125 :: l'') => if b < a then none else some (tokN a b, l'')
    | _ => none
  | _ => none
/-- The first token, and what is behind it. -/
def tokL : List Int → Option (TokL × List Int)
  | [] => none
  | r :: l =>
    if r = 124 ∨ r = 40 ∨ r = 41 ∨ r = 94 ∨ r = 36 then some (tokS r, l)
    else if r = 42 then some (tokN 0 (-1), l)
    else if r = 43 then some (tokN 1 (-1), l)
    else if r = 63 then some (tokN 0 1, l)
    else if r = 123 then braceL l
    else if r = 46 then some (tokC [(0, 9), (11, 1114111)], l)
    else if r = 91 then (classL l).map fun p => (tokC p.1, p.2)
    else if r = 92 then
      match l with
      | [] => none
      | e :: l' => (escL e).map fun p => (tokC p.1, l')
    else if r = 93 ∨ r = 125 then none
    else some (tokC [(r, r)], l)
def toksL : Nat → List Int → Option (List TokL)
  | _, [] => some []
  | 0, _ :: _ => none
  | f + 1, r :: l =>
    match tokL (r :: l) with
    | none => none
    | some (t, l') => (toksL f l').map fun ts => t :: ts

/-! ### Trees -/
def leaf (op : Int) (s : List (Int × Int)) : Wood := .cons op s 0 0 .nil .nil
def zeroN : Wood := leaf 0 []
/-- One node, or more of them under an Op. -/
def oneN (op : Int) (l : Wood) : Wood :=
  match l with
  | .nil => zeroN
  | .cons o s a z k .nil => .cons o s a z k .nil
  | .cons o s a z k x => .cons op [] 0 0 (.cons o s a z k x) .nil
/-- The last node put under a count. -/
def repLast (mn mx : Int) : Wood → Wood
  | .nil => .nil
  | .cons o s a z k .nil => .cons 6 [] mn mx (.cons o s a z k .nil) .nil
  | .cons o s a z k x => .cons o s a z k (repLast mn mx x)
/-- Alternatives that are through. -/
def finN (alts pieces : Wood) : Wood := oneN 5 (alts.app (oneN 4 pieces))
/-- Tokens gone through one by one: what stands in open parentheses is kept for when they are closed. -/
def runT (D : Nat) : List TokL → List (Wood × Wood) → Wood → Wood → Bool → Option Wood
  | [], [], a, p, _ => some (finN a p)
  | [], _ :: _, _, _, _ => none
  | t :: l, st, a, p, loose =>
    if t.kind = 0 then runT D l st a (p.app (leaf 1 t.set)) true
    else if t.kind = 2 then (if loose = true then runT D l st a (repLast t.mn t.mx p) false else none)
    else if t.r = 124 then runT D l st (a.app (oneN 4 p)) .nil false
    else if t.r = 94 then runT D l st a (p.app (leaf 2 [])) false
    else if t.r = 36 then runT D l st a (p.app (leaf 3 [])) false
    else if t.r = 41 then
      match st with
      | [] => none
      | (a', p') :: st' => runT D l st' a' (p'.app (finN a p)) true
    else if D + st.length < 10 then runT D l ((a, p) :: st) .nil .nil false
    else none
/-- A pattern's tree, out of its code points. -/
def treeL (l : List Int) : Option Wood := (toksL l.length l).bind fun ts => runT 0 ts [] .nil .nil false
end Go.Proofs.YtegcebgoiocakaaDoor
/- Trees of tokens: an open parenthesis, what stands in it, and what is behind it. -/
namespace Go.Proofs.YtegcebgoiocakaaDoor
open Go Go.RowKit
set_option linter.unusedVariables false

def isOpen (t : TokL) : Bool := t.kind == 1 && t.r == 40
def isShut (t : TokL) : Bool := t.kind == 1 && t.r == 41
/-- Where the parenthesis that stands open c times more is closed. -/
def closeL : Nat → List TokL → Option Nat
  | _, [] => none
  | c, t :: l =>
    if isOpen t = true then (closeL (c + 1) l).map (· + 1)
    else if isShut t = true then (match c with | 0 => some 0 | c + 1 => (closeL c l).map (· + 1))
    else (closeL c l).map (· + 1)
theorem closeL_cons (c : Nat) (t : TokL) (l : List TokL) : closeL c (t :: l) = if isOpen t = true then (closeL (c + 1) l).map (· + 1) else if isShut t = true then (match c with | 0 => some 0 | c + 1 => (closeL c l).map (· + 1)) else (closeL c l).map (· + 1) := by
  cases c <;> rfl
/-- What a token may be. -/
def TokOk (t : TokL) : Prop := t.kind = 0 ∨ t.kind = 2 ∨ (t.kind = 1 ∧ (t.r = 124 ∨ t.r = 94 ∨ t.r = 36 ∨ t.r = 40 ∨ t.r = 41))

theorem closeL_lt : ∀ (l : List TokL) (c j : Nat), closeL c l = some j → j < l.length
  | [], _, _, h => by cases h
  | t :: l, c, j, h => by
    rw [closeL_cons] at h
    rw [List.length_cons]
    split at h
    · obtain ⟨i, hi, rfl⟩ := Option.map_eq_some_iff.1 h
      have := closeL_lt l _ i hi
      omega
    · split at h
      · rcases c with _ | c
        · injection h with h; omega
        · obtain ⟨i, hi, rfl⟩ := Option.map_eq_some_iff.1 h
          have := closeL_lt l _ i hi
          omega
      · obtain ⟨i, hi, rfl⟩ := Option.map_eq_some_iff.1 h
        have := closeL_lt l _ i hi
        omega

section
variable {D : Nat} {t : TokL} {l : List TokL} {st : List (Wood × Wood)} {a p : Wood} {lo : Bool}
theorem run_char (h : t.kind = 0) : runT D (t :: l) st a p lo = runT D l st a (p.app (leaf 1 t.set)) true := by
  cases st <;> simp [runT, h]
theorem run_count (h : t.kind = 2) : runT D (t :: l) st a p lo = if lo = true then runT D l st a (repLast t.mn t.mx p) false else none := by
  cases st <;> simp [runT, h]
theorem run_bar (h : t.kind = 1) (hr : t.r = 124) : runT D (t :: l) st a p lo = runT D l st (a.app (oneN 4 p)) .nil false := by
  cases st <;> simp [runT, h, hr]
theorem run_begin (h : t.kind = 1) (hr : t.r = 94) : runT D (t :: l) st a p lo = runT D l st a (p.app (leaf 2 [])) false := by
  cases st <;> simp [runT, h, hr]
theorem run_end (h : t.kind = 1) (hr : t.r = 36) : runT D (t :: l) st a p lo = runT D l st a (p.app (leaf 3 [])) false := by
  cases st <;> simp [runT, h, hr]
theorem run_shut_nil (h : t.kind = 1) (hr : t.r = 41) : runT D (t :: l) [] a p lo = none := by
  simp [runT, h, hr]
theorem run_shut (a' p' : Wood) (h : t.kind = 1) (hr : t.r = 41) : runT D (t :: l) ((a', p') :: st) a p lo = runT D l st a' (p'.app (finN a p)) true := by
  simp [runT, h, hr]
theorem run_paren (h : t.kind = 1) (hr : t.r = 40) : runT D (t :: l) st a p lo = if D + st.length < 10 then runT D l ((a, p) :: st) .nil .nil false else none := by
  cases st <;> simp [runT, h, hr]
theorem open_no (h : t.kind ≠ 1 ∨ t.r ≠ 40) : isOpen t = false := by
  unfold isOpen
  rcases h with h | h
  · simp [h]
  · simp [h]
theorem shut_no (h : t.kind ≠ 1 ∨ t.r ≠ 41) : isShut t = false := by
  unfold isShut
  rcases h with h | h
  · simp [h]
  · simp [h]
theorem close_other (c : Nat) (h1 : isOpen t = false) (h2 : isShut t = false) : closeL c (t :: l) = (closeL c l).map (· + 1) := by
  rw [closeL_cons, h1, h2]
  rfl
theorem close_open (c : Nat) (h : t.kind = 1) (hr : t.r = 40) : closeL c (t :: l) = (closeL (c + 1) l).map (· + 1) := by
  rw [closeL_cons]
  simp [isOpen, h, hr]
theorem close_shut (c : Nat) (h : t.kind = 1) (hr : t.r = 41) : closeL c (t :: l) = (match c with | 0 => some 0 | c + 1 => (closeL c l).map (· + 1)) := by
  rw [closeL_cons]
  simp [isOpen, isShut, h, hr]
end

theorem run_close (D : Nat) (a p : Wood) (st : List (Wood × Wood)) : ∀ (l : List TokL), (∀ t ∈ l, TokOk t) → ∀ (st' : List (Wood × Wood)) (x y : Wood) (lo : Bool) (j : Nat), closeL st'.length l = some j →
    runT D l (st' ++ (a, p) :: st) x y lo = (runT (D + 1 + st.length) (l.take j) st' x y lo).bind fun n => runT D (l.drop (j + 1)) st a (p.app n) true
  | [], _, _, _, _, _, _, h => by cases h
  | t :: l, hok, st', x, y, lo, j, h => by
    have hl : ∀ t ∈ l, TokOk t := fun t ht => hok t (List.mem_cons_of_mem _ ht)
    rcases hok t (by simp) with h0 | h2 | ⟨h1, hr | hr | hr | hr | hr⟩
    · rw [close_other _ (open_no (by omega)) (shut_no (by omega))] at h
      obtain ⟨i, hi, rfl⟩ := Option.map_eq_some_iff.1 h
      rw [List.take_succ_cons, run_char h0, run_char h0, run_close D a p st l hl st' _ _ _ i hi, List.drop_succ_cons]
    · rw [close_other _ (open_no (by omega)) (shut_no (by omega))] at h
      obtain ⟨i, hi, rfl⟩ := Option.map_eq_some_iff.1 h
      rw [List.take_succ_cons, run_count h2, run_count h2, List.drop_succ_cons]
      cases lo with
      | false => rfl
      | true => rw [if_pos rfl, if_pos rfl, run_close D a p st l hl st' _ _ _ i hi]
    · rw [close_other _ (open_no (by omega)) (shut_no (by omega))] at h
      obtain ⟨i, hi, rfl⟩ := Option.map_eq_some_iff.1 h
      rw [List.take_succ_cons, run_bar h1 hr, run_bar h1 hr, run_close D a p st l hl st' _ _ _ i hi, List.drop_succ_cons]
    · rw [close_other _ (open_no (by omega)) (shut_no (by omega))] at h
      obtain ⟨i, hi, rfl⟩ := Option.map_eq_some_iff.1 h
      rw [List.take_succ_cons, run_begin h1 hr, run_begin h1 hr, run_close D a p st l hl st' _ _ _ i hi, List.drop_succ_cons]
    · rw [close_other _ (open_no (by omega)) (shut_no (by omega))] at h
      obtain ⟨i, hi, rfl⟩ := Option.map_eq_some_iff.1 h
      rw [List.take_succ_cons, run_end h1 hr, run_end h1 hr, run_close D a p st l hl st' _ _ _ i hi, List.drop_succ_cons]
    · rw [close_open _ h1 hr] at h
      obtain ⟨i, hi, rfl⟩ := Option.map_eq_some_iff.1 h
      rw [List.take_succ_cons, run_paren h1 hr, run_paren h1 hr, List.drop_succ_cons, List.length_append, List.length_cons]
      by_cases hd : D + 1 + st.length + st'.length < 10
      · rw [if_pos hd, if_pos (by omega), ← List.cons_append, run_close D a p st l hl ((x, y) :: st') _ _ _ i (by simpa using hi)]
      · rw [if_neg hd, if_neg (by omega)]
        rfl
    · rw [close_shut _ h1 hr] at h
      rcases st' with _ | ⟨⟨u, v⟩, st'⟩
      · injection h with h
        subst h
        rw [List.nil_append, run_shut _ _ h1 hr]
        rfl
      · obtain ⟨i, hi, rfl⟩ := Option.map_eq_some_iff.1 h
        rw [List.take_succ_cons, List.cons_append, run_shut _ _ h1 hr, run_shut _ _ h1 hr, List.drop_succ_cons, run_close D a p st l hl st' _ _ _ i hi]

theorem run_open (D : Nat) (a p : Wood) (st : List (Wood × Wood)) : ∀ (l : List TokL), (∀ t ∈ l, TokOk t) → ∀ (st' : List (Wood × Wood)) (x y : Wood) (lo : Bool), closeL st'.length l = none →
    runT D l (st' ++ (a, p) :: st) x y lo = none
  | [], _, st', _, _, _, _ => by rcases st' with _ | ⟨q, st'⟩ <;> rfl
  | t :: l, hok, st', x, y, lo, h => by
    have hl : ∀ t ∈ l, TokOk t := fun t ht => hok t (List.mem_cons_of_mem _ ht)
    rcases hok t (by simp) with h0 | h2 | ⟨h1, hr | hr | hr | hr | hr⟩
    · rw [close_other _ (open_no (by omega)) (shut_no (by omega)), Option.map_eq_none_iff] at h
      rw [run_char h0, run_open D a p st l hl st' _ _ _ h]
    · rw [close_other _ (open_no (by omega)) (shut_no (by omega)), Option.map_eq_none_iff] at h
      rw [run_count h2, run_open D a p st l hl st' _ _ _ h]
      split <;> rfl
    · rw [close_other _ (open_no (by omega)) (shut_no (by omega)), Option.map_eq_none_iff] at h
      rw [run_bar h1 hr, run_open D a p st l hl st' _ _ _ h]
    · rw [close_other _ (open_no (by omega)) (shut_no (by omega)), Option.map_eq_none_iff] at h
      rw [run_begin h1 hr, run_open D a p st l hl st' _ _ _ h]
    · rw [close_other _ (open_no (by omega)) (shut_no (by omega)), Option.map_eq_none_iff] at h
      rw [run_end h1 hr, run_open D a p st l hl st' _ _ _ h]
    · rw [close_open _ h1 hr, Option.map_eq_none_iff] at h
      rw [run_paren h1 hr]
      split
      · rw [← List.cons_append]
        exact run_open D a p st l hl ((x, y) :: st') _ _ _ (by simpa using h)
      · rfl
    · rw [close_shut _ h1 hr] at h
      rcases st' with _ | ⟨⟨u, v⟩, st'⟩
      · cases h
      · simp only [List.length_cons, Option.map_eq_none_iff] at h
        rw [List.cons_append, run_shut _ _ h1 hr]
        exact run_open D a p st l hl st' _ _ _ h
end Go.Proofs.YtegcebgoiocakaaDoor
