/- Nodes in a row that the call owns. -/
import Derived.Test.YtjpabeeokgfloaaM01
import Derived.Test.YtjpabeeokgfloaaM04
import Derived.Test.YtjpabeeokgfloaaM05
import Derived.Test.YtjpabeeokgfloaaM07
import Derived.Shelf.Small.Bits
import Derived.Test.YtjpabeeokgfloaaProg
import Derived.Deep.QuietTactic
import Derived.BigQuiet
import Derived.Laws.BitsAllLaws
namespace Go.Proofs.Ytjpabeeokgfloaa
open Go Go.RowKit
set_option linter.unusedVariables false
set_option maxRecDepth 20000

/-! ### Moved to another world -/
section
variable {F F' : Nat → Prop} {w w' : World}
theorem RowF.move {A : Option Addr} {n : Nat} {s : List (Int × Int)} (h : RowF F w A n s) (hs : w.heap.size ≤ w'.heap.size) (hk : ∀ b, F b → b < w.heap.size → F' b ∧ w'.heap[b]? = w.heap[b]?) : RowF F' w' A n s := by
  refine ⟨(h.keep hs fun b h1 h2 => (hk b h1 h2).2).1, fun b o hn hA => ?_⟩
  obtain ⟨b', o', hA', hlt, _⟩ := h.1.2 hn
  rw [hA] at hA'
  injection hA' with hA'
  injection hA' with e1 e2
  subst e1
  exact (hk b (h.2 b o hn hA) hlt).1
theorem WoodAt.move (hs : w.heap.size ≤ w'.heap.size) (hk : ∀ b, F b → b < w.heap.size → F' b ∧ w'.heap[b]? = w.heap[b]?) : ∀ {T : Wood} {b o : Nat}, WoodAt F w T b o → (T.len = 0 ∨ (F b ∧ b < w.heap.size)) → WoodAt F' w' T b o
  | .nil, _, _, _, _ => trivial
  | .cons op s mn mx k x, b, o, ⟨⟨A, D, ns, cs, nk, ck, h1, h2, h3, h4⟩, h5⟩, hb => by
    have hb : F b ∧ b < w.heap.size := by
      rcases hb with hb | hb
      · simp [Wood.len] at hb
      · exact hb
    have hh := (hk b hb.1 hb.2).2
    have hcell : ∀ j, w'.cell? ⟨b, j, none⟩ = w.cell? ⟨b, j, none⟩ := fun j => by simp only [World.cell?, hh]
    refine ⟨⟨A, D, ns, cs, nk, ck, fun j v hv => by rw [hcell]; exact h1 j v hv, h2.move hs hk, h3, fun hn => ?_⟩, WoodAt.move hs hk h5 (.inr hb)⟩
    obtain ⟨b', o', hD, hF, hlt, hw⟩ := h4 hn
    exact ⟨b', o', hD, (hk _ hF hlt).1, by omega, WoodAt.move hs hk hw (.inr ⟨hF, hlt⟩)⟩
theorem KidsAt.move {D : Option Addr} {nk : Nat} {k : Wood} (h : KidsAt F w D nk k) (hs : w.heap.size ≤ w'.heap.size) (hk : ∀ b, F b → b < w.heap.size → F' b ∧ w'.heap[b]? = w.heap[b]?) : KidsAt F' w' D nk k := by
  refine ⟨h.1, fun hn => ?_⟩
  obtain ⟨b, o, hD, hF, hlt, hw⟩ := h.2 hn
  exact ⟨b, o, hD, (hk _ hF hlt).1, by omega, hw.move hs hk (.inr ⟨hF, hlt⟩)⟩
theorem NodeIn.move {v : Value} {T : Wood} (h : NodeIn F w v T) (hs : w.heap.size ≤ w'.heap.size) (hk : ∀ b, F b → b < w.heap.size → F' b ∧ w'.heap[b]? = w.heap[b]?) : NodeIn F' w' v T := by
  obtain ⟨op, s, mn, mx, k, A, D, ns, cs, nk, ck, h1, h2, h3, h4⟩ := h
  exact ⟨op, s, mn, mx, k, A, D, ns, cs, nk, ck, h1, h2, h3.move hs hk, h4.move hs hk⟩
end

/-! ### Nodes as values -/
structure NV where
  op : Int
  A : Option Addr
  ns : Nat
  cs : Nat
  mn : Int
  mx : Int
  D : Option Addr
  nk : Nat
  ck : Nat
def NV.cells (x : NV) : List Value := nodeV x.op x.A x.ns x.cs x.mn x.mx x.D x.nk x.ck
def NV.val (x : NV) : Value := .agg #[.int .i64 x.op, .slice x.A x.ns x.cs, .int .i64 x.mn, .int .i64 x.mx, .slice x.D x.nk x.ck]
def cellsN (xs : List NV) : List Value := xs.flatMap NV.cells
theorem cellsN_length (xs : List NV) : (cellsN xs).length = xs.length * 5 := by
  induction xs with
  | nil => rfl
  | cons p s ih =>
    show (p.cells ++ cellsN s).length = _
    rw [List.length_append, ih, List.length_cons, show p.cells.length = 5 from rfl]
    omega
theorem cellsN_append (a b : List NV) : cellsN (a ++ b) = cellsN a ++ cellsN b := by simp [cellsN]
theorem cellsN_at : ∀ (xs : List NV) (j : Nat) (x : NV), xs[j]? = some x → ∀ i v, x.cells[i]? = some v → (cellsN xs)[j * 5 + i]? = some v
  | [], j, x, h, _, _, _ => by simp at h
  | p :: s, 0, x, h, i, v, hv => by
    simp only [List.getElem?_cons_zero, Option.some.injEq] at h
    subst h
    have hi : i < 5 := (List.getElem?_eq_some_iff.1 hv).1
    show (p.cells ++ cellsN s)[0 * 5 + i]? = _
    rw [Nat.zero_mul, Nat.zero_add, List.getElem?_append_left (show i < p.cells.length from hi)]
    exact hv
  | p :: s, j + 1, x, h, i, v, hv => by
    have ih := cellsN_at s j x (by simpa using h) i v hv
    show (p.cells ++ cellsN s)[(j + 1) * 5 + i]? = _
    rw [List.getElem?_append_right (by show 5 ≤ _; omega), show (j + 1) * 5 + i - p.cells.length = j * 5 + i by show _ - 5 = _; omega]
    exact ih
theorem NV.cells_one (x : NV) : ∀ u ∈ x.cells, u.oneCell' = true := by
  intro u hu
  simp only [NV.cells, nodeV, List.mem_cons, List.not_mem_nil, or_false] at hu
  rcases hu with rfl | rfl | rfl | rfl | rfl <;> rfl

/-- Values that read as a row of nodes. -/
def NodesIn (F : Nat → Prop) (w : World) : List NV → Wood → Prop
  | [], .nil => True
  | x :: xs, .cons op s mn mx k t => (x.op = op ∧ x.mn = mn ∧ x.mx = mx) ∧ RowF F w x.A x.ns s ∧ KidsAt F w x.D x.nk k ∧ NodesIn F w xs t
  | _, _ => False
section
variable {F F' : Nat → Prop} {w w' : World}
theorem NodesIn.move (hs : w.heap.size ≤ w'.heap.size) (hk : ∀ b, F b → b < w.heap.size → F' b ∧ w'.heap[b]? = w.heap[b]?) : ∀ {xs : List NV} {T : Wood}, NodesIn F w xs T → NodesIn F' w' xs T
  | [], .nil, _ => trivial
  | x :: xs, .cons op s mn mx k t, ⟨h1, h2, h3, h4⟩ => ⟨h1, h2.move hs hk, h3.move hs hk, NodesIn.move hs hk h4⟩
  | [], .cons .., h => h.elim
  | _ :: _, .nil, h => h.elim
theorem NodesIn.len : ∀ {xs : List NV} {T : Wood}, NodesIn F w xs T → T.len = xs.length
  | [], .nil, _ => rfl
  | x :: xs, .cons op s mn mx k t, ⟨h1, h2, h3, h4⟩ => by rw [Wood.len, NodesIn.len h4, List.length_cons]
  | [], .cons .., h => h.elim
  | _ :: _, .nil, h => h.elim
theorem NodesIn.app : ∀ {xs ys : List NV} {T U : Wood}, NodesIn F w xs T → NodesIn F w ys U → NodesIn F w (xs ++ ys) (T.app U)
  | [], ys, .nil, U, _, h => h
  | x :: xs, ys, .cons op s mn mx k t, U, ⟨h1, h2, h3, h4⟩, h => ⟨h1, h2, h3, NodesIn.app h4 h⟩
  | [], _, .cons .., _, h, _ => h.elim
  | _ :: _, _, .nil, _, h, _ => h.elim
theorem NodesIn.one {x : NV} {T : Wood} (h : NodesIn F w [x] T) : NodeIn F w x.val T := by
  match T, h with
  | .cons op s mn mx k .nil, ⟨⟨h1, h2, h3⟩, h4, h5, _⟩ =>
    subst h1; subst h2; subst h3
    exact ⟨_, s, _, _, k, x.A, x.D, x.ns, x.cs, x.nk, x.ck, rfl, rfl, h4, h5⟩
  | .cons _ _ _ _ _ (.cons ..), ⟨_, _, _, h⟩ => exact h.elim
theorem NodeIn.one {v : Value} {T : Wood} (h : NodeIn F w v T) : ∃ x : NV, v = x.val ∧ NodesIn F w [x] T := by
  obtain ⟨op, s, mn, mx, k, A, D, ns, cs, nk, ck, rfl, rfl, h3, h4⟩ := h
  exact ⟨⟨op, A, ns, cs, mn, mx, D, nk, ck⟩, rfl, ⟨rfl, rfl, rfl⟩, h3, h4, trivial⟩
theorem NodeIn.len {v : Value} {T : Wood} (h : NodeIn F w v T) : T.len = 1 := by
  obtain ⟨op, s, mn, mx, k, A, D, ns, cs, nk, ck, rfl, rfl, h3, h4⟩ := h
  rfl
theorem NodesIn.wood : ∀ {xs : List NV} {T : Wood} {b o : Nat}, NodesIn F w xs T → (∀ j x, xs[j]? = some x → ∀ i v, x.cells[i]? = some v → w.cell? ⟨b, o + j * 5 + i, none⟩ = some v) → WoodAt F w T b o
  | [], .nil, _, _, _, _ => trivial
  | x :: xs, .cons op s mn mx k t, b, o, ⟨⟨h1, h2, h3⟩, h4, h5, h6⟩, hc => by
    subst h1; subst h2; subst h3
    refine ⟨⟨x.A, x.D, x.ns, x.cs, x.nk, x.ck, fun i v hv => ?_, h4, h5⟩, NodesIn.wood h6 fun j y hy i v hv => ?_⟩
    · have := hc 0 x rfl i v hv
      rwa [Nat.zero_mul, Nat.add_zero] at this
    · have := hc (j + 1) y (by simpa using hy) i v hv
      rwa [show o + (j + 1) * 5 + i = o + 5 + j * 5 + i by omega] at this
  | [], .cons .., _, _, h, _ => h.elim
  | _ :: _, .nil, _, _, h, _ => h.elim
end

/-- Made since B, and not the row's own block. -/
def Fr (B : Nat) (V : Value) (b : Nat) : Prop := B ≤ b ∧ V.ownBlock ≠ some b
theorem info_node : (Try.prog.info? 28).map (fun i => (i.zero, i.size, i.bytes)) = some (some (.agg #[.int .i64 0, .slice none 0 0, .int .i64 0, .int .i64 0, .slice none 0 0]), 5, 72) := by kernel_rfl
theorem row_cellsN {w : World} {B : Nat} {P : Option Addr} {q pc : Nat} {xs : List NV} (h : w.ownsRow B 28 5 (.slice P q pc) q (cellsN xs)) (hq : 0 < q) : ∃ b, P = some ⟨b, 0, none⟩ ∧ B ≤ b ∧ b < w.heap.size ∧ q = xs.length ∧ q ≤ pc ∧ pc ≤ maxLen ∧ ∀ j x, xs[j]? = some x → ∀ i v, x.cells[i]? = some v → w.cell? ⟨b, 0 + j * 5 + i, none⟩ = some v := by
  have hl := h.1
  rw [cellsN_length] at hl
  rcases h.2 with ⟨e, h0⟩ | ⟨g, cap, cur, e, hB, hg, hnc, hcm, hcs, ht⟩
  · omega
  · injection e with e1 _ e3
    subst e1; subst e3
    refine ⟨g, rfl, hB, (Array.getElem?_eq_some_iff.1 hg).1, by omega, hnc, hcm, fun j x hx i v hv => ?_⟩
    have hj : j < xs.length := (List.getElem?_eq_some_iff.1 hx).1
    have hi : i < 5 := (List.getElem?_eq_some_iff.1 hv).1
    have := cellsN_at xs j x hx i v hv
    rw [cell_of_row w g (0 + j * 5 + i) cur 28 (0, 0) hg, ← this, ← ht, List.getElem?_take_of_lt (by omega), Array.getElem?_toList, Nat.zero_add]
/-- A node behind those of a row. -/
theorem push_node {w : World} {B : Nat} {P : Option Addr} {q pc : Nat} {xs : List NV} {T n : Wood} {x : NV} (h : w.ownsRow B 28 5 (.slice P q pc) q (cellsN xs)) (hT : NodesIn (Fr B (.slice P q pc)) w xs T) (hx : NodesIn (Fr B (.slice P q pc)) w [x] n) (hq : q ≤ 100000) (hb : B ≤ w.heap.size) :
    ∃ P' pc' w', (Builtin.append_ #[26, 26] 26 #[.slice P q pc, .slice (some ⟨w.heap.size, 0, none⟩) 1 1]).run Try.prog (w.alloc (.cells x.cells.toArray 28)) = .ok (.slice P' (q + 1) pc') w' ∧
      w'.ownsRow B 28 5 (.slice P' (q + 1) pc') (q + 1) (cellsN (xs ++ [x])) ∧ NodesIn (Fr B (.slice P' (q + 1) pc')) w' (xs ++ [x]) (T.app n) ∧ Below B w w' := by
  obtain ⟨i0, hi, hz0, hz1, hz2⟩ := info_parts info_node
  obtain ⟨W, hW⟩ : ∃ W, W = w.alloc (.cells x.cells.toArray 28) := ⟨_, rfl⟩
  have hws : W.heap.size = w.heap.size + 1 := by rw [hW]; simp
  have hold : ∀ k, k < w.heap.size → W.heap[k]? = w.heap[k]? := fun k hk => by rw [hW]; exact Below.heap_alloc w _ k hk
  have hown : W.ownsRow B 28 5 (.slice P q pc) q (cellsN xs) := row_keep h fun k hk _ => hold k hk
  have hcells : ∀ j u, x.cells[j]? = some u → W.cell? ((⟨w.heap.size, 0, none⟩ : Addr).add j) = some u := by
    intro j u hu
    rw [show (⟨w.heap.size, 0, none⟩ : Addr).add j = ⟨w.heap.size, 0 + j, none⟩ by unfold Addr.add; split <;> simp_all, hW, cell_of_row _ w.heap.size (0 + j) _ 28 (0, 0) (heap_alloc_new w _), Nat.zero_add]
    simpa using hu
  obtain ⟨V', w', h1, h2, h3, _, h4⟩ := run_append_own_at (P := Try.prog) W B 26 26 28 i0 _ 5 72 Try.underlying26 hi hz0 hz1 hz2 rfl (by decide) _ q _ hown ⟨w.heap.size, 0, none⟩ 1 1 x.cells rfl hcells x.cells_one (by unfold maxLen; omega) (by omega) (by omega)
  have hbW : Below B w W := by rw [hW]; exact (Below.refl _ _).alloc hb _
  have hb' : Below B w w' := hbW.grown h3 (by omega) (by intro k hk; exact (row_lt hown hk).1)
  have key : ∀ b, Fr B (.slice P q pc) b → b < w.heap.size → Fr B V' b ∧ w'.heap[b]? = w.heap[b]? := by
    intro b hF hlt
    refine ⟨⟨hF.1, fun e => ?_⟩, (h3.block b (by omega) fun e => hF.2 e.symm).trans (hold b hlt)⟩
    rcases h4 with h4 | h4
    · exact hF.2 (h4 ▸ e)
    · rw [h4] at e
      injection e with e
      omega
  have hsz : w.heap.size ≤ w'.heap.size := Nat.le_trans (by omega) h3.size
  have hN : NodesIn (Fr B V') w' (xs ++ [x]) (T.app n) := (hT.move hsz key).app (hx.move hsz key)
  have e : cellsN xs ++ x.cells = cellsN (xs ++ [x]) := by rw [cellsN_append]; simp [cellsN]
  rw [e] at h2
  rcases h2.2 with ⟨rfl, h0⟩ | ⟨b, cap, cu, rfl, _⟩
  · omega
  · exact ⟨_, _, w', by rw [← hW]; exact h1, h2, hN, hb'⟩
theorem nilN (w : World) (B : Nat) : w.ownsRow B 28 5 (.slice none 0 0) 0 (cellsN []) := World.ownsRow_nil _ _ _ _

theorem oneN_one {op : Int} {T : Wood} (h : T.len = 1) : oneN op T = T := by
  obtain ⟨o, s, x, z, k, rfl⟩ := Wood.one_of_len h
  rfl
theorem oneN_more {op : Int} {T : Wood} (h : 2 ≤ T.len) : oneN op T = .cons op [] 0 0 T .nil := by
  match T, h with
  | .cons o s x z k (.cons ..), _ => rfl
  | .cons o s x z k .nil, h => simp [Wood.len] at h
  | .nil, h => simp [Wood.len] at h
theorem oneN_len (op : Int) (T : Wood) : (oneN op T).len = 1 := by
  match T with
  | .nil => rfl
  | .cons o s x z k .nil => rfl
  | .cons o s x z k (.cons ..) => rfl
theorem rowF_nil (F : Nat → Prop) (w : World) : RowF F w none 0 [] := ⟨RowG.nil_, fun _ _ h => absurd h (by omega)⟩
theorem kids_nil (F : Nat → Prop) (w : World) : KidsAt F w none 0 .nil := ⟨rfl, fun h => absurd h (by omega)⟩
/-- A node without ranges and kids. -/
theorem node_leaf (F : Nat → Prop) (w : World) (op : Int) : NodeIn F w (.agg #[.int .i64 op, .slice none 0 0, .int .i64 0, .int .i64 0, .slice none 0 0]) (leaf op []) :=
  ⟨op, [], 0, 0, .nil, none, none, 0, 0, 0, 0, rfl, rfl, rowF_nil F w, kids_nil F w⟩
/-- The cells of a block of one node. -/
theorem box_facts {w : World} {r : Nat} {v0 v1 v2 v3 v4 : Value} (h : w.heap[r]? = some (.cells #[v0, v1, v2, v3, v4] 28 (0, 0))) :
    w.cell? ⟨r, 0, none⟩ = some v0 ∧ w.cell? ⟨r, 1, none⟩ = some v1 ∧ w.cell? ⟨r, 2, none⟩ = some v2 ∧ w.cell? ⟨r, 3, none⟩ = some v3 ∧ w.cell? ⟨r, 4, none⟩ = some v4 ∧ ∀ j, w.frozen? ⟨r, j, none⟩ = false :=
  ⟨cell_of_row w r 0 _ _ (0, 0) h, cell_of_row w r 1 _ _ (0, 0) h, cell_of_row w r 2 _ _ (0, 0) h, cell_of_row w r 3 _ _ (0, 0) h, cell_of_row w r 4 _ _ (0, 0) h, fun j => by simp [World.frozen?, h]⟩
/-- A node is stored there. -/
def put5 (w : World) (r : Nat) (a b c d e : Value) : World := ((((w.setCell ⟨r, 0, none⟩ a).setCell ⟨r, 1, none⟩ b).setCell ⟨r, 2, none⟩ c).setCell ⟨r, 3, none⟩ d).setCell ⟨r, 4, none⟩ e
theorem put5_heap {w : World} {r : Nat} {v0 v1 v2 v3 v4 : Value} (h : w.heap[r]? = some (.cells #[v0, v1, v2, v3, v4] 28 (0, 0))) (a b c d e : Value) : (put5 w r a b c d e).heap[r]? = some (.cells #[a, b, c, d, e] 28 (0, 0)) :=
  heap_setCell_same _ r 4 _ _ _ (heap_setCell_same _ r 3 _ _ _ (heap_setCell_same _ r 2 _ _ _ (heap_setCell_same _ r 1 _ _ _ (heap_setCell_same _ r 0 _ _ _ h))))
theorem put5_below {B : Nat} (w : World) {r : Nat} (hr : B ≤ r) (a b c d e : Value) : Below B w (put5 w r a b c d e) :=
  (((((Below.refl B w).setCell (p := ⟨r, 0, none⟩) hr a).setCell (p := ⟨r, 1, none⟩) hr b).setCell (p := ⟨r, 2, none⟩) hr c).setCell (p := ⟨r, 3, none⟩) hr d).setCell (p := ⟨r, 4, none⟩) hr e
theorem put5_size (w : World) (r : Nat) (a b c d e : Value) : (put5 w r a b c d e).heap.size = w.heap.size := by simp [put5]
theorem put5_other (w : World) {r k : Nat} (hk : k ≠ r) (a b c d e : Value) : (put5 w r a b c d e).heap[k]? = w.heap[k]? :=
  ((((Below.heap_setCell _ _ _ _ hk).trans (Below.heap_setCell _ _ _ _ hk)).trans (Below.heap_setCell _ _ _ _ hk)).trans (Below.heap_setCell _ _ _ _ hk)).trans (Below.heap_setCell _ _ _ _ hk)
theorem rowF_own {w : World} {B : Nat} {P : Option Addr} {q pc : Nat} {s : List (Int × Int)} (h : w.ownsRow B 58 2 (.slice P q pc) q (cellsG s)) : RowF (fun b => B ≤ b) w P q s := by
  refine ⟨rowG_own9 h, fun b o hq hP => ?_⟩
  subst hP
  rcases h.2 with ⟨e, h0⟩ | ⟨g, cap, cur, e, hB, _⟩
  · injection e with e1 _ _; cases e1
  · injection e with e1 _ _
    injection e1 with e1
    injection e1 with e1 _ _
    subst e1
    exact hB

theorem RowF.below {F : Nat → Prop} {w w' : World} {A : Option Addr} {n : Nat} {s : List (Int × Int)} (h : RowF F w A n s) (hb : Below w.heap.size w w') : RowF F w' A n s := h.keep hb.size fun b _ hlt => hb.block b hlt
theorem put5_is (w : World) (r : Nat) (a b c d e : Value) : ((((w.setCell ⟨r, 0, none⟩ a).setCell ⟨r, 1, none⟩ b).setCell ⟨r, 2, none⟩ c).setCell ⟨r, 3, none⟩ d).setCell ⟨r, 4, none⟩ e = put5 w r a b c d e := rfl
end Go.Proofs.Ytjpabeeokgfloaa
/- Contracts of math/bits that the library proves over any program, laid at this one. -/
namespace Go.Proofs
open Go.Shelf
end Go.Proofs
/- Contracts of length and gather of package code. -/
namespace Go.Proofs.Ytjpabeeokgfloaa
open Go Go.RowKit

/-- How many octets a first one announces; 0 if it can't be one. -/
def lenI (c : Int) : Int := if c < 128 then 1 else if c < 192 then 0 else if c < 224 then 2 else if c < 240 then 3 else if c < 248 then 4 else 0

theorem lz_all : ∀ c : Fin 256, (Lib.bitLen (255 - c.val) : Int) = if c.val < 128 then 8 else if c.val < 192 then 7 else if c.val < 224 then 6 else if c.val < 240 then 5 else if c.val < 248 then 4 else (Lib.bitLen (255 - c.val) : Int) := by decide +kernel
theorem lz_top : ∀ c : Fin 8, Lib.bitLen c.val ≤ 3 := by decide +kernel

theorem xor255 : ∀ c : Fin 256, (255 ^^^ c.val : Nat) = 255 - c.val := by decide +kernel
theorem u8_not {c : Int} (h0 : 0 ≤ c) (h1 : c ≤ 255) : bits BinOp.xor IntKind.u8 IntKind.u8.max c = 255 - c := by
  rw [show IntKind.u8.max = 255 from rfl, u8_xor 255 c (by omega) (by omega) h0 (by omega)]
  have := xor255 ⟨c.toNat, by omega⟩
  simp only at this
  rw [show (255 : Int).toNat = 255 from rfl, this]
  omega


end Go.Proofs.Ytjpabeeokgfloaa
/- The contract of gather of package code. -/
namespace Go.Proofs.Ytjpabeeokgfloaa
open Go Go.RowKit

/-- What the octets behind the first one say, put behind r. -/
def gat : Int → List Int → Int × Bool
  | r, [] => (r, true)
  | r, c :: t => if 128 ≤ c ∧ c < 192 then gat (r * 64 + (c - 128)) t else (0, false)

/-- What of a first octet's bits is its code point's. -/
def headI (n c : Int) : Int := if n = 1 then c % 128 else if n = 2 then c % 64 else if n = 3 then c % 32 else c % 16

theorem and127 {c : Int} (h0 : 0 ≤ c) (h1 : c < 256) : bits .and .u8 c 127 = c % 128 := bits_mask .u8 8 (by decide) wraps_u8 7 (by decide) c h0 h1


/-- How great the number can be before round k. -/
def Room (k : Nat) (r : Int) : Prop := 0 ≤ r ∧ (k = 0 → r < 128) ∧ (k = 1 → r < 8192) ∧ (k = 2 → r < 524288) ∧ (k = 3 → r < 33554432)
theorem Room.lt {k : Nat} {r : Int} (h : Room k r) (hk : k ≤ 3) : 0 ≤ r ∧ r < 33554432 := by unfold Room at h; omega
theorem Room.next {k : Nat} {r c : Int} (h : Room k r) (h0 : 0 ≤ c) (h1 : c < 64) (hk : k < 3) : Room (k + 1) (r * 64 + c) := by unfold Room at *; omega
theorem headI_room (n x : Int) : Room 0 (headI n x) := by
  unfold Room headI
  refine ⟨?_, ?_, ?_, ?_, ?_⟩ <;> (split <;> (try split) <;> (try split) <;> omega)

end Go.Proofs.Ytjpabeeokgfloaa
/- The contract of Get of package code. -/
namespace Go.Proofs.Ytjpabeeokgfloaa
open Go Go.RowKit

/-- What Get gives, of octets as numbers. -/
def getI : List Int → Int × Int
  | [] => (65533, 0)
  | x :: t => if lenI x = 0 ∨ (t.length : Int) + 1 < lenI x then (65533, 1) else
    if (gat (headI (lenI x) x) (t.take ((lenI x).toNat - 1))).2 = true ∧ szI (gat (headI (lenI x) x) (t.take ((lenI x).toNat - 1))).1 = lenI x
      then ((gat (headI (lenI x) x) (t.take ((lenI x).toNat - 1))).1, lenI x) else (65533, 1)






theorem lenI_or (x : Int) : lenI x = 0 ∨ lenI x = 1 ∨ lenI x = 2 ∨ lenI x = 3 ∨ lenI x = 4 := by
  unfold lenI; (repeat' split) <;> omega

end Go.Proofs.Ytjpabeeokgfloaa
