/- Nodes in a row that the call owns. -/
import Derived.Test.YtegcebgoiocakaaDoorA04
import Derived.Test.YtegcebgoiocakaaDoorA05
import Derived.Test.YtegcebgoiocakaaDoorA08
import Derived.Test.YtegcebgoiocakaaDoorA09
import Derived.LoopN
namespace Go.Proofs.YtegcebgoiocakaaDoor
open Go Go.RowKit
set_option linter.unusedVariables false
set_option maxRecDepth 20000

/-! ### Moved to another world -/
section
variable {F F' : Nat → Prop} {w w' : World}
theorem RowF.move {A : Option Addr} {n : Nat} {s : List (Int × Int)} (h : RowF F w A n s) (hs : w.heap.size ≤ w'.heap.size) (hk : ∀ b, F b → b < w.heap.size → F' b ∧ w'.heap[b]? = w.heap[b]?) : RowF F' w' A n s := by
  refine ⟨(h.keep hs fun b h1 h2 => (hk b h1 h2).2).1, fun b o hn hA => ?_⟩
  obtain ⟨b', o', hA', hlt, _⟩ := h.1.2 hn
  rw [hA] at hA'
  injection hA' with hA'
  injection hA' with e1 e2
  subst e1
  exact (hk b (h.2 b o hn hA) hlt).1
theorem WoodAt.move (hs : w.heap.size ≤ w'.heap.size) (hk : ∀ b, F b → b < w.heap.size → F' b ∧ w'.heap[b]? = w.heap[b]?) : ∀ {T : Wood} {b o : Nat}, WoodAt F w T b o → (T.len = 0 ∨ (F b ∧ b < w.heap.size)) → WoodAt F' w' T b o
  | .nil, _, _, _, _ => trivial
  | .cons op s mn mx k x, b, o, ⟨⟨A, D, ns, cs, nk, ck, h1, h2, h3, h4⟩, h5⟩, hb => by
    have hb : F b ∧ b < w.heap.size := by
      rcases hb with hb | hb
      · simp [Wood.len] at hb
      · exact hb
    have hh := (hk b hb.1 hb.2).2
    have hcell : ∀ j, w'.cell? ⟨b, j, none⟩ = w.cell? ⟨b, j, none⟩ := fun j => by simp only [World.cell?, hh]
    refine ⟨⟨A, D, ns, cs, nk, ck, fun j v hv => by rw [hcell]; exact h1 j v hv, h2.move hs hk, h3, fun hn => ?_⟩, WoodAt.move hs hk h5 (.inr hb)⟩
    obtain ⟨b', o', hD, hF, hlt, hw⟩ := h4 hn
    exact ⟨b', o', hD, (hk _ hF hlt).1, by omega, WoodAt.move hs hk hw (.inr ⟨hF, hlt⟩)⟩
theorem KidsAt.move {D : Option Addr} {nk : Nat} {k : Wood} (h : KidsAt F w D nk k) (hs : w.heap.size ≤ w'.heap.size) (hk : ∀ b, F b → b < w.heap.size → F' b ∧ w'.heap[b]? = w.heap[b]?) : KidsAt F' w' D nk k := by
  refine ⟨h.1, fun hn => ?_⟩
  obtain ⟨b, o, hD, hF, hlt, hw⟩ := h.2 hn
  exact ⟨b, o, hD, (hk _ hF hlt).1, by omega, hw.move hs hk (.inr ⟨hF, hlt⟩)⟩
theorem NodeIn.move {v : Value} {T : Wood} (h : NodeIn F w v T) (hs : w.heap.size ≤ w'.heap.size) (hk : ∀ b, F b → b < w.heap.size → F' b ∧ w'.heap[b]? = w.heap[b]?) : NodeIn F' w' v T := by
  obtain ⟨op, s, mn, mx, k, A, D, ns, cs, nk, ck, h1, h2, h3, h4⟩ := h
  exact ⟨op, s, mn, mx, k, A, D, ns, cs, nk, ck, h1, h2, h3.move hs hk, h4.move hs hk⟩
end

/-! ### Nodes as values -/
structure NV where
  op : Int
  A : Option Addr
  ns : Nat
  cs : Nat
  mn : Int
  mx : Int
  D : Option Addr
  nk : Nat
  ck : Nat
def NV.cells (x : NV) : List Value := nodeV x.op x.A x.ns x.cs x.mn x.mx x.D x.nk x.ck
def NV.val (x : NV) : Value := .agg #[.int .i64 x.op, .slice x.A x.ns x.cs, .int .i64 x.mn, .int .i64 x.mx, .slice x.D x.nk x.ck]
def cellsN (xs : List NV) : List Value := xs.flatMap NV.cells
theorem cellsN_length (xs : List NV) : (cellsN xs).length = xs.length * 5 := by
  induction xs with
  | nil => rfl
  | cons p s ih =>
    show (p.cells ++ cellsN s).length = _
    rw [List.length_append, ih, List.length_cons, show p.cells.length = 5 from rfl]
    omega
theorem cellsN_append (a b : List NV) : cellsN (a ++ b) = cellsN a ++ cellsN b := by simp [cellsN]
theorem cellsN_at : ∀ (xs : List NV) (j : Nat) (x : NV), xs[j]? = some x → ∀ i v, x.cells[i]? = some v → (cellsN xs)[j * 5 + i]? = some v
  | [], j, x, h, _, _, _ => by simp at h
  | p :: s, 0, x, h, i, v, hv => by
    simp only [List.getElem?_cons_zero, Option.some.injEq] at h
    subst h
    have hi : i < 5 := (List.getElem?_eq_some_iff.1 hv).1
    show (p.cells ++ cellsN s)[0 * 5 + i]? = _
    rw [Nat.zero_mul, Nat.zero_add, List.getElem?_append_left (show i < p.cells.length from hi)]
    exact hv
  | p :: s, j + 1, x, h, i, v, hv => by
    have ih := cellsN_at s j x (by simpa using h) i v hv
    show (p.cells ++ cellsN s)[(j + 1) * 5 + i]? = _
    rw [List.getElem?_append_right (by show 5 ≤ _; omega), show (j + 1) * 5 + i - p.cells.length = j * 5 + i by show _ - 5 = _; omega]
    exact ih
theorem NV.cells_one (x : NV) : ∀ u ∈ x.cells, u.oneCell' = true := by
  intro u hu
  simp only [NV.cells, nodeV, List.mem_cons, List.not_mem_nil, or_false] at hu
  rcases hu with rfl | rfl | rfl | rfl | rfl <;> rfl

/-- Values that read as a row of nodes. -/
def NodesIn (F : Nat → Prop) (w : World) : List NV → Wood → Prop
  | [], .nil => True
  | x :: xs, .cons op s mn mx k t => (x.op = op ∧ x.mn = mn ∧ x.mx = mx) ∧ RowF F w x.A x.ns s ∧ KidsAt F w x.D x.nk k ∧ NodesIn F w xs t
  | _, _ => False
section
variable {F F' : Nat → Prop} {w w' : World}
theorem NodesIn.move (hs : w.heap.size ≤ w'.heap.size) (hk : ∀ b, F b → b < w.heap.size → F' b ∧ w'.heap[b]? = w.heap[b]?) : ∀ {xs : List NV} {T : Wood}, NodesIn F w xs T → NodesIn F' w' xs T
  | [], .nil, _ => trivial
  | x :: xs, .cons op s mn mx k t, ⟨h1, h2, h3, h4⟩ => ⟨h1, h2.move hs hk, h3.move hs hk, NodesIn.move hs hk h4⟩
  | [], .cons .., h => h.elim
  | _ :: _, .nil, h => h.elim
theorem NodesIn.len : ∀ {xs : List NV} {T : Wood}, NodesIn F w xs T → T.len = xs.length
  | [], .nil, _ => rfl
  | x :: xs, .cons op s mn mx k t, ⟨h1, h2, h3, h4⟩ => by rw [Wood.len, NodesIn.len h4, List.length_cons]
  | [], .cons .., h => h.elim
  | _ :: _, .nil, h => h.elim
theorem NodesIn.app : ∀ {xs ys : List NV} {T U : Wood}, NodesIn F w xs T → NodesIn F w ys U → NodesIn F w (xs ++ ys) (T.app U)
  | [], ys, .nil, U, _, h => h
  | x :: xs, ys, .cons op s mn mx k t, U, ⟨h1, h2, h3, h4⟩, h => ⟨h1, h2, h3, NodesIn.app h4 h⟩
  | [], _, .cons .., _, h, _ => h.elim
  | _ :: _, _, .nil, _, h, _ => h.elim
theorem NodesIn.one {x : NV} {T : Wood} (h : NodesIn F w [x] T) : NodeIn F w x.val T := by
  match T, h with
  | .cons op s mn mx k .nil, ⟨⟨h1, h2, h3⟩, h4, h5, _⟩ =>
    subst h1; subst h2; subst h3
    exact ⟨_, s, _, _, k, x.A, x.D, x.ns, x.cs, x.nk, x.ck, rfl, rfl, h4, h5⟩
  | .cons _ _ _ _ _ (.cons ..), ⟨_, _, _, h⟩ => exact h.elim
theorem NodeIn.one {v : Value} {T : Wood} (h : NodeIn F w v T) : ∃ x : NV, v = x.val ∧ NodesIn F w [x] T := by
  obtain ⟨op, s, mn, mx, k, A, D, ns, cs, nk, ck, rfl, rfl, h3, h4⟩ := h
  exact ⟨⟨op, A, ns, cs, mn, mx, D, nk, ck⟩, rfl, ⟨rfl, rfl, rfl⟩, h3, h4, trivial⟩
theorem NodeIn.len {v : Value} {T : Wood} (h : NodeIn F w v T) : T.len = 1 := by
  obtain ⟨op, s, mn, mx, k, A, D, ns, cs, nk, ck, rfl, rfl, h3, h4⟩ := h
  rfl
theorem NodesIn.wood : ∀ {xs : List NV} {T : Wood} {b o : Nat}, NodesIn F w xs T → (∀ j x, xs[j]? = some x → ∀ i v, x.cells[i]? = some v → w.cell? ⟨b, o + j * 5 + i, none⟩ = some v) → WoodAt F w T b o
  | [], .nil, _, _, _, _ => trivial
  | x :: xs, .cons op s mn mx k t, b, o, ⟨⟨h1, h2, h3⟩, h4, h5, h6⟩, hc => by
    subst h1; subst h2; subst h3
    refine ⟨⟨x.A, x.D, x.ns, x.cs, x.nk, x.ck, fun i v hv => ?_, h4, h5⟩, NodesIn.wood h6 fun j y hy i v hv => ?_⟩
    · have := hc 0 x rfl i v hv
      rwa [Nat.zero_mul, Nat.add_zero] at this
    · have := hc (j + 1) y (by simpa using hy) i v hv
      rwa [show o + (j + 1) * 5 + i = o + 5 + j * 5 + i by omega] at this
  | [], .cons .., _, _, h, _ => h.elim
  | _ :: _, .nil, _, _, h, _ => h.elim
end

/-- Made since B, and not the row's own block. -/
def Fr (B : Nat) (V : Value) (b : Nat) : Prop := B ≤ b ∧ V.ownBlock ≠ some b
theorem info_node : (Tryd.prog.info? 26).map (fun i => (i.zero, i.size, i.bytes)) = some (some (.agg #[.int .i64 0, .slice none 0 0, .int .i64 0, .int .i64 0, .slice none 0 0]), 5, 72) := by kernel_rfl
theorem row_cellsN {w : World} {B : Nat} {P : Option Addr} {q pc : Nat} {xs : List NV} (h : w.ownsRow B 26 5 (.slice P q pc) q (cellsN xs)) (hq : 0 < q) : ∃ b, P = some ⟨b, 0, none⟩ ∧ B ≤ b ∧ b < w.heap.size ∧ q = xs.length ∧ q ≤ pc ∧ pc ≤ maxLen ∧ ∀ j x, xs[j]? = some x → ∀ i v, x.cells[i]? = some v → w.cell? ⟨b, 0 + j * 5 + i, none⟩ = some v := by
  have hl := h.1
  rw [cellsN_length] at hl
  rcases h.2 with ⟨e, h0⟩ | ⟨g, cap, cur, e, hB, hg, hnc, hcm, hcs, ht⟩
  · omega
  · injection e with e1 _ e3
    subst e1; subst e3
    refine ⟨g, rfl, hB, (Array.getElem?_eq_some_iff.1 hg).1, by omega, hnc, hcm, fun j x hx i v hv => ?_⟩
    have hj : j < xs.length := (List.getElem?_eq_some_iff.1 hx).1
    have hi : i < 5 := (List.getElem?_eq_some_iff.1 hv).1
    have := cellsN_at xs j x hx i v hv
    rw [cell_of_row w g (0 + j * 5 + i) cur 26 (0, 0) hg, ← this, ← ht, List.getElem?_take_of_lt (by omega), Array.getElem?_toList, Nat.zero_add]
/-- A node behind those of a row. -/
theorem push_node {w : World} {B : Nat} {P : Option Addr} {q pc : Nat} {xs : List NV} {T n : Wood} {x : NV} (h : w.ownsRow B 26 5 (.slice P q pc) q (cellsN xs)) (hT : NodesIn (Fr B (.slice P q pc)) w xs T) (hx : NodesIn (Fr B (.slice P q pc)) w [x] n) (hq : q ≤ 100000) (hb : B ≤ w.heap.size) :
    ∃ P' pc' w', (Builtin.append_ #[24, 24] 24 #[.slice P q pc, .slice (some ⟨w.heap.size, 0, none⟩) 1 1]).run Tryd.prog (w.alloc (.cells x.cells.toArray 26)) = .ok (.slice P' (q + 1) pc') w' ∧
      w'.ownsRow B 26 5 (.slice P' (q + 1) pc') (q + 1) (cellsN (xs ++ [x])) ∧ NodesIn (Fr B (.slice P' (q + 1) pc')) w' (xs ++ [x]) (T.app n) ∧ Below B w w' := by
  obtain ⟨i0, hi, hz0, hz1, hz2⟩ := info_parts info_node
  obtain ⟨W, hW⟩ : ∃ W, W = w.alloc (.cells x.cells.toArray 26) := ⟨_, rfl⟩
  have hws : W.heap.size = w.heap.size + 1 := by rw [hW]; simp
  have hold : ∀ k, k < w.heap.size → W.heap[k]? = w.heap[k]? := fun k hk => by rw [hW]; exact Below.heap_alloc w _ k hk
  have hown : W.ownsRow B 26 5 (.slice P q pc) q (cellsN xs) := row_keep h fun k hk _ => hold k hk
  have hcells : ∀ j u, x.cells[j]? = some u → W.cell? ((⟨w.heap.size, 0, none⟩ : Addr).add j) = some u := by
    intro j u hu
    rw [show (⟨w.heap.size, 0, none⟩ : Addr).add j = ⟨w.heap.size, 0 + j, none⟩ by unfold Addr.add; split <;> simp_all, hW, cell_of_row _ w.heap.size (0 + j) _ 26 (0, 0) (heap_alloc_new w _), Nat.zero_add]
    simpa using hu
  obtain ⟨V', w', h1, h2, h3, _, h4⟩ := run_append_own_at (P := Tryd.prog) W B 24 24 26 i0 _ 5 72 Tryd.underlying24 hi hz0 hz1 hz2 rfl (by decide) _ q _ hown ⟨w.heap.size, 0, none⟩ 1 1 x.cells rfl hcells x.cells_one (by unfold maxLen; omega) (by omega) (by omega)
  have hbW : Below B w W := by rw [hW]; exact (Below.refl _ _).alloc hb _
  have hb' : Below B w w' := hbW.grown h3 (by omega) (by intro k hk; exact (row_lt hown hk).1)
  have key : ∀ b, Fr B (.slice P q pc) b → b < w.heap.size → Fr B V' b ∧ w'.heap[b]? = w.heap[b]? := by
    intro b hF hlt
    refine ⟨⟨hF.1, fun e => ?_⟩, (h3.block b (by omega) fun e => hF.2 e.symm).trans (hold b hlt)⟩
    rcases h4 with h4 | h4
    · exact hF.2 (h4 ▸ e)
    · rw [h4] at e
      injection e with e
      omega
  have hsz : w.heap.size ≤ w'.heap.size := Nat.le_trans (by omega) h3.size
  have hN : NodesIn (Fr B V') w' (xs ++ [x]) (T.app n) := (hT.move hsz key).app (hx.move hsz key)
  have e : cellsN xs ++ x.cells = cellsN (xs ++ [x]) := by rw [cellsN_append]; simp [cellsN]
  rw [e] at h2
  rcases h2.2 with ⟨rfl, h0⟩ | ⟨b, cap, cu, rfl, _⟩
  · omega
  · exact ⟨_, _, w', by rw [← hW]; exact h1, h2, hN, hb'⟩
theorem nilN (w : World) (B : Nat) : w.ownsRow B 26 5 (.slice none 0 0) 0 (cellsN []) := World.ownsRow_nil _ _ _ _

theorem oneN_one {op : Int} {T : Wood} (h : T.len = 1) : oneN op T = T := by
  obtain ⟨o, s, x, z, k, rfl⟩ := Wood.one_of_len h
  rfl
theorem oneN_more {op : Int} {T : Wood} (h : 2 ≤ T.len) : oneN op T = .cons op [] 0 0 T .nil := by
  match T, h with
  | .cons o s x z k (.cons ..), _ => rfl
  | .cons o s x z k .nil, h => simp [Wood.len] at h
  | .nil, h => simp [Wood.len] at h
theorem oneN_len (op : Int) (T : Wood) : (oneN op T).len = 1 := by
  match T with
  | .nil => rfl
  | .cons o s x z k .nil => rfl
  | .cons o s x z k (.cons ..) => rfl
theorem rowF_nil (F : Nat → Prop) (w : World) : RowF F w none 0 [] := ⟨RowG.nil_, fun _ _ h => absurd h (by omega)⟩
theorem kids_nil (F : Nat → Prop) (w : World) : KidsAt F w none 0 .nil := ⟨rfl, fun h => absurd h (by omega)⟩
/-- A node without ranges and kids. -/
theorem node_leaf (F : Nat → Prop) (w : World) (op : Int) : NodeIn F w (.agg #[.int .i64 op, .slice none 0 0, .int .i64 0, .int .i64 0, .slice none 0 0]) (leaf op []) :=
  ⟨op, [], 0, 0, .nil, none, none, 0, 0, 0, 0, rfl, rfl, rowF_nil F w, kids_nil F w⟩
/-- The cells of a block of one node. -/
theorem box_facts {w : World} {r : Nat} {v0 v1 v2 v3 v4 : Value} (h : w.heap[r]? = some (.cells #[v0, v1, v2, v3, v4] 26 (0, 0))) :
    w.cell? ⟨r, 0, none⟩ = some v0 ∧ w.cell? ⟨r, 1, none⟩ = some v1 ∧ w.cell? ⟨r, 2, none⟩ = some v2 ∧ w.cell? ⟨r, 3, none⟩ = some v3 ∧ w.cell? ⟨r, 4, none⟩ = some v4 ∧ ∀ j, w.frozen? ⟨r, j, none⟩ = false :=
  ⟨cell_of_row w r 0 _ _ (0, 0) h, cell_of_row w r 1 _ _ (0, 0) h, cell_of_row w r 2 _ _ (0, 0) h, cell_of_row w r 3 _ _ (0, 0) h, cell_of_row w r 4 _ _ (0, 0) h, fun j => by simp [World.frozen?, h]⟩
/-- A node is stored there. -/
def put5 (w : World) (r : Nat) (a b c d e : Value) : World := ((((w.setCell ⟨r, 0, none⟩ a).setCell ⟨r, 1, none⟩ b).setCell ⟨r, 2, none⟩ c).setCell ⟨r, 3, none⟩ d).setCell ⟨r, 4, none⟩ e
theorem put5_heap {w : World} {r : Nat} {v0 v1 v2 v3 v4 : Value} (h : w.heap[r]? = some (.cells #[v0, v1, v2, v3, v4] 26 (0, 0))) (a b c d e : Value) : (put5 w r a b c d e).heap[r]? = some (.cells #[a, b, c, d, e] 26 (0, 0)) :=
  heap_setCell_same _ r 4 _ _ _ (heap_setCell_same _ r 3 _ _ _ (heap_setCell_same _ r 2 _ _ _ (heap_setCell_same _ r 1 _ _ _ (heap_setCell_same _ r 0 _ _ _ h))))
theorem put5_below {B : Nat} (w : World) {r : Nat} (hr : B ≤ r) (a b c d e : Value) : Below B w (put5 w r a b c d e) :=
  (((((Below.refl B w).setCell (p := ⟨r, 0, none⟩) hr a).setCell (p := ⟨r, 1, none⟩) hr b).setCell (p := ⟨r, 2, none⟩) hr c).setCell (p := ⟨r, 3, none⟩) hr d).setCell (p := ⟨r, 4, none⟩) hr e
theorem put5_size (w : World) (r : Nat) (a b c d e : Value) : (put5 w r a b c d e).heap.size = w.heap.size := by simp [put5]
theorem put5_other (w : World) {r k : Nat} (hk : k ≠ r) (a b c d e : Value) : (put5 w r a b c d e).heap[k]? = w.heap[k]? :=
  ((((Below.heap_setCell _ _ _ _ hk).trans (Below.heap_setCell _ _ _ _ hk)).trans (Below.heap_setCell _ _ _ _ hk)).trans (Below.heap_setCell _ _ _ _ hk)).trans (Below.heap_setCell _ _ _ _ hk)
theorem rowF_own {w : World} {B : Nat} {P : Option Addr} {q pc : Nat} {s : List (Int × Int)} (h : w.ownsRow B 51 2 (.slice P q pc) q (cellsG s)) : RowF (fun b => B ≤ b) w P q s := by
  refine ⟨rowG_own9 h, fun b o hq hP => ?_⟩
  subst hP
  rcases h.2 with ⟨e, h0⟩ | ⟨g, cap, cur, e, hB, _⟩
  · injection e with e1 _ _; cases e1
  · injection e with e1 _ _
    injection e1 with e1
    injection e1 with e1 _ _
    subst e1
    exact hB

theorem RowF.below {F : Nat → Prop} {w w' : World} {A : Option Addr} {n : Nat} {s : List (Int × Int)} (h : RowF F w A n s) (hb : Below w.heap.size w w') : RowF F w' A n s := h.keep hb.size fun b _ hlt => hb.block b hlt
theorem put5_is (w : World) (r : Nat) (a b c d e : Value) : ((((w.setCell ⟨r, 0, none⟩ a).setCell ⟨r, 1, none⟩ b).setCell ⟨r, 2, none⟩ c).setCell ⟨r, 3, none⟩ d).setCell ⟨r, 4, none⟩ e = put5 w r a b c d e := rfl
end Go.Proofs.YtegcebgoiocakaaDoor
/- Nodes in a row that the call owns; the parser's join. -/
namespace Go.Proofs.YtegcebgoiocakaaDoor
open Go Go.RowKit
set_option linter.unusedVariables false
set_option maxRecDepth 20000

set_option maxHeartbeats 1000000 in
theorem join_any (op : Int) {w : World} {B : Nat} {P : Option Addr} {q pc : Nat} {xs : List NV} {T : Wood} (h : w.ownsRow B 26 5 (.slice P q pc) q (cellsN xs)) (hT : NodesIn (Fr B (.slice P q pc)) w xs T) (hq : q ≤ 100000) :
    Calls Tryd.prog 17 #[.int .i64 op, .slice P q pc] w fun e w' => ∃ v, e = .returned v ∧ NodeIn (fun b => B ≤ b) w' v (oneN op T) ∧ Below w.heap.size w w' := by
  have hl := hT.len
  have hq1 : xs.length = q := by have := h.1; rw [cellsN_length] at this; omega
  rcases Nat.lt_trichotomy q 1 with h0 | h0 | h0
  · have h0 : q = 0 := by omega
    subst h0
    have hx : xs = [] := List.eq_nil_of_length_eq_zero hq1
    subst hx
    have hTn : T = .nil := by
      match T, hT with
      | .nil, _ => rfl
    subst hTn
    clear h hT hl hq1
    go_enter Tryd.func17, Tryd.ntmps17
    go_wp2
    refine bodyPost_ret (v := .agg #[.int .i64 0, .slice none 0 0, .int .i64 0, .int .i64 0, .slice none 0 0]) ?_ rfl ⟨_, rfl, node_leaf _ _ 0, by go_grown⟩
    rw [cell1_result rfl]; go_simp
  · subst h0
    obtain ⟨b, rfl, hB, hb, -, -, -, hc⟩ := row_cellsN h (by omega)
    rcases xs with _ | ⟨x, _ | ⟨y, xs⟩⟩
    · simp at hq1
    · have HC := fun i v hv => hc 0 x rfl i v hv
      have c0 := HC 0 _ rfl
      have c1 := HC 1 _ rfl
      have c2 := HC 2 _ rfl
      have c3 := HC 3 _ rfl
      have c4 := HC 4 _ rfl
      have HN := Lib.hid (hT.move (F' := fun b => B ≤ b) (Nat.le_refl _) (fun b hF _ => ⟨hF.1, rfl⟩)).one
      have hon : oneN op T = T := oneN_one (by rw [hl]; rfl)
      rw [hon]
      simp only [Nat.zero_mul, Nat.zero_add, Nat.add_zero] at c0 c1 c2 c3 c4
      have up : ∀ (j : Nat) (v : Value) (o : Obj), w.cell? ⟨b, j, none⟩ = some v → (w.alloc o).cell? ⟨b, j, none⟩ = some v := fun j v o h => (((Below.refl w.heap.size w).alloc (Nat.le_refl _) o).cell (p := ⟨b, j, none⟩) hb).trans h
      have d0 := fun o => up _ _ o c0
      have d1 := fun o => up _ _ o c1
      have d2 := fun o => up _ _ o c2
      have d3 := fun o => up _ _ o c3
      have d4 := fun o => up _ _ o c4
      clear h hT hl hq1 hc HC hon up
      go_enter Tryd.func17, Tryd.ntmps17
      go_wp2
      refine bodyPost_ret (v := x.val) ?_ rfl ⟨_, rfl, HN.out.below (by go_grown), by go_grown⟩
      rw [cell1_result rfl]; go_simp
      rfl
    · simp at hq1
  · obtain ⟨b, rfl, hB, hb, -, -, -, hc⟩ := row_cellsN h (by omega)
    have hon : oneN op T = .cons op [] 0 0 T .nil := oneN_more (by omega)
    have HN := Lib.hid (show NodeIn (fun b => B ≤ b) w (.agg #[.int .i64 op, .slice none 0 0, .int .i64 0, .int .i64 0, .slice (some ⟨b, 0, none⟩) q pc]) (oneN op T) by
      rw [hon]
      exact ⟨op, [], 0, 0, T, none, some ⟨b, 0, none⟩, 0, 0, q, pc, rfl, rfl, rowF_nil _ w, by omega, fun _ => ⟨b, 0, rfl, hB, hb, ((hT.move (F' := fun b => B ≤ b) (Nat.le_refl _) (fun b hF _ => ⟨hF.1, rfl⟩)).wood hc)⟩⟩)
    have n0 : ((q : Int) == 0) = false := by simp; omega
    have n1 : ((q : Int) == 1) = false := by simp; omega
    clear h hT hl hq1 hc hon
    go_enter Tryd.func17, Tryd.ntmps17
    go_wp2
    refine bodyPost_ret (v := .agg #[.int .i64 op, .slice none 0 0, .int .i64 0, .int .i64 0, .slice (some ⟨b, 0, none⟩) q pc]) ?_ rfl ⟨_, rfl, HN.out.below (by go_grown), by go_grown⟩
    rw [cell1_result rfl]; go_simp
end Go.Proofs.YtegcebgoiocakaaDoor
/- The parser's class. -/
namespace Go.Proofs.YtegcebgoiocakaaDoor
open Go Go.RowKit
set_option linter.unusedVariables false
set_option maxRecDepth 20000

/-! ### Parts have ranges -/
theorem escL_some {r : Int} {s : List (Int × Int)} {is : Bool} (h : escL r = some (s, is)) : 0 < s.length := by
  unfold escL at h
  split at h
  · rename_i hr
    injection h with h; injection h with h1 h2
    subst h1
    rcases hr with rfl | rfl | rfl <;> decide
  split at h
  · rename_i hr
    injection h with h; injection h with h1 h2
    subst h1
    rcases hr with rfl | rfl | rfl
    · rw [show (68 : Int) + 32 = 100 from rfl, setOf_digits]; decide
    · rw [show (87 : Int) + 32 = 119 from rfl, setOf_words]; decide
    · rw [show (83 : Int) + 32 = 115 from rfl, setOf_spaces]; decide
  split at h
  · injection h with h; injection h with h1 h2; subst h1; simp
  split at h
  · injection h with h; injection h with h1 h2; subst h1; simp
  split at h
  · injection h with h; injection h with h1 h2; subst h1; simp
  split at h
  · injection h with h; injection h with h1 h2; subst h1; simp
  · cases h
theorem ptL_some {l r : List Int} {s : List (Int × Int)} {is : Bool} (h : ptL l = some (s, is, r)) : 0 < s.length ∧ s.length ≤ 5 := by
  rcases l with _ | ⟨x, l⟩
  · cases h
  unfold ptL at h
  dsimp only at h
  split at h
  · cases h
  split at h
  · rcases l with _ | ⟨e, l⟩
    · cases h
    · dsimp only at h
      obtain ⟨⟨s', b⟩, he, h⟩ := Option.map_eq_some_iff.1 h
      injection h with h _
      simp only at h
      subst h
      exact ⟨escL_some he, (escL_is he).2.1⟩
  · injection h with h; injection h with h _; subst h; simp
theorem partL_some {l r : List Int} {s : List (Int × Int)} (h : partL l = some (s, r)) : 0 < s.length ∧ s.length ≤ 5 := by
  unfold partL at h
  split at h
  · cases h
  · rename_i s1 is l1 h1
    split at h
    · split at h
      · split at h
        · split at h
          · cases h
          · injection h with h; injection h with h _; subst h; simp
        · cases h
      · injection h with h; injection h with h _; subst h; exact ptL_some h1
    · injection h with h; injection h with h _; subst h; exact ptL_some h1

/-- What is left of a class, with what there is of it. -/
def PAt (R : Option (List (Int × Int) × List Int)) (l : List Int) (xs : List (Int × Int)) : Prop := ∃ f, l.length + 1 ≤ f ∧ R = partsL f l xs (decide (0 < xs.length))
theorem PAt.shut {R : Option (List (Int × Int) × List Int)} {l : List Int} {xs : List (Int × Int)} (h : PAt R (93 :: l) xs) (hx : 0 < xs.length) : R = some (xs, l) := by
  obtain ⟨f, hf, rfl⟩ := h
  obtain ⟨f, rfl⟩ : ∃ g, f = g + 1 := ⟨f - 1, by omega⟩
  rw [decide_eq_true hx]
  rfl
theorem PAt.none_ {R : Option (List (Int × Int) × List Int)} {l : List Int} {xs : List (Int × Int)} (h : PAt R l xs) (hno : ¬ (0 < xs.length ∧ l.headD (-1) = 93)) (hp : partL l = none) : R = none := by
  obtain ⟨f, hf, rfl⟩ := h
  obtain ⟨f, rfl⟩ : ∃ g, f = g + 1 := ⟨f - 1, by omega⟩
  rw [partsL_part f xs (by rw [decide_eq_true_iff]; rintro ⟨h1, h2⟩; exact hno ⟨h1, by rcases l with _ | ⟨x, l⟩ <;> simp_all⟩), hp]
theorem PAt.next {R : Option (List (Int × Int) × List Int)} {l l' : List Int} {xs s : List (Int × Int)} (h : PAt R l xs) (hno : ¬ (0 < xs.length ∧ l.headD (-1) = 93)) (hp : partL l = some (s, l')) : PAt R l' (xs ++ s) := by
  obtain ⟨f, hf, rfl⟩ := h
  obtain ⟨f, rfl⟩ : ∃ g, f = g + 1 := ⟨f - 1, by omega⟩
  have h1 := partL_lt hp
  refine ⟨f, by omega, ?_⟩
  rw [partsL_part f xs (by rw [decide_eq_true_iff]; rintro ⟨h1, h2⟩; exact hno ⟨h1, by rcases l with _ | ⟨x, l⟩ <;> simp_all⟩), hp]
  have h2 := (partL_some hp).1
  rw [decide_eq_true (show 0 < (xs ++ s).length by rw [List.length_append]; omega)]

/-- What class answers. -/
def ClassV (g : Nat) (R : Option (List (Int × Int) × List Int)) (w : World) (e : Ending) (w' : World) : Prop :=
  (∃ P q pc, e = .returned (.tuple #[.slice P q pc, .bool false]) ∧ R = none ∧ Off g w w') ∨
  (∃ P q pc s l', e = .returned (.tuple #[.slice P q pc, .bool true]) ∧ R = some (s, l') ∧ w'.ownsRow w.heap.size 51 2 (.slice P q pc) q (cellsG s) ∧ Rd w' g l' ∧ Off g w w')
set_option maxHeartbeats 4000000 in
theorem class_walk (F : FacesS) (neg : Bool) {l l0 : List Int} {w : World} {g : Nat} (h : Rd w g l) (hl0 : l0 = if l.headD (-1) = 94 then l.tail else l) (hneg : neg = decide (l.headD (-1) = 94)) (R : Option (List (Int × Int) × List Int)) (hR : PAt R l0 []) :
    Calls Tryd.prog 38 #[.pointer (some ⟨g, 0, none⟩)] w (ClassV g (R.map fun p => (setOf fun x => hasL p.1 x != neg, p.2)) w) := by
  have HT := Lib.hid (take_any (x := 94) (by decide) h)
  rw [← hneg, ← hl0] at HT
  have hg := h.lt
  have hlen : l0.length ≤ 1000 := by have := h.few; rw [hl0]; split <;> simp <;> omega
  have HR := Lib.hid hR
  clear h hl0 hneg hR
  go_enter Tryd.func38, Tryd.ntmps38
  go_wp2_with (go_at_call 16; (with_reducible refine HT.out.mono ?_); rintro e w1 ⟨rfl, hr, ho⟩; have HO := Lib.hid (And.intro hr ho); clear hr ho)
  go_loopw [5] (fun vs wr => ∃ (q pc : Nat) (P : Option Addr) (xs : List (Int × Int)) (lr : List Int), vs = .slice P q pc ∧
    Hid (q + 5 * lr.length ≤ 5 * l0.length ∧ wr.ownsRow w.heap.size 51 2 (.slice P q pc) q (cellsG xs) ∧ Rd wr g lr ∧ Off g w wr ∧ PAt R lr xs)) (fun _ wr => leftN wr g)
  case atStart => exact ⟨0, 0, none, [], l0, rfl, Lib.hid ⟨by omega, nilG _ _, HO.out.1, HO.out.2, HR.out⟩⟩
  case round =>
    obtain ⟨q, pc, P, xs, lr, rfl, H⟩ := hrel
    have hql : xs.length = q := by have := H.out.2.1.1; rw [cellsG_length] at this; omega
    have hq5 : q ≤ 5000 := by have := H.out.1; omega
    rcases Nat.eq_zero_or_pos q with h0 | h0
    · subst h0
      have HNO := Lib.hid (show ¬ (0 < xs.length ∧ lr.headD (-1) = 93) by rw [hql]; rintro ⟨h, _⟩; omega)
      rcases hpt : partL lr with _ | ⟨s, l'⟩
      · have HE := Lib.hid (H.out.2.2.2.2.none_ HNO.out hpt)
        have HPT := Lib.hid fun w (h : Rd w g lr) => show Calls Tryd.prog 45 #[.pointer (some ⟨g, 0, none⟩)] w fun e w' => ∃ V, e = .returned (.tuple #[V, .bool false]) ∧ Off g w w' from (part_any F h).mono fun e w' hv => by
          rcases hv with ⟨V, he, _, ho⟩ | ⟨P, q, pc, s, l', he, hp, _⟩
          · exact ⟨V, he, ho⟩
          · rw [hpt] at hp; cases hp
        clear hpt hql
        go_wp2_with (first
          | (go_at_call 45; (with_reducible refine (HPT.out _ H.out.2.2.1).mono ?_); rintro e w3 ⟨V, rfl, ho⟩; have HO3 := Lib.hid ho; clear ho))
        go_ret2
        refine .inl ⟨none, 0, 0, rfl, ?_, H.out.2.2.2.1.trans HO3.out⟩
        rw [HE.out]; rfl
      · have HE := Lib.hid (H.out.2.2.2.2.next HNO.out hpt)
        have hlt := partL_lt hpt
        obtain ⟨hs1, hs5⟩ := partL_some hpt
        have HPT := Lib.hid fun w (h : Rd w g lr) => show Calls Tryd.prog 45 #[.pointer (some ⟨g, 0, none⟩)] w fun e w' => ∃ P pc, e = .returned (.tuple #[.slice P s.length pc, .bool true]) ∧ w'.ownsRow w.heap.size 51 2 (.slice P s.length pc) s.length (cellsG s) ∧ Rd w' g l' ∧ Off g w w' from (part_any F h).mono fun e w' hv => by
          rcases hv with ⟨V, he, hp, ho⟩ | ⟨P, q, pc, s2, l2, he, hp, ho, hr, hf⟩
          · rw [hpt] at hp; cases hp
          · rw [hpt] at hp
            injection hp with hp; injection hp with e1 e2
            subst e1; subst e2
            have hq : q = s.length := by have := ho.1; rw [cellsG_length] at this; omega
            subst hq
            exact ⟨P, pc, he, ho, hr, hf⟩
        clear hpt hql
        go_wp2_with (first
          | (go_at_call 45; (with_reducible refine (HPT.out _ H.out.2.2.1).mono ?_); rintro e w3 ⟨P1, pc1, rfl, hw1, hr1, ho1⟩; have HO3 := Lib.hid (And.intro hw1 (And.intro hr1 ho1)); obtain ⟨A1, c1, ev, hrow, _⟩ := rowG_of_own hw1 rfl; injection ev with ev1 _ ev3; subst ev1; subst ev3; obtain ⟨P2, pc2, w4, ha, ho2, hb2⟩ := app_G (own_off (own_off H.out.2.1 hg (Off.refl _ _)) hg ho1) hrow (own_none hw1) (by omega) (by omega) (Nat.le_trans H.out.2.2.2.1.1.size ho1.1.size); have HA := Lib.hid ha; have HW := Lib.hid (And.intro ho2 hb2); clear hw1 hr1 ho1 hrow ha ho2 hb2)
          | (at_builtin; refine wpList_append_run rfl _ _ 23 rfl rfl _ _ _ _ rfl rfl HA.out ?_))
        refine ⟨⟨_, _, _, xs ++ s, l', rfl, Lib.hid ⟨by have := H.out.1; omega, by have := HW.out.1; rwa [Nat.zero_add] at this, HO3.out.2.1.keep HW.out.2 hg, (H.out.2.2.2.1.trans HO3.out.2.2).grown hg HW.out.2, HE.out⟩⟩, ?_⟩
        rw [(HO3.out.2.1.keep HW.out.2 hg).left, H.out.2.2.1.left]
        exact hlt
    · have hq0 : ((q : Int) == 0) = false := by simp; omega
      by_cases h93 : lr.headD (-1) = 93
      · rcases lr with _ | ⟨x, lr⟩
        · cases h93
        rw [List.headD_cons] at h93
        subst h93
        have HTK := Lib.hid (take_yes H.out.2.2.1)
        have HE := Lib.hid (H.out.2.2.2.2.shut (by omega))
        cases neg with
        | true =>
          have HN := Lib.hid fun w (h : RowG w P q xs) => F.no w P q pc xs h (by omega)
          clear hql
          go_wp2_with (first
            | (go_at_call 16; (with_reducible refine HTK.out.mono ?_); rintro e w2 ⟨rfl, hr, ho⟩; have HO2 := Lib.hid (And.intro hr ho); clear hr ho)
            | (go_at_call 36; (with_reducible refine (HN.out _ (rowG_own9 (own_off H.out.2.1 hg HO2.out.2))).mono ?_); rintro e w3 ⟨V, t, rfl, ho, hc, hm⟩; obtain ⟨P3, pc3, rfl, _⟩ := rowG_of_own ho.1 rfl; have HO3 := Lib.hid (And.intro ho (And.intro hc hm)); clear ho hc hm))
          go_ret2
          refine .inr ⟨P3, _, pc3, t, lr, rfl, ?_, row_base HO3.out.1.1 (fun k e => Nat.le_trans (H.out.2.2.2.1.trans HO2.out.2).1.size (row_lt HO3.out.1.1 e).1), HO2.out.1.below HO3.out.1.2, (H.out.2.2.2.1.trans HO2.out.2).trans (Off.of_below HO3.out.1.2 (Nat.lt_of_lt_of_le hg (H.out.2.2.2.1.trans HO2.out.2).1.size))⟩
          rw [HE.out]
          have ht : t = setOf fun x => hasL xs x != true := setOf_of HO3.out.2.1 fun r => by rw [HO3.out.2.2 r]; cases hasL xs r <;> simp
          rw [ht]
          rfl
        | false =>
          have HN := Lib.hid fun w (h : RowG w P q xs) => F.of w P q pc xs h (by omega)
          clear hql
          go_wp2_with (first
            | (go_at_call 16; (with_reducible refine HTK.out.mono ?_); rintro e w2 ⟨rfl, hr, ho⟩; have HO2 := Lib.hid (And.intro hr ho); clear hr ho)
            | (go_at_call 40; (with_reducible refine (HN.out _ (rowG_own9 (own_off H.out.2.1 hg HO2.out.2))).mono ?_); rintro e w3 ⟨V, t, rfl, ho, hc, hm⟩; obtain ⟨P3, pc3, rfl, _⟩ := rowG_of_own ho.1 rfl; have HO3 := Lib.hid (And.intro ho (And.intro hc hm)); clear ho hc hm))
          go_ret2
          refine .inr ⟨P3, _, pc3, t, lr, rfl, ?_, row_base HO3.out.1.1 (fun k e => Nat.le_trans (H.out.2.2.2.1.trans HO2.out.2).1.size (row_lt HO3.out.1.1 e).1), HO2.out.1.below HO3.out.1.2, (H.out.2.2.2.1.trans HO2.out.2).trans (Off.of_below HO3.out.1.2 (Nat.lt_of_lt_of_le hg (H.out.2.2.2.1.trans HO2.out.2).1.size))⟩
          rw [HE.out]
          have ht : t = setOf fun x => hasL xs x != false := setOf_of HO3.out.2.1 fun r => by rw [HO3.out.2.2 r]; exact (hasL_inR xs r).trans (by cases hasL xs r <;> simp)
          rw [ht]
          rfl
      · have HNO := Lib.hid (show ¬ (0 < xs.length ∧ lr.headD (-1) = 93) by rintro ⟨_, h⟩; exact h93 h)
        have HTK := Lib.hid (take_no H.out.2.2.1 h93)
        clear h93
        rcases hpt : partL lr with _ | ⟨s, l'⟩
        · have HE := Lib.hid (H.out.2.2.2.2.none_ HNO.out hpt)
          have HPT := Lib.hid fun w (h : Rd w g lr) => show Calls Tryd.prog 45 #[.pointer (some ⟨g, 0, none⟩)] w fun e w' => ∃ V, e = .returned (.tuple #[V, .bool false]) ∧ Off g w w' from (part_any F h).mono fun e w' hv => by
            rcases hv with ⟨V, he, _, ho⟩ | ⟨P, q, pc, s, l', he, hp, _⟩
            · exact ⟨V, he, ho⟩
            · rw [hpt] at hp; cases hp
          clear hpt hql
          go_wp2_with (first
            | (go_at_call 16; (with_reducible refine HTK.out.mono ?_); rintro e w2 ⟨rfl, rfl⟩)
            | (go_at_call 45; (with_reducible refine (HPT.out _ H.out.2.2.1).mono ?_); rintro e w3 ⟨V, rfl, ho⟩; have HO3 := Lib.hid ho; clear ho))
          go_ret2
          refine .inl ⟨none, 0, 0, rfl, ?_, H.out.2.2.2.1.trans HO3.out⟩
          rw [HE.out]; rfl
        · have HE := Lib.hid (H.out.2.2.2.2.next HNO.out hpt)
          have hlt := partL_lt hpt
          obtain ⟨hs1, hs5⟩ := partL_some hpt
          have HPT := Lib.hid fun w (h : Rd w g lr) => show Calls Tryd.prog 45 #[.pointer (some ⟨g, 0, none⟩)] w fun e w' => ∃ P pc, e = .returned (.tuple #[.slice P s.length pc, .bool true]) ∧ w'.ownsRow w.heap.size 51 2 (.slice P s.length pc) s.length (cellsG s) ∧ Rd w' g l' ∧ Off g w w' from (part_any F h).mono fun e w' hv => by
            rcases hv with ⟨V, he, hp, ho⟩ | ⟨P, q, pc, s2, l2, he, hp, ho, hr, hf⟩
            · rw [hpt] at hp; cases hp
            · rw [hpt] at hp
              injection hp with hp; injection hp with e1 e2
              subst e1; subst e2
              have hq : q = s.length := by have := ho.1; rw [cellsG_length] at this; omega
              subst hq
              exact ⟨P, pc, he, ho, hr, hf⟩
          clear hpt hql
          go_wp2_with (first
            | (go_at_call 16; (with_reducible refine HTK.out.mono ?_); rintro e w2 ⟨rfl, rfl⟩)
            | (go_at_call 45; (with_reducible refine (HPT.out _ H.out.2.2.1).mono ?_); rintro e w3 ⟨P1, pc1, rfl, hw1, hr1, ho1⟩; have HO3 := Lib.hid (And.intro hw1 (And.intro hr1 ho1)); obtain ⟨A1, c1, ev, hrow, _⟩ := rowG_of_own hw1 rfl; injection ev with ev1 _ ev3; subst ev1; subst ev3; obtain ⟨P2, pc2, w4, ha, ho2, hb2⟩ := app_G (own_off (own_off H.out.2.1 hg (Off.refl _ _)) hg ho1) hrow (own_none hw1) (by omega) (by omega) (Nat.le_trans H.out.2.2.2.1.1.size ho1.1.size); have HA := Lib.hid ha; have HW := Lib.hid (And.intro ho2 hb2); clear hw1 hr1 ho1 hrow ha ho2 hb2)
            | (at_builtin; refine wpList_append_run rfl _ _ 23 rfl rfl _ _ _ _ rfl rfl HA.out ?_))
          refine ⟨⟨_, _, _, xs ++ s, l', rfl, Lib.hid ⟨by have := H.out.1; omega, HW.out.1, HO3.out.2.1.keep HW.out.2 hg, (H.out.2.2.2.1.trans HO3.out.2.2).grown hg HW.out.2, HE.out⟩⟩, ?_⟩
          rw [(HO3.out.2.1.keep HW.out.2 hg).left, H.out.2.2.1.left]
          exact hlt
/-- A class. -/
theorem class_any (F : FacesS) {l : List Int} {w : World} {g : Nat} (h : Rd w g l) :
    Calls Tryd.prog 38 #[.pointer (some ⟨g, 0, none⟩)] w (ClassV g (classL l) w) := by
  by_cases h94 : l.headD (-1) = 94
  · rcases l with _ | ⟨x, l⟩
    · cases h94
    rw [List.headD_cons] at h94
    subst h94
    have := class_walk F true (l0 := l) h (by rfl) (by rfl) (partsL (l.length + 1) l [] false) ⟨_, Nat.le_refl _, rfl⟩
    have e : classL (94 :: l) = (partsL (l.length + 1) l [] false).map fun p => (setOf fun x => hasL p.1 x != true, p.2) := by
      show (partsL (l.length + 1) l [] false).map (fun p => (setOf fun x => !hasL p.1 x, p.2)) = _
      congr 1
      funext p
      congr 2
      funext x
      cases hasL p.1 x <;> rfl
    rw [e]
    exact this
  · have := class_walk F false (l0 := l) h (by rw [if_neg h94]) (by rw [decide_eq_false h94]) (partsL (l.length + 1) l [] false) ⟨_, Nat.le_refl _, rfl⟩
    have e : classL l = (partsL (l.length + 1) l [] false).map fun p => (setOf fun x => hasL p.1 x != false, p.2) := by
      have e1 : ∀ (s : List (Int × Int)), setOf (fun x => hasL s x) = setOf fun x => hasL s x != false := fun s => by congr 1; funext x; cases hasL s x <;> rfl
      unfold classL
      split
      · exact absurd rfl h94
      · congr 1; funext p; rw [e1]
    rw [e]
    exact this
end Go.Proofs.YtegcebgoiocakaaDoor
/- The document's number. -/
namespace Go.Proofs.YtegcebgoiocakaaDoor
open Go Go.RowKit
set_option linter.unusedVariables false
set_option maxRecDepth 20000

def numV (l : List Int) : Int × Int :=
  match numL l with
  | some (a, rest) => (a, (l.length : Int) - (rest.length : Int))
  | none => (0, 0)
theorem isDig_iff (r : Int) : isDig r = true ↔ 48 ≤ r ∧ r ≤ 57 := by unfold isDig; simp
theorem numV_nil : numV [] = (0, 0) := rfl
theorem numV_no {a : Int} {l : List Int} (h : ¬ (48 ≤ a ∧ a ≤ 57)) : numV (a :: l) = (0, 0) := by
  have hd : isDig a = false := by rw [← Bool.not_eq_true, isDig_iff]; exact h
  unfold numV
  rcases l with _ | ⟨b, l⟩ <;> simp [numL, hd]
theorem numV_one {a : Int} (h : 48 ≤ a ∧ a ≤ 57) : numV [a] = (a - 48, 1) := by
  have hd : isDig a = true := (isDig_iff a).2 h
  simp [numV, numL, hd]
theorem numV_oneb {a b : Int} {l : List Int} (h : 48 ≤ a ∧ a ≤ 57) (hb : ¬ (48 ≤ b ∧ b ≤ 57)) : numV (a :: b :: l) = (a - 48, 1) := by
  have hd : isDig a = true := (isDig_iff a).2 h
  have hd2 : isDig b = false := by rw [← Bool.not_eq_true, isDig_iff]; exact hb
  simp [numV, numL, hd, hd2]
  omega
theorem numV_two {a b : Int} {l : List Int} (h : 48 ≤ a ∧ a ≤ 57) (hb : 48 ≤ b ∧ b ≤ 57) : numV (a :: b :: l) = if 10 * (a - 48) + (b - 48) > 50 then (0, 0) else (10 * (a - 48) + (b - 48), 2) := by
  have hd : isDig a = true := (isDig_iff a).2 h
  have hd2 : isDig b = true := (isDig_iff b).2 hb
  by_cases hv : 10 * (a - 48) + (b - 48) > 50
  · simp [numV, numL, hd, hd2, hv]
  · simp [numV, numL, hd, hd2, hv]
    omega

end Go.Proofs.YtegcebgoiocakaaDoor
