/- Items: what they are in memory, their hits, two alike. -/
import Derived.Test.YtmpemcooianfiaaRec
import Derived.Deep.MidRow
import Derived.Laws.ResultCell
namespace Go.Proofs.Ytmpemcooianfiaa
open Go Go.RowKit
set_option linter.unusedVariables false
set_option maxRecDepth 20000

/-- An item: its numbers, its text, its hits (where they lie, and what they are), its error. -/
structure It where
  n : Int
  b : Int
  rn : Int
  ra : Int
  tx : ByteArray
  hA : Option Addr
  hm : Nat
  hc : Nat
  hs : List (Int × Int)
  e : Int
def It.cells (x : It) : List Value := [.int .i64 x.n, .int .i64 x.b, .int .i64 x.rn, .int .i64 x.ra, .string x.tx, .slice x.hA x.hm x.hc, .int .i64 x.e]
def It.val (x : It) : Value := .agg #[.int .i64 x.n, .int .i64 x.b, .int .i64 x.rn, .int .i64 x.ra, .string x.tx, .slice x.hA x.hm x.hc, .int .i64 x.e]
theorem It.wide (x : It) : x.cells.length = 7 ∧ ∀ u ∈ x.cells, u.oneCell' = true := by
  refine ⟨rfl, fun u hu => ?_⟩
  simp only [It.cells, List.mem_cons, List.not_mem_nil, or_false] at hu
  rcases hu with rfl | rfl | rfl | rfl | rfl | rfl | rfl <;> rfl
theorem wide_it (l : List It) : Wide 7 (l.map It.cells) := fun x hx => by
  obtain ⟨y, _, rfl⟩ := List.mem_map.1 hx
  exact y.wide
theorem info_item : (Try.prog.info? 36).map (fun i => (i.zero, i.size, i.bytes)) = some (some (.agg #[.int .i64 0, .int .i64 0, .int .i64 0, .int .i64 0, .string ⟨#[]⟩, .slice none 0 0, .int .i64 0]), 7, 80) := by kernel_rfl
theorem item_cells : Try.prog.cellsOf 36 = 7 := by kernel_rfl
theorem hit_cells : Try.prog.cellsOf 61 = 2 := by kernel_rfl
def hcells (p : Int × Int) : List Value := [.int .i64 p.1, .int .i64 p.2]
/-- An item's hits lie where it says. -/
def HitsAt (B : Nat) (w : World) (x : It) : Prop := ReadR B w x.hA x.hm 2 (x.hs.map hcells) ∧ (x.hA = none → x.hm = 0 ∧ x.hc = 0)
theorem HitsAt.below {B : Nat} {w w' : World} {x : It} (h : HitsAt B w x) (hb : Below w.heap.size w w') : HitsAt B w' x := ⟨h.1.below hb, h.2⟩
/-- Two items alike, wherever their hits lie. -/
def Like (x y : It) : Prop := x.n = y.n ∧ x.b = y.b ∧ x.rn = y.rn ∧ x.ra = y.ra ∧ x.tx = y.tx ∧ x.e = y.e ∧ x.hm = y.hm ∧ x.hs = y.hs
theorem Like.refl (x : It) : Like x x := ⟨rfl, rfl, rfl, rfl, rfl, rfl, rfl, rfl⟩
theorem take_snocW {α : Type} {l : List α} {k : Nat} {x : α} (h : l[k]? = some x) : l.take (k + 1) = l.take k ++ [x] := by
  obtain ⟨h1, h2⟩ := List.getElem?_eq_some_iff.1 h
  rw [List.take_succ_eq_append_getElem h1, h2]
theorem flat_set {s : Nat} : ∀ {xs : List (List Value)}, Wide s xs → ∀ {j : Nat} {x : List Value}, xs[j]? = some x → ∀ {i : Nat} (u : Value), i < s → xs.flatten.set (j * s + i) u = (xs.set j (x.set i u)).flatten
  | [], _, j, x, h, _, _, _ => by simp at h
  | y :: xs, h, 0, x, hx, i, u, hi => by
    simp only [List.getElem?_cons_zero, Option.some.injEq] at hx
    subst hx
    have hy := (h y (by simp)).1
    rw [List.flatten_cons, Nat.zero_mul, Nat.zero_add, List.set_append_left _ _ (by omega), List.set_cons_zero, List.flatten_cons]
  | y :: xs, h, j + 1, x, hx, i, u, hi => by
    have hy := (h y (by simp)).1
    have ih := flat_set (xs := xs) (fun z hz => h z (by simp [hz])) (j := j) (x := x) (by simpa using hx) u hi
    have e : (j + 1) * s + i = y.length + (j * s + i) := by rw [hy, Nat.add_mul]; omega
    rw [List.flatten_cons, e, List.set_append_right _ _ (by omega), Nat.add_sub_cancel_left, ih, List.set_cons_succ, List.flatten_cons]
theorem info_szW {t : TypeId} {z : Value} {n b : Nat} (h : (Try.prog.info? t).map (fun i => (i.zero, i.size, i.bytes)) = some (some z, n, b)) : (Try.prog.info? t).map (·.size) = some n := by
  cases hq : Try.prog.info? t with
  | none => rw [hq] at h; cases h
  | some i =>
    rw [hq] at h
    simp only [Option.map_some, Option.some.injEq, Prod.mk.injEq] at h ⊢
    exact h.2.1
theorem setCells_heap (b : Nat) (t : TypeId) : ∀ (vs : List Value) (pre post : List Value) (w : World), w.heap[b]? = some (.cells (pre ++ post).toArray t (0, 0)) → vs.length = post.length → (w.setCells b pre.length vs).heap[b]? = some (.cells (pre ++ vs).toArray t (0, 0))
  | [], pre, post, w, h, hl => by
    rw [List.eq_nil_of_length_eq_zero hl.symm] at h
    exact h
  | v :: r, pre, [], w, h, hl => by simp at hl
  | v :: r, pre, p :: post, w, h, hl => by
    have h1 := heap_setCell_same w b pre.length _ t v h
    rw [show (pre ++ p :: post).toArray.setIfInBounds pre.length v = ((pre ++ [v]) ++ post).toArray by
      apply Array.toList_inj.1
      rw [Array.toList_setIfInBounds]
      simp] at h1
    have h2 := setCells_heap b t r (pre ++ [v]) post _ h1 (by simpa using hl)
    rw [List.length_append, List.length_singleton, List.append_assoc] at h2
    exact h2
/-- An item is stored into a block that held one. -/
theorem wpList_store_item {ops : Array Oper} {rest : List Oper} {op : Oper} {a : Act} {w : World} {Q : Exit → Act → World → Prop} (hgd : op.guard = none) (x y : Operand) (ho : op.op = .store 36 x y) (G : Nat) (cs vs : List Value) (hx : a.eval x = .pointer (some ⟨G, 0, none⟩)) (hy : a.eval y = .agg vs.toArray)
    (hG : w.heap[G]? = some (.cells cs.toArray 36 (0, 0))) (hc : cs.length = 7) (hv : vs.length = 7) (hv1 : ∀ u ∈ vs, u.oneCell' = true) (h : ∀ w4, w4.heap[G]? = some (.cells vs.toArray 36 (0, 0)) → w.grownBy w4 (some G) → w4.heap.size = w.heap.size → wpList Try.prog ops Q rest (a.put op.dst undef) w4) : wpList Try.prog ops Q (op :: rest) a w := by
  refine wpList_store_mid hgd 36 x y ho G 0 vs.toArray hx hy (fun j hj => ?_) (by rw [info_szW info_item]; simp [hv]) (by simpa using hv1) ?_
  · have hj : j < 7 := by simpa [hv] using hj
    refine ⟨?_, by simp [World.frozen?, hG]⟩
    rw [cell_of_row w G _ _ _ (0, 0) hG, Array.getElem?_eq_getElem (by simp [hc]; omega)]
    rfl
  · have h1 := setCells_heap G 36 vs [] cs w hG (by rw [hv, hc])
    exact h _ h1 (setCells_kept _ _ _ _).1 (setCells_kept _ _ _ _).2

/-- The item that has a number, and nothing else. -/
def numIt (n : Int) : It := ⟨n, 0, 0, 0, ⟨#[]⟩, none, 0, 0, [], 0⟩
theorem num_hits (n : Int) (w : World) : HitsAt 0 w (numIt n) := ⟨ReadR.nil_ _ _ _ _, fun _ => ⟨rfl, rfl⟩⟩
end Go.Proofs.Ytmpemcooianfiaa
