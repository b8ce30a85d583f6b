/- Trees in plain words: rows of nodes, how great they are, how they are shown. -/
import Derived.Test.YtegcebgoiocakaaM02
import Derived.Test.YtegcebgoiocakaaM03
import Derived.Lib.ItoaNum
namespace Go.Proofs.Ytegcebgoiocakaa
open Go Go.RowKit
set_option linter.unusedVariables false

/-- A row of nodes: the first one's fields, its kids, and the nodes behind it. -/
inductive Wood where
  | nil
  | cons (op : Int) (set : List (Int × Int)) (mn mx : Int) (kids next : Wood)

namespace Wood
def len : Wood → Nat
  | nil => 0
  | cons _ _ _ _ _ x => x.len + 1
/-- How many nodes, the kids' too. -/
def size : Wood → Nat
  | nil => 0
  | cons _ _ _ _ k x => 1 + k.size + x.size
def app : Wood → Wood → Wood
  | nil, b => b
  | cons o s a z k x, b => cons o s a z k (x.app b)
/-- The j-th node alone. -/
def nth : Wood → Nat → Wood
  | nil, _ => nil
  | cons o s a z k _, 0 => cons o s a z k nil
  | cons _ _ _ _ _ x, j + 1 => x.nth j
/-- The first k nodes. -/
def take : Wood → Nat → Wood
  | nil, _ => nil
  | _, 0 => nil
  | cons o s a z k x, j + 1 => cons o s a z k (x.take j)
def same : Wood → Wood → Bool
  | nil, nil => true
  | cons o s a z k x, cons o' s' a' z' k' x' => (o == o' && (a == a' && (z == z' && (s == s' && (k.same k' && x.same x')))))
  | _, _ => false
/-- One node's depth below it. -/
def deep : Wood → Nat
  | nil => 0
  | cons _ _ _ _ k x => max (k.deep + 1) x.deep
/-- The greatest number of kids or ranges that a node has. -/
def wide : Wood → Nat
  | nil => 0
  | cons _ s _ _ k x => max (max k.len s.length) (max k.wide x.wide)

theorem same_iff : ∀ a b : Wood, a.same b = true ↔ a = b
  | nil, nil => by simp [same]
  | nil, cons .. => by simp [same]
  | cons .., nil => by simp [same]
  | cons o s a z k x, cons o' s' a' z' k' x' => by
    rw [same, Bool.and_eq_true, Bool.and_eq_true, Bool.and_eq_true, Bool.and_eq_true, Bool.and_eq_true, same_iff k k', same_iff x x']
    simp only [beq_iff_eq, cons.injEq]
    constructor
    · rintro ⟨h1, h2, h3, h4, h5, h6⟩; exact ⟨h1, h4, h2, h3, h5, h6⟩
    · rintro ⟨h1, h4, h2, h3, h5, h6⟩; exact ⟨h1, h2, h3, h4, h5, h6⟩
theorem same_refl (a : Wood) : a.same a = true := (same_iff a a).2 rfl
theorem same_len {a b : Wood} (h : a.len ≠ b.len) : a.same b = false := by
  cases hx : a.same b with
  | false => rfl
  | true => rw [(same_iff a b).1 hx] at h; exact absurd rfl h
theorem nth_len : ∀ (a : Wood) (j : Nat), j < a.len → (a.nth j).len = 1
  | nil, _, h => by simp [len] at h
  | cons .., 0, _ => rfl
  | cons _ _ _ _ _ x, j + 1, h => nth_len x j (by simp only [len] at h; omega)
theorem same_nth : ∀ (a b : Wood), a.len = b.len → (a.same b = true ↔ ∀ j, j < a.len → (a.nth j).same (b.nth j) = true)
  | nil, nil, _ => by simp [same, len]
  | nil, cons .., h => by simp [len] at h
  | cons .., nil, h => by simp [len] at h
  | cons o s a z k x, cons o' s' a' z' k' x', h => by
    have ih := same_nth x x' (by simp only [len] at h; omega)
    constructor
    · intro hs j hj
      rw [(same_iff _ _).1 hs]
      exact same_refl _
    · intro hj
      have h0 := hj 0 (by simp [len])
      have h1 := ih.2 fun j hx => hj (j + 1) (by simp only [len]; omega)
      rw [same_iff] at h0 h1 ⊢
      simp only [nth, cons.injEq] at h0
      obtain ⟨e1, e2, e3, e4, e5, _⟩ := h0
      rw [e1, e2, e3, e4, e5, h1]
theorem take_len : ∀ (a : Wood) (j : Nat), j ≤ a.len → (a.take j).len = j
  | nil, 0, _ => rfl
  | nil, _ + 1, h => by simp [len] at h
  | cons .., 0, _ => rfl
  | cons _ _ _ _ _ x, j + 1, h => by simp only [take, len]; rw [take_len x j (by simp only [len] at h; omega)]
theorem take_all : ∀ (a : Wood), a.take a.len = a
  | nil => rfl
  | cons _ _ _ _ _ x => by simp only [len, take]; rw [take_all x]
theorem take_zero : ∀ (a : Wood), a.take 0 = nil
  | nil => rfl
  | cons .. => rfl
theorem take_succ : ∀ (a : Wood) (j : Nat), j < a.len → a.take (j + 1) = (a.take j).app (a.nth j)
  | nil, _, h => by simp [len] at h
  | cons _ _ _ _ _ x, 0, _ => by simp only [take, app, nth, take_zero]
  | cons _ _ _ _ _ x, j + 1, h => by simp only [take, app, nth]; rw [← take_succ x j (by simp only [len] at h; omega)]
theorem size_app : ∀ a b : Wood, (a.app b).size = a.size + b.size
  | nil, b => by simp [app, size]
  | cons _ _ _ _ k x, b => by simp only [app, size]; rw [size_app x b]; omega
theorem len_app : ∀ a b : Wood, (a.app b).len = a.len + b.len
  | nil, b => by simp [app, len]
  | cons _ _ _ _ k x, b => by simp only [app, len]; rw [len_app x b]; omega
theorem app_nil : ∀ a : Wood, a.app nil = a
  | nil => rfl
  | cons _ _ _ _ k x => by simp only [app]; rw [app_nil x]
theorem app_assoc : ∀ a b c : Wood, (a.app b).app c = a.app (b.app c)
  | nil, _, _ => rfl
  | cons _ _ _ _ _ x, b, c => by simp only [app]; rw [app_assoc x b c]
theorem one_of_len : ∀ {a : Wood}, a.len = 1 → ∃ o s x z k, a = cons o s x z k nil
  | nil, h => by simp [len] at h
  | cons o s x z k nil, _ => ⟨o, s, x, z, k, rfl⟩
  | cons _ _ _ _ _ (cons ..), h => by simp [len] at h
end Wood

/-! ### How they are shown -/
def digB (n : Int) : ByteArray := ⟨(Lib.itoa n).toArray⟩
def strB (l : List UInt8) : ByteArray := ⟨l.toArray⟩
/-- One behind the other, with a text between. -/
def joinB (sep : ByteArray) : List ByteArray → ByteArray
  | [] => ByteArray.empty
  | [x] => x
  | x :: y :: l => x ++ (sep ++ joinB sep (y :: l))
theorem ba_assoc (a b c : ByteArray) : a ++ b ++ c = a ++ (b ++ c) := ByteArray.append_assoc
theorem ba_nil (a : ByteArray) : a ++ ByteArray.empty = a := ByteArray.append_empty
theorem nil_ba (a : ByteArray) : ByteArray.empty ++ a = a := ByteArray.empty_append
theorem joinB_snoc (sep y : ByteArray) : ∀ l : List ByteArray, joinB sep (l ++ [y]) = if l = [] then y else joinB sep l ++ sep ++ y
  | [] => rfl
  | [x] => by simp [joinB, ba_assoc]
  | x :: z :: l => by
    have ih := joinB_snoc sep y (z :: l)
    rw [if_neg (by simp)] at ih ⊢
    show x ++ (sep ++ joinB sep ((z :: l) ++ [y])) = _
    rw [ih]
    simp only [joinB, ba_assoc]
def rngB (p : Int × Int) : ByteArray := if p.2 = p.1 then digB p.1 else digB p.1 ++ (strB [45] ++ digB p.2)
def setB (s : List (Int × Int)) : ByteArray := joinB (strB [32]) (s.map rngB)
theorem setB_snoc (s : List (Int × Int)) (p : Int × Int) : setB (s ++ [p]) = if s = [] then rngB p else setB s ++ strB [32] ++ rngB p := by
  unfold setB
  rw [List.map_append, List.map_cons, List.map_nil, joinB_snoc]
  simp
/-- A node by its Op, with its kids' text. -/
def nodeB (op : Int) (s : List (Int × Int)) (mn mx : Int) (kids : ByteArray) : ByteArray :=
  if op = 0 then strB [101, 109, 112, 116, 121]
  else if op = 1 then strB [99, 104, 97, 114, 123] ++ setB s ++ strB [125]
  else if op = 2 then strB [98, 101, 103, 105, 110]
  else if op = 3 then strB [101, 110, 100]
  else if op = 4 then strB [99, 97, 116, 40] ++ kids ++ strB [41]
  else if op = 5 then strB [97, 108, 116, 40] ++ kids ++ strB [41]
  else if op = 6 then strB [114, 101, 112, 123] ++ digB mn ++ strB [32] ++ digB mx ++ strB [125, 40] ++ kids ++ strB [41]
  else strB [63]
def showW : Wood → List ByteArray
  | .nil => []
  | .cons op s mn mx k x => nodeB op s mn mx (joinB (strB [44]) (showW k)) :: showW x
def kidsB (k : Wood) : ByteArray := joinB (strB [44]) (showW k)
theorem showW_app : ∀ a b : Wood, showW (a.app b) = showW a ++ showW b
  | .nil, _ => rfl
  | .cons _ _ _ _ _ x, b => by simp only [Wood.app, showW]; rw [showW_app x b]; rfl
theorem showW_len : ∀ a : Wood, (showW a).length = a.len
  | .nil => rfl
  | .cons _ _ _ _ _ x => by simp only [showW, Wood.len, List.length_cons]; rw [showW_len x]
/-- One node's text. -/
def oneB (a : Wood) : ByteArray := kidsB a
theorem kidsB_take (a : Wood) (j : Nat) (h : j < a.len) : kidsB (a.take (j + 1)) = if j = 0 then oneB (a.nth j) else kidsB (a.take j) ++ strB [44] ++ oneB (a.nth j) := by
  have h1 := Wood.nth_len a j h
  obtain ⟨o, s, x, z, k, e⟩ := Wood.one_of_len h1
  unfold kidsB oneB
  rw [Wood.take_succ a j h, showW_app, e]
  simp only [showW]
  rw [joinB_snoc]
  have hl := showW_len (a.take j)
  rw [Wood.take_len a j (by omega)] at hl
  by_cases hj : j = 0
  · rw [if_pos hj, if_pos (List.eq_nil_of_length_eq_zero (by omega))]
    simp [kidsB, showW, joinB]
  · rw [if_neg hj, if_neg (by intro e2; rw [e2] at hl; simp at hl; omega)]
    simp [kidsB, showW, joinB]
end Go.Proofs.Ytegcebgoiocakaa
/- Trees as values: rows of nodes, and what they read as. -/
namespace Go.Proofs.Ytegcebgoiocakaa
open Go Go.RowKit
set_option linter.unusedVariables false
set_option maxRecDepth 20000

/-- A node's five values. -/
def nodeV (op : Int) (A : Option Addr) (ns cs : Nat) (mn mx : Int) (D : Option Addr) (nk ck : Nat) : List Value :=
  [.int .i64 op, .slice A ns cs, .int .i64 mn, .int .i64 mx, .slice D nk ck]
/-- A row of ranges all of whose blocks are of F. -/
def RowF (F : Nat → Prop) (w : World) (A : Option Addr) (n : Nat) (s : List (Int × Int)) : Prop := RowG w A n s ∧ ∀ b o, 0 < n → A = some ⟨b, o, none⟩ → F b
/-- A node's set, and room for its kids. -/
def RowCap (F : Nat → Prop) (w : World) (A : Option Addr) (n : Nat) (s : List (Int × Int)) (nk ck : Nat) : Prop := RowF F w A n s ∧ nk ≤ ck
/-- The row of nodes at block b from off o on (five cells each) reads as a; all its blocks are of F. -/
def WoodAt (F : Nat → Prop) (w : World) : Wood → Nat → Nat → Prop
  | .nil, _, _ => True
  | .cons op s mn mx k x, b, o =>
    (∃ (A D : Option Addr) (ns cs nk ck : Nat), (∀ j v, (nodeV op A ns cs mn mx D nk ck)[j]? = some v → w.cell? ⟨b, o + j, none⟩ = some v) ∧ RowCap F w A ns s nk ck ∧ k.len = nk ∧ (0 < nk → ∃ b' o', D = some ⟨b', o', none⟩ ∧ F b' ∧ b' < w.heap.size ∧ WoodAt F w k b' o')) ∧ WoodAt F w x b (o + 5)
/-- Kids at D. -/
def KidsAt (F : Nat → Prop) (w : World) (D : Option Addr) (nk : Nat) (k : Wood) : Prop :=
  k.len = nk ∧ (0 < nk → ∃ b o, D = some ⟨b, o, none⟩ ∧ F b ∧ b < w.heap.size ∧ WoodAt F w k b o)
/-- One node, as a value. -/
def NodeIn (F : Nat → Prop) (w : World) (v : Value) (T : Wood) : Prop :=
  ∃ (op : Int) (s : List (Int × Int)) (mn mx : Int) (k : Wood) (A D : Option Addr) (ns cs nk ck : Nat), T = .cons op s mn mx k .nil ∧ v = .agg #[.int .i64 op, .slice A ns cs, .int .i64 mn, .int .i64 mx, .slice D nk ck] ∧ RowCap F w A ns s nk ck ∧ KidsAt F w D nk k

section
variable {F F' : Nat → Prop} {w w' : World}
theorem RowF.keep {A : Option Addr} {n : Nat} {s : List (Int × Int)} (h : RowF F w A n s) (hs : w.heap.size ≤ w'.heap.size) (hk : ∀ b, F b → b < w.heap.size → w'.heap[b]? = w.heap[b]?) : RowF F w' A n s := by
  refine ⟨⟨h.1.1, fun hn => ?_⟩, h.2⟩
  obtain ⟨b, o, hA, hb, hc⟩ := h.1.2 hn
  have hh := hk b (h.2 b o hn hA) hb
  have hcell : ∀ j, w'.cell? ⟨b, j, none⟩ = w.cell? ⟨b, j, none⟩ := fun j => by simp only [World.cell?, hh]
  refine ⟨b, o, hA, by omega, fun j hj => ?_⟩
  rw [hcell, hcell]
  exact hc j hj
theorem RowF.mono {A : Option Addr} {n : Nat} {s : List (Int × Int)} (h : RowF F w A n s) (hf : ∀ b, F b → F' b) : RowF F' w A n s := ⟨h.1, fun b o hn hA => hf b (h.2 b o hn hA)⟩
theorem RowCap.keep {A : Option Addr} {n nk ck : Nat} {s : List (Int × Int)} (h : RowCap F w A n s nk ck) (hs : w.heap.size ≤ w'.heap.size) (hk : ∀ b, F b → b < w.heap.size → w'.heap[b]? = w.heap[b]?) : RowCap F w' A n s nk ck := ⟨h.1.keep hs hk, h.2⟩
theorem RowCap.mono {A : Option Addr} {n nk ck : Nat} {s : List (Int × Int)} (h : RowCap F w A n s nk ck) (hf : ∀ b, F b → F' b) : RowCap F' w A n s nk ck := ⟨h.1.mono hf, h.2⟩
theorem WoodAt.keep (hs : w.heap.size ≤ w'.heap.size) (hk : ∀ b, F b → b < w.heap.size → w'.heap[b]? = w.heap[b]?) : ∀ {T : Wood} {b o : Nat}, WoodAt F w T b o → (T.len = 0 ∨ (F b ∧ b < w.heap.size)) → WoodAt F w' T b o
  | .nil, _, _, _, _ => trivial
  | .cons op s mn mx k x, b, o, ⟨⟨A, D, ns, cs, nk, ck, h1, h2, h3, h4⟩, h5⟩, hb => by
    have hb : F b ∧ b < w.heap.size := by
      rcases hb with hb | hb
      · simp [Wood.len] at hb
      · exact hb
    have hh := hk b hb.1 hb.2
    have hcell : ∀ j, w'.cell? ⟨b, j, none⟩ = w.cell? ⟨b, j, none⟩ := fun j => by simp only [World.cell?, hh]
    refine ⟨⟨A, D, ns, cs, nk, ck, fun j v hv => by rw [hcell]; exact h1 j v hv, h2.keep hs hk, h3, fun hn => ?_⟩, WoodAt.keep hs hk h5 (.inr hb)⟩
    obtain ⟨b', o', hD, hF, hlt, hw⟩ := h4 hn
    exact ⟨b', o', hD, hF, by omega, WoodAt.keep hs hk hw (.inr ⟨hF, hlt⟩)⟩
theorem WoodAt.mono (hf : ∀ b, F b → F' b) : ∀ {T : Wood} {b o : Nat}, WoodAt F w T b o → WoodAt F' w T b o
  | .nil, _, _, _ => trivial
  | .cons op s mn mx k x, b, o, ⟨⟨A, D, ns, cs, nk, ck, h1, h2, h3, h4⟩, h5⟩ => by
    refine ⟨⟨A, D, ns, cs, nk, ck, h1, h2.mono hf, h3, fun hn => ?_⟩, WoodAt.mono hf h5⟩
    obtain ⟨b', o', hD, hF, hlt, hw⟩ := h4 hn
    exact ⟨b', o', hD, hf _ hF, hlt, WoodAt.mono hf hw⟩
theorem KidsAt.keep {D : Option Addr} {nk : Nat} {k : Wood} (h : KidsAt F w D nk k) (hs : w.heap.size ≤ w'.heap.size) (hk : ∀ b, F b → b < w.heap.size → w'.heap[b]? = w.heap[b]?) : KidsAt F w' D nk k := by
  refine ⟨h.1, fun hn => ?_⟩
  obtain ⟨b, o, hD, hF, hlt, hw⟩ := h.2 hn
  exact ⟨b, o, hD, hF, by omega, hw.keep hs hk (.inr ⟨hF, hlt⟩)⟩
theorem KidsAt.mono {D : Option Addr} {nk : Nat} {k : Wood} (h : KidsAt F w D nk k) (hf : ∀ b, F b → F' b) : KidsAt F' w D nk k := by
  refine ⟨h.1, fun hn => ?_⟩
  obtain ⟨b, o, hD, hF, hlt, hw⟩ := h.2 hn
  exact ⟨b, o, hD, hf _ hF, hlt, hw.mono hf⟩
theorem NodeIn.keep {v : Value} {T : Wood} (h : NodeIn F w v T) (hs : w.heap.size ≤ w'.heap.size) (hk : ∀ b, F b → b < w.heap.size → w'.heap[b]? = w.heap[b]?) : NodeIn F w' v T := by
  obtain ⟨op, s, mn, mx, k, A, D, ns, cs, nk, ck, h1, h2, h3, h4⟩ := h
  exact ⟨op, s, mn, mx, k, A, D, ns, cs, nk, ck, h1, h2, h3.keep hs hk, h4.keep hs hk⟩
theorem NodeIn.below {v : Value} {T : Wood} (h : NodeIn F w v T) (hb : Below w.heap.size w w') : NodeIn F w' v T := h.keep hb.size fun b _ hlt => hb.block b hlt
theorem NodeIn.mono {v : Value} {T : Wood} (h : NodeIn F w v T) (hf : ∀ b, F b → F' b) : NodeIn F' w v T := by
  obtain ⟨op, s, mn, mx, k, A, D, ns, cs, nk, ck, h1, h2, h3, h4⟩ := h
  exact ⟨op, s, mn, mx, k, A, D, ns, cs, nk, ck, h1, h2, h3.mono hf, h4.mono hf⟩
/-- A node of a row, as a value: its five cells. -/
theorem WoodAt.nth : ∀ {T : Wood} {b o j : Nat}, WoodAt F w T b o → j < T.len → ∃ (op : Int) (s : List (Int × Int)) (mn mx : Int) (k : Wood) (A D : Option Addr) (ns cs nk ck : Nat), T.nth j = .cons op s mn mx k .nil ∧ (∀ i v, (nodeV op A ns cs mn mx D nk ck)[i]? = some v → w.cell? ⟨b, o + j * 5 + i, none⟩ = some v) ∧ RowCap F w A ns s nk ck ∧ KidsAt F w D nk k
  | .nil, _, _, _, _, h => by simp [Wood.len] at h
  | .cons op s mn mx k x, b, o, 0, ⟨⟨A, D, ns, cs, nk, ck, h1, h2, h3, h4⟩, h5⟩, _ => ⟨op, s, mn, mx, k, A, D, ns, cs, nk, ck, rfl, fun i v hv => by rw [Nat.zero_mul, Nat.add_zero]; exact h1 i v hv, h2, h3, h4⟩
  | .cons op s mn mx k x, b, o, j + 1, ⟨_, h5⟩, h => by
    obtain ⟨op', s', mn', mx', k', A, D, ns, cs, nk, ck, e, h1, h2, h3⟩ := WoodAt.nth (j := j) h5 (by simp only [Wood.len] at h; omega)
    refine ⟨op', s', mn', mx', k', A, D, ns, cs, nk, ck, e, fun i v hv => ?_, h2, h3⟩
    rw [show o + (j + 1) * 5 + i = o + 5 + j * 5 + i by omega]
    exact h1 i v hv
/-- The five cells, one by one. -/
theorem node_cells {b o : Nat} {op mn mx : Int} {A D : Option Addr} {ns cs nk ck : Nat} (h : ∀ i v, (nodeV op A ns cs mn mx D nk ck)[i]? = some v → w.cell? ⟨b, o + i, none⟩ = some v) :
    w.cell? ⟨b, o, none⟩ = some (.int .i64 op) ∧ w.cell? ⟨b, o + 1, none⟩ = some (.slice A ns cs) ∧ w.cell? ⟨b, o + 2, none⟩ = some (.int .i64 mn) ∧ w.cell? ⟨b, o + 3, none⟩ = some (.int .i64 mx) ∧ w.cell? ⟨b, o + 4, none⟩ = some (.slice D nk ck) :=
  ⟨h 0 _ rfl, h 1 _ rfl, h 2 _ rfl, h 3 _ rfl, h 4 _ rfl⟩
end

/-- A node that a call has boxed: its cells stay. -/
theorem box_cell {W wr : World} {cs : Array Value} {t : TypeId} (hb : Below (W.alloc (.cells cs t)).heap.size (W.alloc (.cells cs t)) wr) (j : Nat) : wr.cell? ⟨W.heap.size, j, none⟩ = cs[j]? := by
  rw [hb.cell (p := ⟨W.heap.size, j, none⟩) (by simp), cell_of_row _ W.heap.size j _ _ (0, 0) (heap_alloc_new W _)]
theorem KidsAt.below {F : Nat → Prop} {w w' : World} {D : Option Addr} {nk : Nat} {k : Wood} (h : KidsAt F w D nk k) (hb : Below w.heap.size w w') : KidsAt F w' D nk k := h.keep hb.size fun b _ hlt => hb.block b hlt
/-- What is boxed, with names for the world and the block. -/
theorem box_world (W : World) (cs : Array Value) (t : TypeId) : ∃ (W1 : World) (g : Nat), W1 = W.alloc (.cells cs t) ∧ g = W.heap.size ∧ Below W.heap.size W W1 ∧ W.heap.size ≤ W1.heap.size ∧ ∀ wr, Below W1.heap.size W1 wr → (∀ j, wr.cell? ⟨g, j, none⟩ = cs[j]?) ∧ Below W.heap.size W wr :=
  ⟨_, _, rfl, rfl, (Below.refl _ _).alloc (Nat.le_refl _) _, by simp, fun wr hb => ⟨fun j => box_cell hb j, ((Below.refl _ _).alloc (Nat.le_refl _) _).trans (hb.mono (by simp))⟩⟩
theorem len_size : ∀ a : Wood, a.len ≤ a.size
  | .nil => Nat.le_refl _
  | .cons _ _ _ _ _ x => by have := len_size x; simp only [Wood.len, Wood.size]; omega
/-- A kid, as a value, with its cells. -/
theorem KidsAt.kid {F : Nat → Prop} {w : World} {D : Option Addr} {nk : Nat} {k : Wood} (h : KidsAt F w D nk k) {j : Nat} (hj : j < nk) : ∃ (b o : Nat) (op : Int) (s : List (Int × Int)) (mn mx : Int) (k' : Wood) (A' D' : Option Addr) (ns cs nk' ck' : Nat), D = some ⟨b, o, none⟩ ∧ b < w.heap.size ∧ k.nth j = .cons op s mn mx k' .nil ∧
    w.cell? ⟨b, o + j * 5, none⟩ = some (.int .i64 op) ∧ w.cell? ⟨b, o + j * 5 + 1, none⟩ = some (.slice A' ns cs) ∧ w.cell? ⟨b, o + j * 5 + 2, none⟩ = some (.int .i64 mn) ∧ w.cell? ⟨b, o + j * 5 + 3, none⟩ = some (.int .i64 mx) ∧ w.cell? ⟨b, o + j * 5 + 4, none⟩ = some (.slice D' nk' ck') ∧
    NodeIn F w (.agg #[.int .i64 op, .slice A' ns cs, .int .i64 mn, .int .i64 mx, .slice D' nk' ck']) (k.nth j) := by
  obtain ⟨b, o, hD, _, hlt, hw⟩ := h.2 (by omega)
  obtain ⟨op, s, mn, mx, k', A', D', ns, cs, nk', ck', e, hc, hr, hk⟩ := hw.nth (j := j) (by rw [h.1]; exact hj)
  obtain ⟨c0, c1, c2, c3, c4⟩ := node_cells hc
  exact ⟨b, o, op, s, mn, mx, k', A', D', ns, cs, nk', ck', hD, hlt, e, c0, c1, c2, c3, c4, op, s, mn, mx, k', A', D', ns, cs, nk', ck', e, rfl, hr, hk⟩

/-! ### Sizes -/
/-- Nodes and ranges together. -/
def heavy : Wood → Nat
  | .nil => 0
  | .cons _ s _ _ k x => 1 + s.length + heavy k + heavy x
theorem heavy_nth : ∀ (a : Wood) (j : Nat), j < a.len → heavy (a.nth j) ≤ heavy a
  | .nil, _, h => by simp [Wood.len] at h
  | .cons .., 0, _ => by simp only [Wood.nth, heavy]; omega
  | .cons _ _ _ _ _ x, j + 1, h => by
    have := heavy_nth x j (by simp only [Wood.len] at h; omega)
    simp only [Wood.nth, heavy]; omega
theorem len_heavy : ∀ a : Wood, a.len ≤ heavy a
  | .nil => Nat.le_refl _
  | .cons _ _ _ _ _ x => by have := len_heavy x; simp only [Wood.len, heavy]; omega
theorem size_heavy : ∀ a : Wood, a.size ≤ heavy a
  | .nil => Nat.le_refl _
  | .cons _ _ _ _ k x => by have := size_heavy x; have := size_heavy k; simp only [Wood.size, heavy]; omega
end Go.Proofs.Ytegcebgoiocakaa
/- Patterns in plain words, over code points: sets, tokens, trees. -/
namespace Go.Proofs.Ytegcebgoiocakaa
open Go Go.RowKit
set_option linter.unusedVariables false

/-! ### The set of the numbers that a test says -/
def setGo (f : Int → Bool) : Nat → List (Int × Int)
  | 0 => []
  | k + 1 =>
    if f (1114112 - ((k + 1 : Nat) : Int)) = true then
      match setGo f k with
      | [] => [(1114112 - ((k + 1 : Nat) : Int), 1114112 - ((k + 1 : Nat) : Int))]
      | p :: s => if p.1 = 1114112 - ((k + 1 : Nat) : Int) + 1 then (1114112 - ((k + 1 : Nat) : Int), p.2) :: s else (1114112 - ((k + 1 : Nat) : Int), 1114112 - ((k + 1 : Nat) : Int)) :: p :: s
    else setGo f k
theorem setGo_is (f : Int → Bool) : ∀ k : Nat, k ≤ 1114112 → CanonF (1114112 - (k : Int)) (setGo f k) ∧ ∀ r, hasL (setGo f k) r = (decide (1114112 - (k : Int) ≤ r ∧ r ≤ 1114111) && f r)
  | 0, _ => ⟨trivial, fun r => by rw [setGo, hasL_nil, decide_eq_false (by omega), Bool.false_and]⟩
  | k + 1, hk => by
    obtain ⟨h1, h2⟩ := setGo_is f k (by omega)
    rw [setGo]
    obtain ⟨L, hL⟩ : ∃ L : Int, L = 1114112 - ((k + 1 : Nat) : Int) := ⟨_, rfl⟩
    have e : (1114112 : Int) - (k : Int) = L + 1 := by omega
    rw [← hL]
    rw [e] at h1 h2
    have hL0 : 0 ≤ L ∧ L ≤ 1114111 := by omega
    obtain ⟨t, ht⟩ : ∃ t, t = setGo f k := ⟨_, rfl⟩
    rw [← ht] at h1 h2 ⊢
    clear ht
    by_cases hf : f L = true
    · rw [if_pos hf]
      have done : ∀ u, CanonF L u → (∀ r, hasL u r = (decide (r = L) || hasL t r)) → CanonF L u ∧ ∀ r, hasL u r = (decide (L ≤ r ∧ r ≤ 1114111) && f r) := by
        intro u hu hm
        refine ⟨hu, fun r => ?_⟩
        rw [hm r, h2 r]
        by_cases hr : r = L
        · subst hr
          rw [hf, decide_eq_true rfl, Bool.true_or, decide_eq_true (by omega), Bool.true_and]
        · rw [decide_eq_false hr, Bool.false_or]
          congr 1
          apply decide_eq_decide.2
          omega
      rcases t with _ | ⟨p, s⟩
      · refine done [(L, L)] ⟨Int.le_refl _, Int.le_refl _, hL0.2, trivial⟩ fun r => ?_
        rw [hasL_cons, hasL_nil, Bool.or_false, Bool.or_false]
        apply decide_eq_decide.2
        dsimp only
        omega
      · obtain ⟨q1, q2, q3, q4⟩ := h1
        by_cases hp : p.1 = L + 1
        · show CanonF L (if p.1 = L + 1 then _ else _) ∧ _
          dsimp only
          rw [if_pos hp]
          refine done ((L, p.2) :: s) ⟨Int.le_refl _, by dsimp only; omega, q3, q4⟩ fun r => ?_
          rw [hasL_cons, hasL_cons, ← Bool.or_assoc, ← Bool.decide_or]
          congr 1
          apply decide_eq_decide.2
          dsimp only
          omega
        · dsimp only
          rw [if_neg hp]
          refine done ((L, L) :: p :: s) ⟨Int.le_refl _, Int.le_refl _, hL0.2, by dsimp only; omega, q2, q3, q4⟩ fun r => ?_
          rw [hasL_cons]
          congr 1
          apply decide_eq_decide.2
          dsimp only
          omega
    · rw [if_neg hf]
      refine ⟨h1.mono (by omega), fun r => ?_⟩
      rw [h2 r]
      by_cases hr : r = L
      · subst hr
        rw [Bool.eq_false_iff.2 hf, Bool.and_false, Bool.and_false]
      · congr 1
        apply decide_eq_decide.2
        omega
/-- The set of the numbers from 0 to 10ffff for which f is true. -/
def setOf (f : Int → Bool) : List (Int × Int) := setGo f 1114112
theorem setOf_canon (f : Int → Bool) : Canon (setOf f) := (setGo_is f 1114112 (Nat.le_refl _)).1
theorem setOf_has (f : Int → Bool) (r : Int) : hasL (setOf f) r = (decide (0 ≤ r ∧ r ≤ 1114111) && f r) := (setGo_is f 1114112 (Nat.le_refl _)).2 r
attribute [irreducible] setOf
theorem setOf_one {f : Int → Bool} {s : List (Int × Int)} (hc : Canon s) (h : ∀ r, hasL s r = (decide (0 ≤ r ∧ r ≤ 1114111) && f r)) : s = setOf f :=
  canon_one hc (setOf_canon f) fun r => (h r).trans (setOf_has f r).symm

/-! ### Tokens -/
/-- A token: kind 0: one point of a set; 1: a bar, a parenthesis, a beginning, an end (r); 2: a count. -/
structure TokL where
  kind : Int
  r : Int
  set : List (Int × Int)
  mn : Int
  mx : Int
def tokC (s : List (Int × Int)) : TokL := ⟨0, 0, s, 0, 0⟩
def tokS (r : Int) : TokL := ⟨1, r, [], 0, 0⟩
def tokN (a b : Int) : TokL := ⟨2, 0, [], a, b⟩

def namedS (r : Int) : List (Int × Int) := if r = 100 then [(48, 57)] else if r = 119 then [(48, 57), (65, 90), (95, 95), (97, 122)] else if r = 115 then [(9, 13), (32, 32)] else []
/-- What stands for itself behind a backslash. -/
def signL : List Int := [46, 94, 36, 124, 40, 41, 91, 93, 123, 125, 42, 43, 63, 92, 45]
/-- What stands behind a backslash: its set; is it a point? -/
def escL (r : Int) : Option (List (Int × Int) × Bool) :=
  if r = 100 ∨ r = 119 ∨ r = 115 then some (namedS r, false)
  else if r = 68 ∨ r = 87 ∨ r = 83 then some (setOf fun x => !hasL (namedS (r + 32)) x, false)
  else if r = 110 then some ([(10, 10)], true)
  else if r = 114 then some ([(13, 13)], true)
  else if r = 116 then some ([(9, 9)], true)
  else if r ∈ signL then some ([(r, r)], true)
  else none
/-- A point of a class, and what is behind it. -/
def ptL : List Int → Option (List (Int × Int) × Bool × List Int)
  | [] => none
  | r :: l =>
    if r = 91 ∨ r = 93 ∨ r = 94 ∨ r = 45 then none
    else if r = 92 then
      match l with
      | [] => none
      | e :: l' => (escL e).map fun p => (p.1, p.2, l')
    else some ([(r, r)], true, l)
/-- A part of a class, and what is behind it. -/
def partL (l : List Int) : Option (List (Int × Int) × List Int) :=
  match ptL l with
  | none => none
  | some (s, is, l1) =>
    match l1 with
    | 45 :: l2 =>
      if is = true then
        match ptL l2 with
        | some (t, true, l3) => if (t.headD (0, 0)).1 < (s.headD (0, 0)).1 then none else some ([((s.headD (0, 0)).1, (t.headD (0, 0)).1)], l3)
        | _ => none
      else some (s, l1)
    | _ => some (s, l1)
/-- The parts of a class: at least one, up to its end. -/
def partsL : Nat → List Int → List (Int × Int) → Bool → Option (List (Int × Int) × List Int)
  | 0, _, _, _ => none
  | f + 1, l, all, more =>
    match more, l with
    | true, 93 :: l' => some (all, l')
    | _, _ =>
      match partL l with
      | none => none
      | some (s, l1) => partsL f l1 (all ++ s) true
/-- A class behind its bracket. -/
def classL (l : List Int) : Option (List (Int × Int) × List Int) :=
  match l with
  | 94 :: l' => (partsL (l'.length + 1) l' [] false).map fun p => (setOf fun x => !hasL p.1 x, p.2)
  | _ => (partsL (l.length + 1) l [] false).map fun p => (setOf fun x => hasL p.1 x, p.2)
def isDig (r : Int) : Bool := decide (48 ≤ r) && decide (r ≤ 57)
/-- One or two digits. -/
def numL (l : List Int) : Option (Int × List Int) :=
  match l with
  | a :: b :: l' =>
    if isDig a = true then
      if isDig b = true then
        if 10 * (a - 48) + (b - 48) > 50 then none else some (10 * (a - 48) + (b - 48), l')
      else some (a - 48, b :: l')
    else none
  | [a] => if isDig a = true then some (a - 48, []) else none
  | [] => none
/-- A count behind its brace. -/
def braceL (l : List Int) : Option (TokL × List Int) :=
  match numL l with
  | some (a, 125 :: l') => some (tokN a a, l')
  | some (a, 44 :: 125 :: l') => some (tokN a (-1), l')
  | some (a, 44 :: l') =>
    match numL l' with
    | some (b, 125 :: l'') => if b < a then none else some (tokN a b, l'')
    | _ => none
  | _ => none
/-- The first token, and what is behind it. -/
def tokL : List Int → Option (TokL × List Int)
  | [] => none
  | r :: l =>
    if r = 124 ∨ r = 40 ∨ r = 41 ∨ r = 94 ∨ r = 36 then some (tokS r, l)
    else if r = 42 then some (tokN 0 (-1), l)
    else if r = 43 then some (tokN 1 (-1), l)
    else if r = 63 then some (tokN 0 1, l)
    else if r = 123 then braceL l
    else if r = 46 then some (tokC [(0, 9), (11, 1114111)], l)
    else if r = 91 then (classL l).map fun p => (tokC p.1, p.2)
    else if r = 92 then
      match l with
      | [] => none
      | e :: l' => (escL e).map fun p => (tokC p.1, l')
    else if r = 93 ∨ r = 125 then none
    else some (tokC [(r, r)], l)
def toksL : Nat → List Int → Option (List TokL)
  | _, [] => some []
  | 0, _ :: _ => none
  | f + 1, r :: l =>
    match tokL (r :: l) with
    | none => none
    | some (t, l') => (toksL f l').map fun ts => t :: ts

/-! ### Trees -/
def leaf (op : Int) (s : List (Int × Int)) : Wood := .cons op s 0 0 .nil .nil
def zeroN : Wood := leaf 0 []
/-- One node, or more of them under an Op. -/
def oneN (op : Int) (l : Wood) : Wood :=
  match l with
  | .nil => zeroN
  | .cons o s a z k .nil => .cons o s a z k .nil
  | .cons o s a z k x => .cons op [] 0 0 (.cons o s a z k x) .nil
/-- The last node put under a count. -/
def repLast (mn mx : Int) : Wood → Wood
  | .nil => .nil
  | .cons o s a z k .nil => .cons 6 [] mn mx (.cons o s a z k .nil) .nil
  | .cons o s a z k x => .cons o s a z k (repLast mn mx x)
/-- Alternatives that are through. -/
def finN (alts pieces : Wood) : Wood := oneN 5 (alts.app (oneN 4 pieces))
/-- Tokens gone through one by one: what stands in open parentheses is kept for when they are closed. -/
def runT (D : Nat) : List TokL → List (Wood × Wood) → Wood → Wood → Bool → Option Wood
  | [], [], a, p, _ => some (finN a p)
  | [], _ :: _, _, _, _ => none
  | t :: l, st, a, p, loose =>
    if t.kind = 0 then runT D l st a (p.app (leaf 1 t.set)) true
    else if t.kind = 2 then (if loose = true then runT D l st a (repLast t.mn t.mx p) false else none)
    else if t.r = 124 then runT D l st (a.app (oneN 4 p)) .nil false
    else if t.r = 94 then runT D l st a (p.app (leaf 2 [])) false
    else if t.r = 36 then runT D l st a (p.app (leaf 3 [])) false
    else if t.r = 41 then
      match st with
      | [] => none
      | (a', p') :: st' => runT D l st' a' (p'.app (finN a p)) true
    else if D + st.length < 10 then runT D l ((a, p) :: st) .nil .nil false
    else none
/-- A pattern's tree, out of its code points. -/
def treeL (l : List Int) : Option Wood := (toksL l.length l).bind fun ts => runT 0 ts [] .nil .nil false
end Go.Proofs.Ytegcebgoiocakaa
/- The document's way to make a set between the ends of ranges, in plain words: it is the set. -/
namespace Go.Proofs.Ytegcebgoiocakaa
open Go Go.RowKit
set_option linter.unusedVariables false

/-! ### Ends in order -/
def insI : List Int → Int → List Int
  | [], e => [e]
  | x :: xs, e => if x < e then x :: insI xs e else if x = e then x :: xs else e :: x :: xs
def Asc (l : List Int) : Prop := l.Pairwise (· < ·)
theorem insI_mem (e r : Int) : ∀ l : List Int, r ∈ insI l e ↔ r ∈ l ∨ r = e
  | [] => by simp [insI]
  | x :: xs => by
    rw [insI]
    split
    · rw [List.mem_cons, insI_mem e r xs, List.mem_cons, or_assoc]
    · split
      · rename_i h; subst h
        constructor
        · exact .inl
        · rintro (h | rfl)
          · exact h
          · exact List.mem_cons_self
      · rw [List.mem_cons, Or.comm]
theorem insI_asc (e : Int) : ∀ l : List Int, Asc l → Asc (insI l e)
  | [], _ => by unfold Asc insI; simp
  | x :: xs, h => by
    unfold Asc at h ⊢
    rw [List.pairwise_cons] at h
    rw [insI]
    split
    · rw [List.pairwise_cons]
      refine ⟨fun r hr => ?_, insI_asc e xs h.2⟩
      rcases (insI_mem e r xs).1 hr with hr | rfl
      · exact h.1 r hr
      · assumption
    · split
      · rw [List.pairwise_cons]; exact h
      · rw [List.pairwise_cons, List.pairwise_cons]
        refine ⟨fun r hr => ?_, h⟩
        rcases List.mem_cons.1 hr with rfl | hr
        · omega
        · have := h.1 r hr; omega
def sortE (es : List Int) : List Int := es.foldl insI []
theorem foldl_ins (es : List Int) : ∀ l : List Int, Asc l → Asc (es.foldl insI l) ∧ ∀ r, r ∈ es.foldl insI l ↔ r ∈ l ∨ r ∈ es := by
  induction es with
  | nil => intro l h; exact ⟨h, fun r => by simp⟩
  | cons e es ih =>
    intro l h
    obtain ⟨h1, h2⟩ := ih (insI l e) (insI_asc e l h)
    refine ⟨h1, fun r => ?_⟩
    rw [List.foldl_cons, h2 r, insI_mem, List.mem_cons, or_assoc]
theorem sortE_asc (es : List Int) : Asc (sortE es) := (foldl_ins es [] List.Pairwise.nil).1
theorem sortE_mem (es : List Int) (r : Int) : r ∈ sortE es ↔ r ∈ es := by
  rw [sortE, (foldl_ins es [] List.Pairwise.nil).2 r]; simp
theorem sortE_snoc (es : List Int) (e : Int) : sortE (es ++ [e]) = insI (sortE es) e := by simp [sortE]
/-- Where e is put, by index. -/
theorem insI_at (e : Int) : ∀ (l : List Int) (k : Nat), k ≤ l.length → (∀ j (h : j < l.length), j < k → l[j] < e) → (∀ h : k < l.length, ¬ l[k] < e) → insI l e = if ∃ h : k < l.length, l[k] = e then l else l.take k ++ e :: l.drop k
  | [], k, hk, _, _ => by
    have : k = 0 := by simpa using hk
    subst this
    rw [if_neg (by rintro ⟨h, _⟩; simp at h)]
    rfl
  | x :: xs, 0, _, _, h2 => by
    have hx := h2 (by simp)
    rw [List.getElem_cons_zero] at hx
    rw [insI, if_neg hx]
    by_cases he : x = e
    · rw [if_pos he, if_pos ⟨by simp, by simpa using he⟩]
    · rw [if_neg he, if_neg (by rintro ⟨_, h⟩; exact he (by simpa using h))]
      rfl
  | x :: xs, k + 1, hk, h1, h2 => by
    have hx := h1 0 (by simp) (by omega)
    rw [List.getElem_cons_zero] at hx
    have ih := insI_at e xs k (by simpa using hk) (fun j h hj => by have := h1 (j + 1) (by simpa using h) (by omega); simpa using this) (fun h => by have := h2 (by simpa using h); simpa using this)
    rw [insI, if_pos hx, ih]
    by_cases hc : ∃ h : k < xs.length, xs[k] = e
    · rw [if_pos hc, if_pos (by obtain ⟨h, e1⟩ := hc; exact ⟨by simpa using h, by simpa using e1⟩)]
    · rw [if_neg hc, if_neg (by rintro ⟨h, e1⟩; exact hc ⟨by simpa using h, by simpa using e1⟩)]
      rfl

/-! ### What lies between neighbours -/
theorem nearT_mem (z r : Int) (h0 : 0 ≤ z) (h1 : z ≤ 1114111) : r ∈ nearT z 3 ↔ (r = z - 1 ∨ r = z ∨ r = z + 1) ∧ 0 ≤ r ∧ r ≤ 1114111 := by
  have hc : clampI z = z := by unfold clampI; rw [if_neg (by omega), if_neg (by omega)]
  have hm : ∀ (l : List Int) (P : Prop) [Decidable P] (v : Int), r ∈ l ++ (if P then [v] else []) ↔ r ∈ l ∨ (P ∧ r = v) := by
    intro l P _ v
    rw [List.mem_append]
    by_cases h : P
    · rw [if_pos h]; simp [h]
    · rw [if_neg h]; simp [h]
  rw [nearT, hm, nearT, hm, nearT, hm, nearT, hc]
  simp only [List.not_mem_nil, false_or]
  omega
theorem endsL_mem {s : List (Int × Int)} {p : Int × Int} (hp : p ∈ s) (hw : 0 ≤ p.1 ∧ p.1 ≤ p.2 ∧ p.2 ≤ 1114111) {r : Int} (hr : (r = p.1 - 1 ∨ r = p.1 ∨ r = p.2 ∨ r = p.2 + 1) ∧ 0 ≤ r ∧ r ≤ 1114111) : r ∈ endsL s := by
  unfold endsL
  rw [List.mem_append, List.mem_flatMap]
  refine .inr ⟨p, hp, ?_⟩
  show r ∈ nearT p.1 3 ++ nearT p.2 3
  rw [List.mem_append, nearT_mem _ _ hw.1 (by omega), nearT_mem _ _ (by omega) hw.2.2]
  omega
theorem endsL_in {s : List (Int × Int)} {r : Int} (h : r ∈ endsL s) : 0 ≤ r ∧ r ≤ 1114111 := by
  have hn : ∀ (z : Int) (j : Nat), r ∈ nearT z j → 0 ≤ r ∧ r ≤ 1114111 := by
    intro z j
    induction j with
    | zero => intro h; cases h
    | succ j ih =>
      intro h
      rw [nearT, List.mem_append] at h
      rcases h with h | h
      · exact ih h
      · split at h
        · rw [List.mem_singleton] at h; omega
        · cases h
  unfold endsL at h
  rw [List.mem_append, List.mem_flatMap] at h
  rcases h with h | ⟨p, _, h⟩
  · simp at h; omega
  · have h : r ∈ nearT p.1 3 ++ nearT p.2 3 := h
    rw [List.mem_append] at h
    rcases h with h | h
    · exact hn _ _ h
    · exact hn _ _ h
/-- Nothing of the ends lies between a and b: either they are neighbours, or all from a to b are alike. -/
theorem alike {s : List (Int × Int)} (hw : ∀ p ∈ s, 0 ≤ p.1 ∧ p.1 ≤ p.2 ∧ p.2 ≤ 1114111) {a b : Int} (ha : 0 ≤ a) (hb : b ≤ 1114111) (hab : a + 1 < b) (hno : ∀ r ∈ endsL s, r ≤ a ∨ b ≤ r) (r : Int) (h1 : a ≤ r) (h2 : r ≤ b) : hasL s r = hasL s a := by
  apply Bool.eq_iff_iff.2
  rw [hasL_iff, hasL_iff]
  have key : ∀ p ∈ s, (p.1 ≤ r ∧ r ≤ p.2 ∧ 0 ≤ r ∧ r ≤ 1114111) ↔ (p.1 ≤ a ∧ a ≤ p.2 ∧ 0 ≤ a ∧ a ≤ 1114111) := by
    intro p hp
    have hq := hw p hp
    have e1 := hno p.1 (endsL_mem hp hq ⟨by omega, by omega, by omega⟩)
    have e2 := hno p.2 (endsL_mem hp hq ⟨by omega, by omega, by omega⟩)
    have e3 : p.1 = 0 ∨ (p.1 - 1 ≤ a ∨ b ≤ p.1 - 1) := by
      rcases Int.lt_or_le 0 p.1 with h | h
      · exact .inr (hno (p.1 - 1) (endsL_mem hp hq ⟨by omega, by omega, by omega⟩))
      · exact .inl (by omega)
    have e4 : p.2 = 1114111 ∨ (p.2 + 1 ≤ a ∨ b ≤ p.2 + 1) := by
      rcases Int.lt_or_le p.2 1114111 with h | h
      · exact .inr (hno (p.2 + 1) (endsL_mem hp hq ⟨by omega, by omega, by omega⟩))
      · exact .inl (by omega)
    omega
  constructor
  · rintro ⟨p, hp, h⟩; exact ⟨p, hp, (key p hp).1 h⟩
  · rintro ⟨p, hp, h⟩; exact ⟨p, hp, (key p hp).2 h⟩
end Go.Proofs.Ytegcebgoiocakaa
/- The document's way to make a set between the ends of ranges: the second part, range by range. -/
namespace Go.Proofs.Ytegcebgoiocakaa
open Go Go.RowKit
set_option linter.unusedVariables false

theorem asc_lt {l : List Int} (h : Asc l) (i j : Nat) (hij : i < j) (hj : j < l.length) : l.getD i 0 < l.getD j 0 := by
  have := List.pairwise_iff_getElem.1 h i j (by omega) hj hij
  simpa [List.getD, List.getElem?_eq_getElem hj, List.getElem?_eq_getElem (show i < l.length by omega)] using this
theorem mem_getD {l : List Int} {r : Int} (h : r ∈ l) : ∃ i, i < l.length ∧ l.getD i 0 = r := by
  obtain ⟨i, hi, e⟩ := List.getElem_of_mem h
  exact ⟨i, hi, by simpa [List.getD, List.getElem?_eq_getElem hi] using e⟩
theorem getD_mem' {l : List Int} {i : Nat} (h : i < l.length) : l.getD i 0 ∈ l := by
  simp [List.getD, List.getElem?_eq_getElem h]
/-- Neighbours of the ends in order. -/
theorem asc_gap {l : List Int} (h : Asc l) {i : Nat} (hi : i + 1 < l.length) {r : Int} (hr : r ∈ l) : r ≤ l.getD i 0 ∨ l.getD (i + 1) 0 ≤ r := by
  obtain ⟨j, hj, rfl⟩ := mem_getD hr
  rcases Nat.lt_or_ge i j with h1 | h1
  · right
    rcases Nat.lt_or_ge (i + 1) j with h2 | h2
    · exact Int.le_of_lt (asc_lt h _ _ h2 hj)
    · rw [show j = i + 1 by omega]; exact Int.le_refl _
  · left
    rcases Nat.lt_or_ge j i with h2 | h2
    · exact Int.le_of_lt (asc_lt h _ _ h2 (by omega))
    · rw [show j = i by omega]; exact Int.le_refl _

section
variable {rs : List (Int × Int)} {neg : Bool}
/-- The ends in order: from 0 to 10ffff. -/
theorem ends_first (rs : List (Int × Int)) : 0 < (sortE (endsL rs)).length ∧ (sortE (endsL rs)).getD 0 0 = 0 ∧ (sortE (endsL rs)).getD ((sortE (endsL rs)).length - 1) 0 = 1114111 := by
  obtain ⟨l, hl⟩ : ∃ l, l = sortE (endsL rs) := ⟨_, rfl⟩
  have ha : Asc l := hl ▸ sortE_asc _
  have hm : ∀ r, r ∈ l ↔ r ∈ endsL rs := fun r => hl ▸ sortE_mem _ r
  rw [← hl]
  have h0 : (0 : Int) ∈ l := (hm 0).2 (by simp [endsL])
  have h1 : (1114111 : Int) ∈ l := (hm _).2 (by simp [endsL])
  obtain ⟨i, hi, e⟩ := mem_getD h0
  obtain ⟨j, hj, e'⟩ := mem_getD h1
  refine ⟨by omega, ?_, ?_⟩
  · rcases Nat.eq_zero_or_pos i with h | h
    · rw [h] at e; exact e
    · have := asc_lt ha 0 i h hi
      have := endsL_in ((hm _).1 (getD_mem' (show 0 < l.length by omega)))
      omega
  · rcases Nat.lt_or_ge j (l.length - 1) with h | h
    · have := asc_lt ha j (l.length - 1) h (by omega)
      have := endsL_in ((hm _).1 (getD_mem' (show l.length - 1 < l.length by omega)))
      omega
    · rw [show l.length - 1 = j by omega, e']

/-- What was gone through: the ends up to a. -/
def Mid (f : Int → Bool) (a : Int) (out : List (Int × Int)) : Prop :=
  Canon out ∧ (∀ r, hasL out r = (decide (0 ≤ r ∧ r ≤ a) && f r)) ∧ endL 0 out ≤ a + 2 ∧ (f a = true → ∃ v q, out = v ++ [q] ∧ q.2 = a) ∧ (f a = false → endL 0 out ≤ a + 1)
variable {f : Int → Bool} {a b : Int} {out : List (Int × Int)}
/-- Between neighbours: they follow each other, or all between are like both. -/
def Near (f : Int → Bool) (a b : Int) : Prop := b = a + 1 ∨ (a + 1 < b ∧ ∀ r, a ≤ r → r ≤ b → f r = f a)
theorem mid_first (h : f 0 = false) : Mid f 0 [] := by
  refine ⟨trivial, fun r => ?_, by unfold endL; omega, (fun h' => by rw [h] at h'; cases h'), fun _ => by unfold endL; omega⟩
  rw [hasL_nil]
  by_cases hr : 0 ≤ r ∧ r ≤ 0
  · have : r = 0 := by omega
    rw [this, h, Bool.and_false]
  · rw [decide_eq_false hr, Bool.false_and]
theorem mid_first_one (h : f 0 = true) : Mid f 0 [(0, 0)] := by
  refine ⟨⟨by decide, by decide, by decide, trivial⟩, fun r => ?_, by simp [endL], fun _ => ⟨[], (0, 0), rfl, rfl⟩, fun h' => by rw [h] at h'; cases h'⟩
  rw [hasL_cons, hasL_nil, Bool.or_false]
  by_cases hr : 0 ≤ r ∧ r ≤ 0
  · have : r = 0 := by omega
    rw [this, h]
    decide
  · rw [decide_eq_false hr, Bool.false_and]
    exact decide_eq_false (by dsimp only; omega)
theorem mid_skip (h : Mid f a out) (ha : 0 ≤ a) (hn : Near f a b) (hb : f b = false) : Mid f b out := by
  obtain ⟨h1, h2, h3, h4, h5⟩ := h
  have hab : a < b := by rcases hn with rfl | ⟨h, _⟩ <;> omega
  refine ⟨h1, fun r => ?_, by omega, (fun h' => by rw [hb] at h'; cases h'), fun _ => by omega⟩
  rw [h2 r]
  by_cases hr : a < r ∧ r ≤ b
  · have : f r = false := by
      rcases hn with hn | ⟨_, hn⟩
      · rw [show r = b by omega]; exact hb
      · rw [hn r (by omega) hr.2, ← hn b (by omega) (Int.le_refl _)]; exact hb
    rw [this, Bool.and_false, Bool.and_false]
  · congr 1
    apply decide_eq_decide.2
    omega
theorem mid_join {v : List (Int × Int)} {q : Int × Int} (h : Mid f a (v ++ [q])) (ha : 0 ≤ a) (hb1 : b ≤ 1114111) (hn : Near f a b) (hfa : f a = true) (hb : f b = true) : Mid f b (v ++ [(q.1, b)]) := by
  obtain ⟨h1, h2, h3, h4, h5⟩ := h
  have hab : a < b := by rcases hn with rfl | ⟨h, _⟩ <;> omega
  obtain ⟨v', q', e, hq⟩ := h4 hfa
  obtain ⟨rfl, e2⟩ := List.append_inj' e rfl
  injection e2 with e2 _
  subst e2
  obtain ⟨c1, c2, c3, c4⟩ := (canonF_snoc q v 0).1 h1
  refine ⟨(canonF_snoc _ v 0).2 ⟨c1, c2, by dsimp only; omega, by dsimp only; omega⟩, fun r => ?_, by rw [endL_snoc]; dsimp only; omega, fun _ => ⟨v, (q.1, b), rfl, rfl⟩, fun h' => by rw [hb] at h'; cases h'⟩
  have e := h2 r
  rw [hasL_append, hasL_cons, hasL_nil, Bool.or_false] at e ⊢
  have hv : hasL v r = true → r < q.1 := fun hv => by
    rcases Int.lt_or_le r q.1 with h | h
    · exact h
    · have hge : ∀ (s : List (Int × Int)) (lo : Int), CanonF lo s → hasL s r = true → r + 2 ≤ endL lo s := by
        intro s
        induction s with
        | nil => intro lo _ h; cases h
        | cons p s ih =>
          intro lo hc hh
          obtain ⟨x1, x2, x3, x4⟩ := hc
          rw [hasL_cons, Bool.or_eq_true, decide_eq_true_eq] at hh
          have hmono : ∀ (s : List (Int × Int)) (lo : Int), CanonF lo s → lo ≤ endL lo s := by
            intro s
            induction s with
            | nil => intro lo _; exact Int.le_refl _
            | cons p s ih => intro lo ⟨y1, y2, y3, y4⟩; have := ih _ y4; show lo ≤ endL (p.2 + 2) s; omega
          show r + 2 ≤ endL (p.2 + 2) s
          rcases hh with hh | hh
          · have := hmono s _ x4; omega
          · exact ih _ x4 hh
      have := hge v 0 c1 hv
      omega
  by_cases hr : a < r ∧ r ≤ b
  · have hf : f r = true := by
      rcases hn with hn | ⟨_, hn⟩
      · rw [show r = b by omega]; exact hb
      · rw [hn r (by omega) hr.2]; exact hfa
    rw [hf, decide_eq_true (show 0 ≤ r ∧ r ≤ b by omega), decide_eq_true (by dsimp only; omega), Bool.or_true]
    rfl
  · rw [show decide (0 ≤ r ∧ r ≤ b) = decide (0 ≤ r ∧ r ≤ a) from decide_eq_decide.2 (by omega), ← e]
    congr 1
    apply decide_eq_decide.2
    dsimp only
    omega
theorem mid_push (h : Mid f a out) (ha : 0 ≤ a) (hb1 : b ≤ 1114111) (hn : Near f a b) (hfa : f a = false) (hb : f b = true) : Mid f b (out ++ [(b, b)]) := by
  obtain ⟨h1, h2, h3, h4, h5⟩ := h
  have hba : b = a + 1 := by
    rcases hn with hn | ⟨h, hn⟩
    · exact hn
    · rw [hn b (by omega) (Int.le_refl _), hfa] at hb; cases hb
  have h6 := h5 hfa
  refine ⟨(canonF_snoc _ out 0).2 ⟨h1, by dsimp only; omega, by dsimp only; omega, by dsimp only; omega⟩, fun r => ?_, by rw [endL_snoc]; dsimp only; omega, fun _ => ⟨out, (b, b), rfl, rfl⟩, fun h' => by rw [hb] at h'; cases h'⟩
  rw [hasL_append, h2 r, hasL_cons, hasL_nil, Bool.or_false]
  by_cases hr : r = b
  · rw [hr, hb, decide_eq_true (show 0 ≤ b ∧ b ≤ b by omega), Bool.and_true, Bool.and_true]
    rw [decide_eq_true (show b ≤ b ∧ b ≤ b ∧ 0 ≤ b ∧ b ≤ 1114111 by omega), Bool.or_true]
  · rw [decide_eq_false (show ¬ ((b, b).1 ≤ r ∧ r ≤ (b, b).2 ∧ 0 ≤ r ∧ r ≤ 1114111) by dsimp only; omega), Bool.or_false]
    congr 1
    apply decide_eq_decide.2
    omega
theorem mid_last (h : Mid f 1114111 out) : out = setOf f := setOf_one h.1 h.2.1
end
end Go.Proofs.Ytegcebgoiocakaa
