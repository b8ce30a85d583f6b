/- Trees as values: rows of nodes, and what they read as. -/
import Derived.Test.YtbhbdhjkicmecaaM01
import Derived.Test.YtbhbdhjkicmecaaM04
import Derived.Test.YtbhbdhjkicmecaaM05
namespace Go.Proofs.Ytbhbdhjkicmecaa
open Go Go.RowKit
set_option linter.unusedVariables false
set_option maxRecDepth 20000

/-- A node's five values. -/
def nodeV (op : Int) (A : Option Addr) (ns cs : Nat) (mn mx : Int) (D : Option Addr) (nk ck : Nat) : List Value :=
  [.int .i64 op, .slice A ns cs, .int .i64 mn, .int .i64 mx, .slice D nk ck]
/-- A row of ranges all of whose blocks are of F. -/
def RowF (F : Nat → Prop) (w : World) (A : Option Addr) (n : Nat) (s : List (Int × Int)) : Prop := RowG w A n s ∧ ∀ b o, 0 < n → A = some ⟨b, o, none⟩ → F b
/-- A node's set, and room for its kids. -/
def RowCap (F : Nat → Prop) (w : World) (A : Option Addr) (n : Nat) (s : List (Int × Int)) (nk ck : Nat) : Prop := RowF F w A n s ∧ nk ≤ ck
/-- The row of nodes at block b from off o on (five cells each) reads as a; all its blocks are of F. -/
def WoodAt (F : Nat → Prop) (w : World) : Wood → Nat → Nat → Prop
  | .nil, _, _ => True
  | .cons op s mn mx k x, b, o =>
    (∃ (A D : Option Addr) (ns cs nk ck : Nat), (∀ j v, (nodeV op A ns cs mn mx D nk ck)[j]? = some v → w.cell? ⟨b, o + j, none⟩ = some v) ∧ RowCap F w A ns s nk ck ∧ k.len = nk ∧ (0 < nk → ∃ b' o', D = some ⟨b', o', none⟩ ∧ F b' ∧ b' < w.heap.size ∧ WoodAt F w k b' o')) ∧ WoodAt F w x b (o + 5)
/-- Kids at D. -/
def KidsAt (F : Nat → Prop) (w : World) (D : Option Addr) (nk : Nat) (k : Wood) : Prop :=
  k.len = nk ∧ (0 < nk → ∃ b o, D = some ⟨b, o, none⟩ ∧ F b ∧ b < w.heap.size ∧ WoodAt F w k b o)
/-- One node, as a value. -/
def NodeIn (F : Nat → Prop) (w : World) (v : Value) (T : Wood) : Prop :=
  ∃ (op : Int) (s : List (Int × Int)) (mn mx : Int) (k : Wood) (A D : Option Addr) (ns cs nk ck : Nat), T = .cons op s mn mx k .nil ∧ v = .agg #[.int .i64 op, .slice A ns cs, .int .i64 mn, .int .i64 mx, .slice D nk ck] ∧ RowCap F w A ns s nk ck ∧ KidsAt F w D nk k

section
variable {F F' : Nat → Prop} {w w' : World}
theorem RowF.keep {A : Option Addr} {n : Nat} {s : List (Int × Int)} (h : RowF F w A n s) (hs : w.heap.size ≤ w'.heap.size) (hk : ∀ b, F b → b < w.heap.size → w'.heap[b]? = w.heap[b]?) : RowF F w' A n s := by
  refine ⟨⟨h.1.1, fun hn => ?_⟩, h.2⟩
  obtain ⟨b, o, hA, hb, hc⟩ := h.1.2 hn
  have hh := hk b (h.2 b o hn hA) hb
  have hcell : ∀ j, w'.cell? ⟨b, j, none⟩ = w.cell? ⟨b, j, none⟩ := fun j => by simp only [World.cell?, hh]
  refine ⟨b, o, hA, by omega, fun j hj => ?_⟩
  rw [hcell, hcell]
  exact hc j hj
theorem RowF.mono {A : Option Addr} {n : Nat} {s : List (Int × Int)} (h : RowF F w A n s) (hf : ∀ b, F b → F' b) : RowF F' w A n s := ⟨h.1, fun b o hn hA => hf b (h.2 b o hn hA)⟩
theorem RowCap.keep {A : Option Addr} {n nk ck : Nat} {s : List (Int × Int)} (h : RowCap F w A n s nk ck) (hs : w.heap.size ≤ w'.heap.size) (hk : ∀ b, F b → b < w.heap.size → w'.heap[b]? = w.heap[b]?) : RowCap F w' A n s nk ck := ⟨h.1.keep hs hk, h.2⟩
theorem RowCap.mono {A : Option Addr} {n nk ck : Nat} {s : List (Int × Int)} (h : RowCap F w A n s nk ck) (hf : ∀ b, F b → F' b) : RowCap F' w A n s nk ck := ⟨h.1.mono hf, h.2⟩
theorem WoodAt.keep (hs : w.heap.size ≤ w'.heap.size) (hk : ∀ b, F b → b < w.heap.size → w'.heap[b]? = w.heap[b]?) : ∀ {T : Wood} {b o : Nat}, WoodAt F w T b o → (T.len = 0 ∨ (F b ∧ b < w.heap.size)) → WoodAt F w' T b o
  | .nil, _, _, _, _ => trivial
  | .cons op s mn mx k x, b, o, ⟨⟨A, D, ns, cs, nk, ck, h1, h2, h3, h4⟩, h5⟩, hb => by
    have hb : F b ∧ b < w.heap.size := by
      rcases hb with hb | hb
      · simp [Wood.len] at hb
      · exact hb
    have hh := hk b hb.1 hb.2
    have hcell : ∀ j, w'.cell? ⟨b, j, none⟩ = w.cell? ⟨b, j, none⟩ := fun j => by simp only [World.cell?, hh]
    refine ⟨⟨A, D, ns, cs, nk, ck, fun j v hv => by rw [hcell]; exact h1 j v hv, h2.keep hs hk, h3, fun hn => ?_⟩, WoodAt.keep hs hk h5 (.inr hb)⟩
    obtain ⟨b', o', hD, hF, hlt, hw⟩ := h4 hn
    exact ⟨b', o', hD, hF, by omega, WoodAt.keep hs hk hw (.inr ⟨hF, hlt⟩)⟩
theorem WoodAt.mono (hf : ∀ b, F b → F' b) : ∀ {T : Wood} {b o : Nat}, WoodAt F w T b o → WoodAt F' w T b o
  | .nil, _, _, _ => trivial
  | .cons op s mn mx k x, b, o, ⟨⟨A, D, ns, cs, nk, ck, h1, h2, h3, h4⟩, h5⟩ => by
    refine ⟨⟨A, D, ns, cs, nk, ck, h1, h2.mono hf, h3, fun hn => ?_⟩, WoodAt.mono hf h5⟩
    obtain ⟨b', o', hD, hF, hlt, hw⟩ := h4 hn
    exact ⟨b', o', hD, hf _ hF, hlt, WoodAt.mono hf hw⟩
theorem KidsAt.keep {D : Option Addr} {nk : Nat} {k : Wood} (h : KidsAt F w D nk k) (hs : w.heap.size ≤ w'.heap.size) (hk : ∀ b, F b → b < w.heap.size → w'.heap[b]? = w.heap[b]?) : KidsAt F w' D nk k := by
  refine ⟨h.1, fun hn => ?_⟩
  obtain ⟨b, o, hD, hF, hlt, hw⟩ := h.2 hn
  exact ⟨b, o, hD, hF, by omega, hw.keep hs hk (.inr ⟨hF, hlt⟩)⟩
theorem KidsAt.mono {D : Option Addr} {nk : Nat} {k : Wood} (h : KidsAt F w D nk k) (hf : ∀ b, F b → F' b) : KidsAt F' w D nk k := by
  refine ⟨h.1, fun hn => ?_⟩
  obtain ⟨b, o, hD, hF, hlt, hw⟩ := h.2 hn
  exact ⟨b, o, hD, hf _ hF, hlt, hw.mono hf⟩
theorem NodeIn.keep {v : Value} {T : Wood} (h : NodeIn F w v T) (hs : w.heap.size ≤ w'.heap.size) (hk : ∀ b, F b → b < w.heap.size → w'.heap[b]? = w.heap[b]?) : NodeIn F w' v T := by
  obtain ⟨op, s, mn, mx, k, A, D, ns, cs, nk, ck, h1, h2, h3, h4⟩ := h
  exact ⟨op, s, mn, mx, k, A, D, ns, cs, nk, ck, h1, h2, h3.keep hs hk, h4.keep hs hk⟩
theorem NodeIn.below {v : Value} {T : Wood} (h : NodeIn F w v T) (hb : Below w.heap.size w w') : NodeIn F w' v T := h.keep hb.size fun b _ hlt => hb.block b hlt
theorem NodeIn.mono {v : Value} {T : Wood} (h : NodeIn F w v T) (hf : ∀ b, F b → F' b) : NodeIn F' w v T := by
  obtain ⟨op, s, mn, mx, k, A, D, ns, cs, nk, ck, h1, h2, h3, h4⟩ := h
  exact ⟨op, s, mn, mx, k, A, D, ns, cs, nk, ck, h1, h2, h3.mono hf, h4.mono hf⟩
/-- A node of a row, as a value: its five cells. -/
theorem WoodAt.nth : ∀ {T : Wood} {b o j : Nat}, WoodAt F w T b o → j < T.len → ∃ (op : Int) (s : List (Int × Int)) (mn mx : Int) (k : Wood) (A D : Option Addr) (ns cs nk ck : Nat), T.nth j = .cons op s mn mx k .nil ∧ (∀ i v, (nodeV op A ns cs mn mx D nk ck)[i]? = some v → w.cell? ⟨b, o + j * 5 + i, none⟩ = some v) ∧ RowCap F w A ns s nk ck ∧ KidsAt F w D nk k
  | .nil, _, _, _, _, h => by simp [Wood.len] at h
  | .cons op s mn mx k x, b, o, 0, ⟨⟨A, D, ns, cs, nk, ck, h1, h2, h3, h4⟩, h5⟩, _ => ⟨op, s, mn, mx, k, A, D, ns, cs, nk, ck, rfl, fun i v hv => by rw [Nat.zero_mul, Nat.add_zero]; exact h1 i v hv, h2, h3, h4⟩
  | .cons op s mn mx k x, b, o, j + 1, ⟨_, h5⟩, h => by
    obtain ⟨op', s', mn', mx', k', A, D, ns, cs, nk, ck, e, h1, h2, h3⟩ := WoodAt.nth (j := j) h5 (by simp only [Wood.len] at h; omega)
    refine ⟨op', s', mn', mx', k', A, D, ns, cs, nk, ck, e, fun i v hv => ?_, h2, h3⟩
    rw [show o + (j + 1) * 5 + i = o + 5 + j * 5 + i by omega]
    exact h1 i v hv
/-- The five cells, one by one. -/
theorem node_cells {b o : Nat} {op mn mx : Int} {A D : Option Addr} {ns cs nk ck : Nat} (h : ∀ i v, (nodeV op A ns cs mn mx D nk ck)[i]? = some v → w.cell? ⟨b, o + i, none⟩ = some v) :
    w.cell? ⟨b, o, none⟩ = some (.int .i64 op) ∧ w.cell? ⟨b, o + 1, none⟩ = some (.slice A ns cs) ∧ w.cell? ⟨b, o + 2, none⟩ = some (.int .i64 mn) ∧ w.cell? ⟨b, o + 3, none⟩ = some (.int .i64 mx) ∧ w.cell? ⟨b, o + 4, none⟩ = some (.slice D nk ck) :=
  ⟨h 0 _ rfl, h 1 _ rfl, h 2 _ rfl, h 3 _ rfl, h 4 _ rfl⟩
end

/-- A node that a call has boxed: its cells stay. -/
theorem box_cell {W wr : World} {cs : Array Value} {t : TypeId} (hb : Below (W.alloc (.cells cs t)).heap.size (W.alloc (.cells cs t)) wr) (j : Nat) : wr.cell? ⟨W.heap.size, j, none⟩ = cs[j]? := by
  rw [hb.cell (p := ⟨W.heap.size, j, none⟩) (by simp), cell_of_row _ W.heap.size j _ _ (0, 0) (heap_alloc_new W _)]
theorem KidsAt.below {F : Nat → Prop} {w w' : World} {D : Option Addr} {nk : Nat} {k : Wood} (h : KidsAt F w D nk k) (hb : Below w.heap.size w w') : KidsAt F w' D nk k := h.keep hb.size fun b _ hlt => hb.block b hlt
/-- What is boxed, with names for the world and the block. -/
theorem box_world (W : World) (cs : Array Value) (t : TypeId) : ∃ (W1 : World) (g : Nat), W1 = W.alloc (.cells cs t) ∧ g = W.heap.size ∧ Below W.heap.size W W1 ∧ W.heap.size ≤ W1.heap.size ∧ ∀ wr, Below W1.heap.size W1 wr → (∀ j, wr.cell? ⟨g, j, none⟩ = cs[j]?) ∧ Below W.heap.size W wr :=
  ⟨_, _, rfl, rfl, (Below.refl _ _).alloc (Nat.le_refl _) _, by simp, fun wr hb => ⟨fun j => box_cell hb j, ((Below.refl _ _).alloc (Nat.le_refl _) _).trans (hb.mono (by simp))⟩⟩
theorem len_size : ∀ a : Wood, a.len ≤ a.size
  | .nil => Nat.le_refl _
  | .cons _ _ _ _ _ x => by have := len_size x; simp only [Wood.len, Wood.size]; omega
/-- A kid, as a value, with its cells. -/
theorem KidsAt.kid {F : Nat → Prop} {w : World} {D : Option Addr} {nk : Nat} {k : Wood} (h : KidsAt F w D nk k) {j : Nat} (hj : j < nk) : ∃ (b o : Nat) (op : Int) (s : List (Int × Int)) (mn mx : Int) (k' : Wood) (A' D' : Option Addr) (ns cs nk' ck' : Nat), D = some ⟨b, o, none⟩ ∧ b < w.heap.size ∧ k.nth j = .cons op s mn mx k' .nil ∧
    w.cell? ⟨b, o + j * 5, none⟩ = some (.int .i64 op) ∧ w.cell? ⟨b, o + j * 5 + 1, none⟩ = some (.slice A' ns cs) ∧ w.cell? ⟨b, o + j * 5 + 2, none⟩ = some (.int .i64 mn) ∧ w.cell? ⟨b, o + j * 5 + 3, none⟩ = some (.int .i64 mx) ∧ w.cell? ⟨b, o + j * 5 + 4, none⟩ = some (.slice D' nk' ck') ∧
    NodeIn F w (.agg #[.int .i64 op, .slice A' ns cs, .int .i64 mn, .int .i64 mx, .slice D' nk' ck']) (k.nth j) := by
  obtain ⟨b, o, hD, _, hlt, hw⟩ := h.2 (by omega)
  obtain ⟨op, s, mn, mx, k', A', D', ns, cs, nk', ck', e, hc, hr, hk⟩ := hw.nth (j := j) (by rw [h.1]; exact hj)
  obtain ⟨c0, c1, c2, c3, c4⟩ := node_cells hc
  exact ⟨b, o, op, s, mn, mx, k', A', D', ns, cs, nk', ck', hD, hlt, e, c0, c1, c2, c3, c4, op, s, mn, mx, k', A', D', ns, cs, nk', ck', e, rfl, hr, hk⟩

/-! ### Sizes -/
/-- Nodes and ranges together. -/
def heavy : Wood → Nat
  | .nil => 0
  | .cons _ s _ _ k x => 1 + s.length + heavy k + heavy x
theorem heavy_nth : ∀ (a : Wood) (j : Nat), j < a.len → heavy (a.nth j) ≤ heavy a
  | .nil, _, h => by simp [Wood.len] at h
  | .cons .., 0, _ => by simp only [Wood.nth, heavy]; omega
  | .cons _ _ _ _ _ x, j + 1, h => by
    have := heavy_nth x j (by simp only [Wood.len] at h; omega)
    simp only [Wood.nth, heavy]; omega
theorem len_heavy : ∀ a : Wood, a.len ≤ heavy a
  | .nil => Nat.le_refl _
  | .cons _ _ _ _ _ x => by have := len_heavy x; simp only [Wood.len, heavy]; omega
theorem size_heavy : ∀ a : Wood, a.size ≤ heavy a
  | .nil => Nat.le_refl _
  | .cons _ _ _ _ k x => by have := size_heavy x; have := size_heavy k; simp only [Wood.size, heavy]; omega
end Go.Proofs.Ytbhbdhjkicmecaa
/- The document's way to make a set between the ends of ranges, in plain words: it is the set. -/
namespace Go.Proofs.Ytbhbdhjkicmecaa
open Go Go.RowKit
set_option linter.unusedVariables false

/-! ### Ends in order -/
def insI : List Int → Int → List Int
  | [], e => [e]
  | x :: xs, e => if x < e then x :: insI xs e else if x = e then x :: xs else e :: x :: xs
def Asc (l : List Int) : Prop := l.Pairwise (· < ·)
theorem insI_mem (e r : Int) : ∀ l : List Int, r ∈ insI l e ↔ r ∈ l ∨ r = e
  | [] => by simp [insI]
  | x :: xs => by
    rw [insI]
    split
    · rw [List.mem_cons, insI_mem e r xs, List.mem_cons, or_assoc]
    · split
      · rename_i h; subst h
        constructor
        · exact .inl
        · rintro (h | rfl)
          · exact h
          · exact List.mem_cons_self
      · rw [List.mem_cons, Or.comm]
theorem insI_asc (e : Int) : ∀ l : List Int, Asc l → Asc (insI l e)
  | [], _ => by unfold Asc insI; simp
  | x :: xs, h => by
    unfold Asc at h ⊢
    rw [List.pairwise_cons] at h
    rw [insI]
    split
    · rw [List.pairwise_cons]
      refine ⟨fun r hr => ?_, insI_asc e xs h.2⟩
      rcases (insI_mem e r xs).1 hr with hr | rfl
      · exact h.1 r hr
      · assumption
    · split
      · rw [List.pairwise_cons]; exact h
      · rw [List.pairwise_cons, List.pairwise_cons]
        refine ⟨fun r hr => ?_, h⟩
        rcases List.mem_cons.1 hr with rfl | hr
        · omega
        · have := h.1 r hr; omega
def sortE (es : List Int) : List Int := es.foldl insI []
theorem foldl_ins (es : List Int) : ∀ l : List Int, Asc l → Asc (es.foldl insI l) ∧ ∀ r, r ∈ es.foldl insI l ↔ r ∈ l ∨ r ∈ es := by
  induction es with
  | nil => intro l h; exact ⟨h, fun r => by simp⟩
  | cons e es ih =>
    intro l h
    obtain ⟨h1, h2⟩ := ih (insI l e) (insI_asc e l h)
    refine ⟨h1, fun r => ?_⟩
    rw [List.foldl_cons, h2 r, insI_mem, List.mem_cons, or_assoc]
theorem sortE_asc (es : List Int) : Asc (sortE es) := (foldl_ins es [] List.Pairwise.nil).1
theorem sortE_mem (es : List Int) (r : Int) : r ∈ sortE es ↔ r ∈ es := by
  rw [sortE, (foldl_ins es [] List.Pairwise.nil).2 r]; simp
theorem sortE_snoc (es : List Int) (e : Int) : sortE (es ++ [e]) = insI (sortE es) e := by simp [sortE]
/-- Where e is put, by index. -/
theorem insI_at (e : Int) : ∀ (l : List Int) (k : Nat), k ≤ l.length → (∀ j (h : j < l.length), j < k → l[j] < e) → (∀ h : k < l.length, ¬ l[k] < e) → insI l e = if ∃ h : k < l.length, l[k] = e then l else l.take k ++ e :: l.drop k
  | [], k, hk, _, _ => by
    have : k = 0 := by simpa using hk
    subst this
    rw [if_neg (by rintro ⟨h, _⟩; simp at h)]
    rfl
  | x :: xs, 0, _, _, h2 => by
    have hx := h2 (by simp)
    rw [List.getElem_cons_zero] at hx
    rw [insI, if_neg hx]
    by_cases he : x = e
    · rw [if_pos he, if_pos ⟨by simp, by simpa using he⟩]
    · rw [if_neg he, if_neg (by rintro ⟨_, h⟩; exact he (by simpa using h))]
      rfl
  | x :: xs, k + 1, hk, h1, h2 => by
    have hx := h1 0 (by simp) (by omega)
    rw [List.getElem_cons_zero] at hx
    have ih := insI_at e xs k (by simpa using hk) (fun j h hj => by have := h1 (j + 1) (by simpa using h) (by omega); simpa using this) (fun h => by have := h2 (by simpa using h); simpa using this)
    rw [insI, if_pos hx, ih]
    by_cases hc : ∃ h : k < xs.length, xs[k] = e
    · rw [if_pos hc, if_pos (by obtain ⟨h, e1⟩ := hc; exact ⟨by simpa using h, by simpa using e1⟩)]
    · rw [if_neg hc, if_neg (by rintro ⟨h, e1⟩; exact hc ⟨by simpa using h, by simpa using e1⟩)]
      rfl

/-! ### What lies between neighbours -/
theorem nearT_mem (z r : Int) (h0 : 0 ≤ z) (h1 : z ≤ 1114111) : r ∈ nearT z 3 ↔ (r = z - 1 ∨ r = z ∨ r = z + 1) ∧ 0 ≤ r ∧ r ≤ 1114111 := by
  have hc : clampI z = z := by unfold clampI; rw [if_neg (by omega), if_neg (by omega)]
  have hm : ∀ (l : List Int) (P : Prop) [Decidable P] (v : Int), r ∈ l ++ (if P then [v] else []) ↔ r ∈ l ∨ (P ∧ r = v) := by
    intro l P _ v
    rw [List.mem_append]
    by_cases h : P
    · rw [if_pos h]; simp [h]
    · rw [if_neg h]; simp [h]
  rw [nearT, hm, nearT, hm, nearT, hm, nearT, hc]
  simp only [List.not_mem_nil, false_or]
  omega
theorem endsL_mem {s : List (Int × Int)} {p : Int × Int} (hp : p ∈ s) (hw : 0 ≤ p.1 ∧ p.1 ≤ p.2 ∧ p.2 ≤ 1114111) {r : Int} (hr : (r = p.1 - 1 ∨ r = p.1 ∨ r = p.2 ∨ r = p.2 + 1) ∧ 0 ≤ r ∧ r ≤ 1114111) : r ∈ endsL s := by
  unfold endsL
  rw [List.mem_append, List.mem_flatMap]
  refine .inr ⟨p, hp, ?_⟩
  show r ∈ nearT p.1 3 ++ nearT p.2 3
  rw [List.mem_append, nearT_mem _ _ hw.1 (by omega), nearT_mem _ _ (by omega) hw.2.2]
  omega
theorem endsL_in {s : List (Int × Int)} {r : Int} (h : r ∈ endsL s) : 0 ≤ r ∧ r ≤ 1114111 := by
  have hn : ∀ (z : Int) (j : Nat), r ∈ nearT z j → 0 ≤ r ∧ r ≤ 1114111 := by
    intro z j
    induction j with
    | zero => intro h; cases h
    | succ j ih =>
      intro h
      rw [nearT, List.mem_append] at h
      rcases h with h | h
      · exact ih h
      · split at h
        · rw [List.mem_singleton] at h; omega
        · cases h
  unfold endsL at h
  rw [List.mem_append, List.mem_flatMap] at h
  rcases h with h | ⟨p, _, h⟩
  · simp at h; omega
  · have h : r ∈ nearT p.1 3 ++ nearT p.2 3 := h
    rw [List.mem_append] at h
    rcases h with h | h
    · exact hn _ _ h
    · exact hn _ _ h
/-- Nothing of the ends lies between a and b: either they are neighbours, or all from a to b are alike. -/
theorem alike {s : List (Int × Int)} (hw : ∀ p ∈ s, 0 ≤ p.1 ∧ p.1 ≤ p.2 ∧ p.2 ≤ 1114111) {a b : Int} (ha : 0 ≤ a) (hb : b ≤ 1114111) (hab : a + 1 < b) (hno : ∀ r ∈ endsL s, r ≤ a ∨ b ≤ r) (r : Int) (h1 : a ≤ r) (h2 : r ≤ b) : hasL s r = hasL s a := by
  apply Bool.eq_iff_iff.2
  rw [hasL_iff, hasL_iff]
  have key : ∀ p ∈ s, (p.1 ≤ r ∧ r ≤ p.2 ∧ 0 ≤ r ∧ r ≤ 1114111) ↔ (p.1 ≤ a ∧ a ≤ p.2 ∧ 0 ≤ a ∧ a ≤ 1114111) := by
    intro p hp
    have hq := hw p hp
    have e1 := hno p.1 (endsL_mem hp hq ⟨by omega, by omega, by omega⟩)
    have e2 := hno p.2 (endsL_mem hp hq ⟨by omega, by omega, by omega⟩)
    have e3 : p.1 = 0 ∨ (p.1 - 1 ≤ a ∨ b ≤ p.1 - 1) := by
      rcases Int.lt_or_le 0 p.1 with h | h
      · exact .inr (hno (p.1 - 1) (endsL_mem hp hq ⟨by omega, by omega, by omega⟩))
      · exact .inl (by omega)
    have e4 : p.2 = 1114111 ∨ (p.2 + 1 ≤ a ∨ b ≤ p.2 + 1) := by
      rcases Int.lt_or_le p.2 1114111 with h | h
      · exact .inr (hno (p.2 + 1) (endsL_mem hp hq ⟨by omega, by omega, by omega⟩))
      · exact .inl (by omega)
    omega
  constructor
  · rintro ⟨p, hp, h⟩; exact ⟨p, hp, (key p hp).1 h⟩
  · rintro ⟨p, hp, h⟩; exact ⟨p, hp, (key p hp).2 h⟩
end Go.Proofs.Ytbhbdhjkicmecaa
/- The document's way to make a set between the ends of ranges: the second part, range by range. -/
namespace Go.Proofs.Ytbhbdhjkicmecaa
open Go Go.RowKit
set_option linter.unusedVariables false

theorem asc_lt {l : List Int} (h : Asc l) (i j : Nat) (hij : i < j) (hj : j < l.length) : l.getD i 0 < l.getD j 0 := by
  have := List.pairwise_iff_getElem.1 h i j (by omega) hj hij
  simpa [List.getD, List.getElem?_eq_getElem hj, List.getElem?_eq_getElem (show i < l.length by omega)] using this
theorem mem_getD {l : List Int} {r : Int} (h : r ∈ l) : ∃ i, i < l.length ∧ l.getD i 0 = r := by
  obtain ⟨i, hi, e⟩ := List.getElem_of_mem h
  exact ⟨i, hi, by simpa [List.getD, List.getElem?_eq_getElem hi] using e⟩
theorem getD_mem' {l : List Int} {i : Nat} (h : i < l.length) : l.getD i 0 ∈ l := by
  simp [List.getD, List.getElem?_eq_getElem h]
/-- Neighbours of the ends in order. -/
theorem asc_gap {l : List Int} (h : Asc l) {i : Nat} (hi : i + 1 < l.length) {r : Int} (hr : r ∈ l) : r ≤ l.getD i 0 ∨ l.getD (i + 1) 0 ≤ r := by
  obtain ⟨j, hj, rfl⟩ := mem_getD hr
  rcases Nat.lt_or_ge i j with h1 | h1
  · right
    rcases Nat.lt_or_ge (i + 1) j with h2 | h2
    · exact Int.le_of_lt (asc_lt h _ _ h2 hj)
    · rw [show j = i + 1 by omega]; exact Int.le_refl _
  · left
    rcases Nat.lt_or_ge j i with h2 | h2
    · exact Int.le_of_lt (asc_lt h _ _ h2 (by omega))
    · rw [show j = i by omega]; exact Int.le_refl _

section
variable {rs : List (Int × Int)} {neg : Bool}
/-- The ends in order: from 0 to 10ffff. -/
theorem ends_first (rs : List (Int × Int)) : 0 < (sortE (endsL rs)).length ∧ (sortE (endsL rs)).getD 0 0 = 0 ∧ (sortE (endsL rs)).getD ((sortE (endsL rs)).length - 1) 0 = 1114111 := by
  obtain ⟨l, hl⟩ : ∃ l, l = sortE (endsL rs) := ⟨_, rfl⟩
  have ha : Asc l := hl ▸ sortE_asc _
  have hm : ∀ r, r ∈ l ↔ r ∈ endsL rs := fun r => hl ▸ sortE_mem _ r
  rw [← hl]
  have h0 : (0 : Int) ∈ l := (hm 0).2 (by simp [endsL])
  have h1 : (1114111 : Int) ∈ l := (hm _).2 (by simp [endsL])
  obtain ⟨i, hi, e⟩ := mem_getD h0
  obtain ⟨j, hj, e'⟩ := mem_getD h1
  refine ⟨by omega, ?_, ?_⟩
  · rcases Nat.eq_zero_or_pos i with h | h
    · rw [h] at e; exact e
    · have := asc_lt ha 0 i h hi
      have := endsL_in ((hm _).1 (getD_mem' (show 0 < l.length by omega)))
      omega
  · rcases Nat.lt_or_ge j (l.length - 1) with h | h
    · have := asc_lt ha j (l.length - 1) h (by omega)
      have := endsL_in ((hm _).1 (getD_mem' (show l.length - 1 < l.length by omega)))
      omega
    · rw [show l.length - 1 = j by omega, e']

/-- What was gone through: the ends up to a. -/
def Mid (f : Int → Bool) (a : Int) (out : List (Int × Int)) : Prop :=
  Canon out ∧ (∀ r, hasL out r = (decide (0 ≤ r ∧ r ≤ a) && f r)) ∧ endL 0 out ≤ a + 2 ∧ (f a = true → ∃ v q, out = v ++ [q] ∧ q.2 = a) ∧ (f a = false → endL 0 out ≤ a + 1)
variable {f : Int → Bool} {a b : Int} {out : List (Int × Int)}
/-- Between neighbours: they follow each other, or all between are like both. -/
def Near (f : Int → Bool) (a b : Int) : Prop := b = a + 1 ∨ (a + 1 < b ∧ ∀ r, a ≤ r → r ≤ b → f r = f a)
theorem mid_first (h : f 0 = false) : Mid f 0 [] := by
  refine ⟨trivial, fun r => ?_, by unfold endL; omega, (fun h' => by rw [h] at h'; cases h'), fun _ => by unfold endL; omega⟩
  rw [hasL_nil]
  by_cases hr : 0 ≤ r ∧ r ≤ 0
  · have : r = 0 := by omega
    rw [this, h, Bool.and_false]
  · rw [decide_eq_false hr, Bool.false_and]
theorem mid_first_one (h : f 0 = true) : Mid f 0 [(0, 0)] := by
  refine ⟨⟨by decide, by decide, by decide, trivial⟩, fun r => ?_, by simp [endL], fun _ => ⟨[], (0, 0), rfl, rfl⟩, fun h' => by rw [h] at h'; cases h'⟩
  rw [hasL_cons, hasL_nil, Bool.or_false]
  by_cases hr : 0 ≤ r ∧ r ≤ 0
  · have : r = 0 := by omega
    rw [this, h]
    decide
  · rw [decide_eq_false hr, Bool.false_and]
    exact decide_eq_false (by dsimp only; omega)
theorem mid_skip (h : Mid f a out) (ha : 0 ≤ a) (hn : Near f a b) (hb : f b = false) : Mid f b out := by
  obtain ⟨h1, h2, h3, h4, h5⟩ := h
  have hab : a < b := by rcases hn with rfl | ⟨h, _⟩ <;> omega
  refine ⟨h1, fun r => ?_, by omega, (fun h' => by rw [hb] at h'; cases h'), fun _ => by omega⟩
  rw [h2 r]
  by_cases hr : a < r ∧ r ≤ b
  · have : f r = false := by
      rcases hn with hn | ⟨_, hn⟩
      · rw [show r = b by omega]; exact hb
      · rw [hn r (by omega) hr.2, ← hn b (by omega) (Int.le_refl _)]; exact hb
    rw [this, Bool.and_false, Bool.and_false]
  · congr 1
    apply decide_eq_decide.2
    omega
theorem mid_join {v : List (Int × Int)} {q : Int × Int} (h : Mid f a (v ++ [q])) (ha : 0 ≤ a) (hb1 : b ≤ 1114111) (hn : Near f a b) (hfa : f a = true) (hb : f b = true) : Mid f b (v ++ [(q.1, b)]) := by
  obtain ⟨h1, h2, h3, h4, h5⟩ := h
  have hab : a < b := by rcases hn with rfl | ⟨h, _⟩ <;> omega
  obtain ⟨v', q', e, hq⟩ := h4 hfa
  obtain ⟨rfl, e2⟩ := List.append_inj' e rfl
  injection e2 with e2 _
  subst e2
  obtain ⟨c1, c2, c3, c4⟩ := (canonF_snoc q v 0).1 h1
  refine ⟨(canonF_snoc _ v 0).2 ⟨c1, c2, by dsimp only; omega, by dsimp only; omega⟩, fun r => ?_, by rw [endL_snoc]; dsimp only; omega, fun _ => ⟨v, (q.1, b), rfl, rfl⟩, fun h' => by rw [hb] at h'; cases h'⟩
  have e := h2 r
  rw [hasL_append, hasL_cons, hasL_nil, Bool.or_false] at e ⊢
  have hv : hasL v r = true → r < q.1 := fun hv => by
    rcases Int.lt_or_le r q.1 with h | h
    · exact h
    · have hge : ∀ (s : List (Int × Int)) (lo : Int), CanonF lo s → hasL s r = true → r + 2 ≤ endL lo s := by
        intro s
        induction s with
        | nil => intro lo _ h; cases h
        | cons p s ih =>
          intro lo hc hh
          obtain ⟨x1, x2, x3, x4⟩ := hc
          rw [hasL_cons, Bool.or_eq_true, decide_eq_true_eq] at hh
          have hmono : ∀ (s : List (Int × Int)) (lo : Int), CanonF lo s → lo ≤ endL lo s := by
            intro s
            induction s with
            | nil => intro lo _; exact Int.le_refl _
            | cons p s ih => intro lo ⟨y1, y2, y3, y4⟩; have := ih _ y4; show lo ≤ endL (p.2 + 2) s; omega
          show r + 2 ≤ endL (p.2 + 2) s
          rcases hh with hh | hh
          · have := hmono s _ x4; omega
          · exact ih _ x4 hh
      have := hge v 0 c1 hv
      omega
  by_cases hr : a < r ∧ r ≤ b
  · have hf : f r = true := by
      rcases hn with hn | ⟨_, hn⟩
      · rw [show r = b by omega]; exact hb
      · rw [hn r (by omega) hr.2]; exact hfa
    rw [hf, decide_eq_true (show 0 ≤ r ∧ r ≤ b by omega), decide_eq_true (by dsimp only; omega), Bool.or_true]
    rfl
  · rw [show decide (0 ≤ r ∧ r ≤ b) = decide (0 ≤ r ∧ r ≤ a) from decide_eq_decide.2 (by omega), ← e]
    congr 1
    apply decide_eq_decide.2
    dsimp only
    omega
theorem mid_push (h : Mid f a out) (ha : 0 ≤ a) (hb1 : b ≤ 1114111) (hn : Near f a b) (hfa : f a = false) (hb : f b = true) : Mid f b (out ++ [(b, b)]) := by
  obtain ⟨h1, h2, h3, h4, h5⟩ := h
  have hba : b = a + 1 := by
    rcases hn with hn | ⟨h, hn⟩
    · exact hn
    · rw [hn b (by omega) (Int.le_refl _), hfa] at hb; cases hb
  have h6 := h5 hfa
  refine ⟨(canonF_snoc _ out 0).2 ⟨h1, by dsimp only; omega, by dsimp only; omega, by dsimp only; omega⟩, fun r => ?_, by rw [endL_snoc]; dsimp only; omega, fun _ => ⟨out, (b, b), rfl, rfl⟩, fun h' => by rw [hb] at h'; cases h'⟩
  rw [hasL_append, h2 r, hasL_cons, hasL_nil, Bool.or_false]
  by_cases hr : r = b
  · rw [hr, hb, decide_eq_true (show 0 ≤ b ∧ b ≤ b by omega), Bool.and_true, Bool.and_true]
    rw [decide_eq_true (show b ≤ b ∧ b ≤ b ∧ 0 ≤ b ∧ b ≤ 1114111 by omega), Bool.or_true]
  · rw [decide_eq_false (show ¬ ((b, b).1 ≤ r ∧ r ≤ (b, b).2 ∧ 0 ≤ r ∧ r ≤ 1114111) by dsimp only; omega), Bool.or_false]
    congr 1
    apply decide_eq_decide.2
    omega
theorem mid_last (h : Mid f 1114111 out) : out = setOf f := setOf_one h.1 h.2.1
end
end Go.Proofs.Ytbhbdhjkicmecaa
/- Rows of ranges that the call owns: append of ranges, a store into the last one. -/
namespace Go.Proofs.Ytbhbdhjkicmecaa
open Go Go.RowKit
set_option linter.unusedVariables false
set_option maxRecDepth 20000

/-- append of ranges to a row of the call's own. -/
theorem app_inG' {W w : World} {P : Option Addr} {q pc : Nat} {xs : List (Int × Int)} (h : w.ownsRow W.heap.size 58 2 (.slice P q pc) q (cellsG xs)) {A : Option Addr} {n c : Nat} {s : List (Int × Int)} (hr : RowG w A n s) (hA : A = none → n = 0 ∧ c = 0) (hq : q ≤ 3000000) (hn : n ≤ 3000000) (hb : Below W.heap.size W w) :
    ∃ P' pc' w', (Builtin.append_ #[28, 28] 28 #[.slice P q pc, .slice A n c]).run Try.prog w = .ok (.slice P' (q + n) pc') w' ∧ w'.ownsRow W.heap.size 58 2 (.slice P' (q + n) pc') (q + n) (cellsG (xs ++ s)) ∧ Below W.heap.size W w' ∧ ∀ g, g < w.heap.size → (Value.slice P q pc).ownBlock ≠ some g → w'.heap[g]? = w.heap[g]? := by
  obtain ⟨i0, hi, hz0, hz1, hz2⟩ := info_parts info_rng
  have hl := hr.1
  rw [cellsG_append]
  rcases A with _ | ad
  · obtain ⟨rfl, rfl⟩ := hA rfl
    have hs : s = [] := List.eq_nil_of_length_eq_zero hl
    subst hs
    rw [show cellsG [] = [] from rfl, List.append_nil]
    exact ⟨P, pc, w, run_append_owned_none (P := Try.prog) w W.heap.size 28 28 58 i0 2 Try.underlying28 hi _ q _ h, h, hb, fun _ _ _ => rfl⟩
  · have hcells : ∀ j u, (cellsG s)[j]? = some u → w.cell? (ad.add j) = some u := by
      intro j u hu
      have hj : j < n * 2 := by
        have := cellsG_length s
        rcases Nat.lt_or_ge j (cellsG s).length with h1 | h1
        · omega
        · rw [List.getElem?_eq_none h1] at hu; cases hu
      obtain ⟨b, o, hA, _, hc⟩ := hr.2 (by omega)
      injection hA with hA
      subst hA
      have hadd : (⟨b, o, none⟩ : Addr).add j = ⟨b, o + j, none⟩ := by unfold Addr.add; split <;> simp_all
      obtain ⟨e0, e1⟩ := cellsG_at s (j / 2) (by omega)
      obtain ⟨c0, c1⟩ := hc (j / 2) (by omega)
      rw [hadd]
      rcases Nat.mod_two_eq_zero_or_one j with hm | hm
      · have e : j = j / 2 * 2 := by omega
        rw [e] at hu ⊢
        rw [e0] at hu
        rw [c0, hu]
      · have e : j = j / 2 * 2 + 1 := by omega
        rw [e] at hu ⊢
        rw [e1] at hu
        rw [← Nat.add_assoc, c1, hu]
    obtain ⟨V', w', h1, h2, h3, _⟩ := run_append_own (P := Try.prog) w W.heap.size 28 28 58 i0 _ 2 16 Try.underlying28 hi hz0 hz1 hz2 rfl (by decide) _ q _ h ad n c (cellsG s) (by rw [cellsG_length, hl]) hcells
      (by intro u hu; obtain ⟨p, _, hp⟩ := List.mem_flatMap.1 hu; simp at hp; rcases hp with rfl | rfl <;> rfl) (by unfold maxLen; omega) (by omega) hb.size
    have hb' : Below W.heap.size W w' := hb.grown h3 hb.size (by intro k hk; exact (row_lt h hk).1)
    have hk' : ∀ g, g < w.heap.size → (Value.slice P q pc).ownBlock ≠ some g → w'.heap[g]? = w.heap[g]? := fun g hg hne => h3.block g hg fun e => hne e.symm
    rcases h2.2 with ⟨rfl, h0⟩ | ⟨b, cap, cu, rfl, _⟩
    · rw [h0] at h2 ⊢
      exact ⟨none, 0, w', h1, h2, hb', hk'⟩
    · exact ⟨_, _, w', h1, h2, hb', hk'⟩
/-- .. without what stays. -/
theorem app_inG {W w : World} {P : Option Addr} {q pc : Nat} {xs : List (Int × Int)} (h : w.ownsRow W.heap.size 58 2 (.slice P q pc) q (cellsG xs)) {A : Option Addr} {n c : Nat} {s : List (Int × Int)} (hr : RowG w A n s) (hA : A = none → n = 0 ∧ c = 0) (hq : q ≤ 3000000) (hn : n ≤ 3000000) (hb : Below W.heap.size W w) :
    ∃ P' pc' w', (Builtin.append_ #[28, 28] 28 #[.slice P q pc, .slice A n c]).run Try.prog w = .ok (.slice P' (q + n) pc') w' ∧ w'.ownsRow W.heap.size 58 2 (.slice P' (q + n) pc') (q + n) (cellsG (xs ++ s)) ∧ Below W.heap.size W w' := by
  obtain ⟨P', pc', w', h1, h2, h3, _⟩ := app_inG' h hr hA hq hn hb
  exact ⟨P', pc', w', h1, h2, h3⟩
/-- Ranges that lie in a block just made. -/
theorem rowG_made (w : World) (s : List (Int × Int)) : RowG (w.alloc (.cells (cellsG s).toArray 58)) (some ⟨w.heap.size, 0, none⟩) s.length s := by
  refine ⟨rfl, fun hn => ⟨w.heap.size, 0, rfl, by simp, fun j hj => ?_⟩⟩
  obtain ⟨e1, e2⟩ := cellsG_at s j hj
  refine ⟨?_, ?_⟩
  · rw [cell_of_row _ w.heap.size (0 + j * 2) _ 58 (0, 0) (heap_alloc_new w _), ← e1, Nat.zero_add]; simp
  · rw [cell_of_row _ w.heap.size (0 + j * 2 + 1) _ 58 (0, 0) (heap_alloc_new w _), ← e2, Nat.zero_add]; simp
theorem ownG_alloc {w : World} {B : Nat} {v : Value} {n : Nat} {xs : List Value} (h : w.ownsRow B 58 2 v n xs) (o : Obj) : (w.alloc o).ownsRow B 58 2 v n xs :=
  row_keep h fun k hk _ => Below.heap_alloc w o k hk
theorem ownG_kept {w w' : World} {B : Nat} {v : Value} {n : Nat} {xs : List Value} (h : w.ownsRow B 58 2 v n xs) (hb : Below w.heap.size w w') : w'.ownsRow B 58 2 v n xs :=
  row_keep h fun k hk _ => hb.block k hk
/-- append of ranges that are listed. -/
theorem push_rngs {W w : World} {P : Option Addr} {q pc : Nat} {xs : List (Int × Int)} (h : w.ownsRow W.heap.size 58 2 (.slice P q pc) q (cellsG xs)) (s : List (Int × Int)) (hq : q ≤ 3000000) (hn : s.length ≤ 3000000) (hb : Below W.heap.size W w) :
    ∃ P' pc' w', (Builtin.append_ #[28, 28] 28 #[.slice P q pc, .slice (some ⟨w.heap.size, 0, none⟩) s.length s.length]).run Try.prog (w.alloc (.cells (cellsG s).toArray 58)) = .ok (.slice P' (q + s.length) pc') w' ∧ w'.ownsRow W.heap.size 58 2 (.slice P' (q + s.length) pc') (q + s.length) (cellsG (xs ++ s)) ∧ Below W.heap.size W w' :=
  app_inG (ownG_alloc h _) (rowG_made w s) (fun e => by cases e) hq hn (hb.alloc hb.size _)
/-- .. and what stays. -/
theorem push_keep {W w : World} {P : Option Addr} {q pc : Nat} {xs : List (Int × Int)} (h : w.ownsRow W.heap.size 58 2 (.slice P q pc) q (cellsG xs)) (s : List (Int × Int)) (hq : q ≤ 3000000) (hn : s.length ≤ 3000000) (hb : Below W.heap.size W w) :
    ∃ P' pc' w', (Builtin.append_ #[28, 28] 28 #[.slice P q pc, .slice (some ⟨w.heap.size, 0, none⟩) s.length s.length]).run Try.prog (w.alloc (.cells (cellsG s).toArray 58)) = .ok (.slice P' (q + s.length) pc') w' ∧ w'.ownsRow W.heap.size 58 2 (.slice P' (q + s.length) pc') (q + s.length) (cellsG (xs ++ s)) ∧ Below W.heap.size W w' ∧ ∀ g, g < w.heap.size → (Value.slice P q pc).ownBlock ≠ some g → w'.heap[g]? = w.heap[g]? := by
  obtain ⟨P', pc', w', h1, h2, h3, h4⟩ := app_inG' (ownG_alloc h (.cells (cellsG s).toArray 58)) (rowG_made w s) (fun e => by cases e) hq hn (hb.alloc hb.size _)
  exact ⟨P', pc', w', h1, h2, h3, fun g hg hne => (h4 g (by simp; omega) hne).trans (Below.heap_alloc w _ g hg)⟩
theorem nilG (w : World) (B : Nat) : w.ownsRow B 58 2 (.slice none 0 0) 0 (cellsG []) := World.ownsRow_nil _ _ _ _

/-- The last one's end is set. -/
theorem cellsG_last (v : List (Int × Int)) (q : Int × Int) (y : Int) : (cellsG (v ++ [q])).set (v.length * 2 + 1) (.int .i64 y) = cellsG (v ++ [(q.1, y)]) := by
  rw [cellsG_append, cellsG_append, List.set_append_right _ _ (by rw [cellsG_length]; omega), cellsG_length, show v.length * 2 + 1 - v.length * 2 = 1 by omega]
  rfl
theorem last_own {W w : World} {P : Option Addr} {n pc : Nat} {v : List (Int × Int)} {q : Int × Int} (h : w.ownsRow W.heap.size 58 2 (.slice P n pc) n (cellsG (v ++ [q]))) (hb : Below W.heap.size W w) :
    ∃ g, P = some ⟨g, 0, none⟩ ∧ n = v.length + 1 ∧ W.heap.size ≤ g ∧ g < w.heap.size ∧ n ≤ pc ∧ pc ≤ maxLen ∧ w.cell? ⟨g, v.length * 2, none⟩ = some (.int .i64 q.1) ∧ w.cell? ⟨g, v.length * 2 + 1, none⟩ = some (.int .i64 q.2) ∧ w.frozen? ⟨g, v.length * 2 + 1, none⟩ = false ∧
      ∀ y, (w.setCell ⟨g, v.length * 2 + 1, none⟩ (.int .i64 y)).ownsRow W.heap.size 58 2 (.slice P n pc) n (cellsG (v ++ [(q.1, y)])) ∧ Below W.heap.size W (w.setCell ⟨g, v.length * 2 + 1, none⟩ (.int .i64 y)) := by
  have hl := h.1
  rw [cellsG_length, List.length_append] at hl
  simp only [List.length_cons, List.length_nil] at hl
  rcases h.2 with ⟨e, h0⟩ | ⟨g, cap, cur, e, hB, hg, hnc, hcm, hcs, ht⟩
  · omega
  · injection e with e1 _ e3
    subst e1; subst e3
    obtain ⟨x1, x2⟩ := cellsG_at (v ++ [q]) v.length (by simp)
    have hd : (v ++ [q]).getD v.length (0, 0) = q := by simp [List.getD]
    rw [hd] at x1 x2
    have hc : ∀ j, j < n * 2 → w.cell? ⟨g, j, none⟩ = (cellsG (v ++ [q]))[j]? := fun j hj => by
      rw [cell_of_row w g j cur 58 (0, 0) hg, ← ht, List.getElem?_take_of_lt hj, Array.getElem?_toList]
    refine ⟨g, rfl, by omega, hB, (Array.getElem?_eq_some_iff.1 hg).1, hnc, hcm, by rw [hc _ (by omega), x1], by rw [hc _ (by omega), x2], by simp [World.frozen?, hg], fun y => ?_⟩
    obtain ⟨s1, s2⟩ := h.stored (v.length * 2 + 1) (.int .i64 y)
    rw [cellsG_last] at s1
    exact ⟨s1, hb.grown s2 hb.size (by intro k hk; injection hk with hk; omega)⟩
end Go.Proofs.Ytbhbdhjkicmecaa
