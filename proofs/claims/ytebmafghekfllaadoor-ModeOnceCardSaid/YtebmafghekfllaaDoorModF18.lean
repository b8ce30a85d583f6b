/- The program's teller answers as its chapter says. -/
import Derived.Test.YtebmafghekfllaaDoorModG18
namespace Go.Proofs.YtebmafghekfllaaDoor
open Go Go.RowKit
set_option linter.unusedVariables false
set_option maxRecDepth 20000
def okY (y : Rw) : Prop := (-9223372036854775808 ≤ y.n ∧ y.n ≤ 9223372036854775807) ∧ y.tx.size ≤ 60 ∧ y.hs.length ≤ 10
def vE : Value := .func (Fn.func 18) #[] #[]
def P0 (w : World) (F : Nat → Prop) (g : Nat) (over : Bool) : Prop := F = (fun q => q = g) ∧ TelM w g vE .nilFunc [] false over
def P1 (w : World) (F : Nat → Prop) (g : Nat) (l : List Rw) (over : Bool) : Prop := ∃ bt, F = (fun q => q = g ∨ q = bt) ∧ w.heap[bt]? = some (.cells #[.pointer (some ⟨g, 0, none⟩)] 25 (0, 0)) ∧ TelM w g (fn1 bt) .nilFunc [] (linesF l).2 (over || (linesF l).2)
def P2 (w : World) (F : Nat → Prop) (g : Nat) (l : List Rw) (over : Bool) : Prop := ∃ cr ch, cr ≠ ch ∧ F = (fun q => q = g ∨ q = cr ∨ q = ch) ∧ w.heap[cr]? = some (.cells #[.int .i64 (cntR l l.length : Int)] 3 (0, 0)) ∧ w.heap[ch]? = some (.cells #[.int .i64 (cntH l l.length : Int)] 3 (0, 0)) ∧ TelM w g (fn2 cr ch) (fe2 cr ch) [] false over
def P3 (w : World) (F : Nat → Prop) (g b a : Nat) (l : List Rw) (over : Bool) : Prop := (b ≤ 16 ∧ a ≤ 16) ∧ ∃ ca cb cs ct cf cg cn, F = (fun q => q = g ∨ q = ca ∨ q = cb ∨ q = cs ∨ q = ct ∨ q = cf ∨ q = cg ∨ q = cn) ∧ Ct3 w g ca cb cs ct cf cg cn b a (behN l a) (awC l b a) (if over = true then [] else waitC l b a) false over
def PM : TelP := fun w F g k b a l over => (∀ y ∈ l, okY y) ∧ ((k = 0 ∧ P0 w F g over) ∨ (k = 1 ∧ P1 w F g l over) ∨ (k = 2 ∧ P2 w F g l over) ∨ (k = 3 ∧ P3 w F g b a l over))
theorem cells_le_good0 (x : Rw) : (goodH x).length ≤ x.hs.length := List.length_filter_le _ _
theorem cntR_le (l : List Rw) : cntR l l.length ≤ l.length := by
  unfold cntR
  have := List.length_filter_le (hitB l) (List.range l.length)
  rwa [List.length_range] at this
theorem cntH_le : ∀ (l : List Rw), (∀ y ∈ l, okY y) → cntH l l.length ≤ 10 * l.length := by
  have : ∀ (l : List Rw), (∀ y ∈ l, okY y) → (l.map fun x => (goodH x).length).sum ≤ 10 * l.length := by
    intro l
    induction l with
    | nil => intro _; simp
    | cons y r ih =>
      intro h
      have h1 := ih fun z hz => h z (by simp [hz])
      have h2 := cells_le_good0 y
      have h3 := (h y (by simp)).2.2
      rw [List.map_cons, List.sum_cons, List.length_cons]
      omega
  intro l h
  unfold cntH
  rw [List.take_length]
  exact this l h
section
variable {w0 w W w' : World} {F : Nat → Prop} {g k b a : Nat} {l : List Rw} {over : Bool}
theorem PM.keep (h : PM w F g k b a l over) (hk : ∀ q, F q → w'.heap[q]? = w.heap[q]?) : PM w' F g k b a l over := by
  refine ⟨h.1, ?_⟩
  rcases h.2 with ⟨e, rfl, m⟩ | ⟨e, bt, rfl, h1, m⟩ | ⟨e, cr, ch, hne, rfl, h1, h2, m⟩ | ⟨e, hb, ca, cb, cs, ct, cf, cg, cn, rfl, m⟩
  · exact .inl ⟨e, rfl, m.keep (hk g rfl)⟩
  · exact .inr (.inl ⟨e, bt, rfl, (hk bt (.inr rfl)).trans h1, m.keep (hk g (.inl rfl))⟩)
  · exact .inr (.inr (.inl ⟨e, cr, ch, hne, rfl, (hk cr (.inr (.inl rfl))).trans h1, (hk ch (.inr (.inr rfl))).trans h2, m.keep (hk g (.inl rfl))⟩))
  · exact .inr (.inr (.inr ⟨e, hb, ca, cb, cs, ct, cf, cg, cn, rfl, m.keep fun q hq => hk q hq⟩))
theorem PM.low (h : PM w F g k b a l over) : ∀ q, F q → q < w.heap.size := by
  rcases h.2 with ⟨e, rfl, m⟩ | ⟨e, bt, rfl, h1, m⟩ | ⟨e, cr, ch, hne, rfl, h1, h2, m⟩ | ⟨e, hb, ca, cb, cs, ct, cf, cg, cn, rfl, m⟩
  · intro q hq; have := m.lt; have e : q = g := hq; omega
  · intro q hq
    rcases hq with rfl | rfl
    · exact m.lt
    · exact (Array.getElem?_eq_some_iff.1 h1).1
  · intro q hq
    rcases hq with rfl | rfl | rfl
    · exact m.lt
    · exact (Array.getElem?_eq_some_iff.1 h1).1
    · exact (Array.getElem?_eq_some_iff.1 h2).1
  · obtain ⟨l1, l2, l3, l4, l5, l6, l7, l8⟩ := m.lt
    intro q hq
    rcases hq with rfl | rfl | rfl | rfl | rfl | rfl | rfl | rfl <;> assumption
theorem PM.below (h : PM w F g k b a l over) (hb : Below w.heap.size w w') : PM w' F g k b a l over := h.keep fun q hq => hb.block q (h.low q hq)
/-- What Add is to say, in one piece. -/
def AddsTo (w : World) (F : Nat → Prop) (g k b a : Nat) (l : List Rw) (over : Bool) (x : Rw) (e : Ending) (w' : World) : Prop := ∃ (A : Option Addr) (c : Nat) (out : List ByteArray) (F' : Nat → Prop), e = .returned (.slice A out.length c) ∧ RecW w' w.heap.size 9 1 (.slice A out.length c) (strs out) ∧ Step F F' w w' ∧ (∀ q, (Value.slice A out.length c).ownBlock = some q → ¬ F' q) ∧
      (over = false → (linesV k b a (l ++ [x]) false).1 = (linesV k b a l false).1 ++ out ∧ PM w' F' g k b a (l ++ [x]) false) ∧ (over = true → out = [] ∧ PM w' F' g k b a l true)
theorem adds_done (hlow : ∀ q, F q → q < w.heap.size) (hb : Below w.heap.size w W) {A2 : Option Addr} {n2 c2 : Nat} {out : List ByteArray} (hn : n2 = out.length) (hr : RecW w' W.heap.size 9 1 (.slice A2 n2 c2) (strs out)) (hM : Moved F W w') :
    RecW w' w.heap.size 9 1 (.slice A2 out.length c2) (strs out) ∧ Step F F w w' ∧ ∀ q, (Value.slice A2 out.length c2).ownBlock = some q → ¬ F q := by
  subst hn
  refine ⟨hr.base hb.size, ⟨Moved.tr (Moved.of_below hb F) hM, fun q h => .inl h⟩, fun q hq hF => ?_⟩
  have h1 := (row_lt hr.1 hq).1
  have h2 := hlow q hF
  have h3 := hb.size
  omega
theorem adds_over (h : PM w F g k b a l true) {tv ev : Value} {rs : List Rw} {en : Bool} (hM : TelM w g tv ev rs en true) (x : Rw) : Calls Tryd.prog 9 #[.pointer (some ⟨g, 0, none⟩), x.rcd, .slice x.hA x.hm x.hc] w (AddsTo w F g k b a l true x) := by
  refine (add_over hM x).mono fun e w' hh => ?_
  obtain ⟨rfl, hb⟩ := hh
  exact ⟨none, 0, [], F, rfl, RecW.nil _ _ _ _, ⟨Moved.of_below hb F, fun q h => .inl h⟩, (fun q hq => by cases hq), (fun h => by cases h), fun _ => ⟨rfl, h.below hb⟩⟩
end
end Go.Proofs.YtebmafghekfllaaDoor
