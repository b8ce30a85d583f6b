/- Lines of records, one behind the other: which of them have the line of hyphens ahead of them. -/
import Derived.Test.YtebmafghekfllaaDoorModL18
import Derived.Test.YtebmafghekfllaaDoorModT18
import Derived.Test.YtebmafghekfllaaDoorCtxF18
namespace Go.Proofs.YtebmafghekfllaaDoor
open Go Go.RowKit
set_option linter.unusedVariables false
set_option maxRecDepth 20000
/-- One record's line, where st is the number that is awaited, if any was told. -/
def sepS (st : Option Int) (x : Rw) : Bool := match st with | some u => decide (x.n ≠ u) | none => false
def shw1 (m : ByteArray) (s : List ByteArray × Option Int) (x : Rw) : List ByteArray × Option Int := (s.1 ++ (if sepS s.2 x = true then [⟨#[45, 45]⟩] else []) ++ [itoaS x.n ++ m ++ x.tx], some (succI x.n))
def shw (m : ByteArray) (st : Option Int) (l : List Rw) : List ByteArray × Option Int := l.foldl (shw1 m) ([], st)
theorem shw_snoc (m : ByteArray) (st : Option Int) {l : List Rw} {i : Nat} {x : Rw} (h : l[i]? = some x) : shw m st (l.take (i + 1)) = shw1 m (shw m st (l.take i)) x := by
  rw [take_snocL h]
  unfold shw
  rw [List.foldl_append]
  rfl
/-- What the closure knows: whether any was told, and the number that is awaited. -/
structure ShM (w : World) (cg cn : Nat) (st : Option Int) : Prop where
  ne : cg ≠ cn
  bg : w.heap[cg]? = some (.cells #[.bool st.isSome] 4 (0, 0))
  nx : ∃ v : Int, w.heap[cn]? = some (.cells #[.int .i64 v] 3 (0, 0)) ∧ ∀ u, st = some u → v = u
theorem cell_heap0 {w w' : World} {g : Nat} (h : w'.heap[g]? = w.heap[g]?) (o : Nat) : w'.cell? ⟨g, o, none⟩ = w.cell? ⟨g, o, none⟩ := by unfold World.cell?; rw [h]
theorem ShM.keep {w w' : World} {cg cn : Nat} {st : Option Int} (h : ShM w cg cn st) (h1 : w'.heap[cg]? = w.heap[cg]?) (h2 : w'.heap[cn]? = w.heap[cn]?) : ShM w' cg cn st := by
  obtain ⟨v, hv, hu⟩ := h.nx
  exact ⟨h.ne, h1.trans h.bg, v, h2.trans hv, hu⟩
/-- A record's box, and the lines so far. -/
structure ShR (w W : World) (cg cn hd : Nat) (st : Option Int) (x : Rw) (A : Option Addr) (k c : Nat) (out : List ByteArray) : Prop where
  row : RecW W w.heap.size 9 1 (.slice A k c) (strs out)
  sh : ShM W cg cn st
  mv : Moved (fun q => q = cg ∨ q = cn) w W
  bx : W.heap[hd]? = some (.cells #[.int .i64 x.n, .int .i64 x.p, .string x.tx] 31 (0, 0))
  new : w.heap.size ≤ hd
  old : cg < w.heap.size ∧ cn < w.heap.size
section
variable {w W W' : World} {cg cn hd : Nat} {st : Option Int} {x : Rw} {A : Option Addr} {k c : Nat} {out : List ByteArray}
theorem ShR.below (h : ShR w W cg cn hd st x A k c out) (hb : Below W.heap.size W W') : ShR w W' cg cn hd st x A k c out := by
  have h1 := h.old
  have h2 := h.mv.size
  exact ⟨h.row.keep fun q hq _ => hb.block q hq, h.sh.keep (hb.block _ (by omega)) (hb.block _ (by omega)), Moved.trans (F' := fun q => q = cg ∨ q = cn) ⟨h.mv, fun k h => .inl h⟩ (Moved.of_below hb _), (hb.block hd (Array.getElem?_eq_some_iff.1 h.bx).1).trans h.bx, h.new, h.old⟩
theorem ShR.app (h : ShR w W cg cn hd st x A k c out) (s : ByteArray) (hk : k ≤ 1000) :
    ∃ A' c' w2, (Builtin.append_ #[29, 29] 29 #[.slice A k c, .slice (some ⟨W.heap.size, 0, none⟩) 1 1]).run Tryd.prog (W.alloc (.cells #[.string s] 9)) = .ok (.slice A' (k + 1) c') w2 ∧ ShR w w2 cg cn hd st x A' (k + 1) c' (out ++ [s]) := by
  have hlen := rec_len h.row
  have h1 := h.old
  have h2 := h.mv.size
  have hb1 : Below W.heap.size W (W.alloc (.cells #[.string s] 9)) := (Below.refl _ _).alloc (Nat.le_refl _) _
  have h3 := h.below hb1
  have hd1 : (W.alloc (.cells #[.string s] 9)).heap[W.heap.size]? = some (.cells ([.string s] : List Value).toArray 9 (0, 0)) := heap_alloc_new _ _
  obtain ⟨V', w2, happ, hr2, hg2, -, -⟩ := h3.row.app 29 9 _ 1 16 Tryd.underlying29 info_str rfl (by decide) (read_one hd1 (swide _)) (c := 1) (fun h => by cases h) (by rw [hlen]; unfold maxLen; omega) (by rw [hlen]; omega) h3.mv.size
  obtain ⟨A', c', hV', -⟩ := hr2.slice
  rw [List.length_append, hlen, List.length_singleton] at hV'
  subst hV'
  have hkp : ∀ (g : Nat) (cs : Array Value) (t : TypeId) (f : Nat × Nat), (W.alloc (.cells #[.string s] 9)).heap[g]? = some (Obj.cells cs t f) → 9 ≠ t → w2.heap[g]? = (W.alloc (.cells #[.string s] 9)).heap[g]? := fun g cs t f hg hne =>
    hg2.block g (Array.getElem?_eq_some_iff.1 hg).1 (fun e => row_ne_blk h3.row.1 hg hne e.symm)
  obtain ⟨v, hv, _⟩ := h3.sh.nx
  refine ⟨A', c', w2, happ, by rw [strs_append]; exact hr2, h3.sh.keep (hkp cg _ _ _ h3.sh.bg (by decide)) (hkp cn _ _ _ hv (by decide)), h3.mv.grown hg2 (fun q hq => .inr (row_lt h3.row.1 hq).1), (hkp hd _ _ _ h3.bx (by decide)).trans h3.bx, h3.new, h3.old⟩
/-- It was told: what is awaited now. -/
theorem ShR.mark (h : ShR w W cg cn hd st x A k c out) (v : Int) : ShR w ((W.setCell ⟨cg, 0, none⟩ (.bool true)).setCell ⟨cn, 0, none⟩ (.int .i64 v)) cg cn hd (some v) x A k c out := by
  obtain ⟨u, hu, _⟩ := h.sh.nx
  have h1 := h.old
  have h2 := h.new
  have ho : ∀ q, q ≠ cg → q ≠ cn → ((W.setCell ⟨cg, 0, none⟩ (.bool true)).setCell ⟨cn, 0, none⟩ (.int .i64 v)).heap[q]? = W.heap[q]? := fun q e1 e2 => (heap_setCell_other _ _ _ _ e2).trans (heap_setCell_other _ _ _ _ e1)
  have hc : (W.setCell ⟨cg, 0, none⟩ (.bool true)).heap[cn]? = some (.cells #[.int .i64 u] 3 (0, 0)) := (heap_setCell_other _ _ _ _ (fun e => h.sh.ne e.symm)).trans hu
  refine ⟨h.row.keep fun q hq e => ho q (fun e2 => ?_) (fun e2 => ?_), ⟨h.sh.ne, ?_, v, ?_, fun u h => by injection h⟩, (h.mv.setCell (.inl (.inl rfl)) _).setCell (.inl (.inr rfl)) _, (ho hd (by omega) (by omega)).trans h.bx, h.new, h.old⟩
  · have := (row_lt h.row.1 e).1
    omega
  · have := (row_lt h.row.1 e).1
    omega
  · refine (heap_setCell_other _ _ _ _ h.sh.ne).trans ?_
    rw [heap_setCell_same W cg 0 _ _ _ h.sh.bg]
    rfl
  · rw [heap_setCell_same _ cn 0 _ _ _ hc]
    rfl
theorem ShR.drew (h : ShR w W cg cn hd st x A k c out) : ShR w W.drew cg cn hd st x A k c out := h.below ⟨rfl, rfl, rfl, Nat.le_refl _, fun _ _ => rfl⟩
end
end Go.Proofs.YtebmafghekfllaaDoor
