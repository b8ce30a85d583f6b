/- The way of telling by context: its memory. -/
import Derived.Test.YtebmafghekfllaaDoorModC18
import Derived.Test.YtebmafghekfllaaDoorModR18
namespace Go.Proofs.YtebmafghekfllaaDoor
open Go Go.RowKit
set_option linter.unusedVariables false
set_option maxRecDepth 20000
theorem blk_ne {w : World} {b b' : Nat} {cs cs' : Array Value} {t t' : TypeId} {f f' : Nat × Nat} (h : w.heap[b]? = some (.cells cs t f)) (h' : w.heap[b']? = some (.cells cs' t' f')) (hne : t ≠ t') : b ≠ b' := fun e => by
  rw [e, h'] at h
  injection h with h
  injection h with _ h _
  exact hne h.symm
/-- A teller by context. -/
structure Ct3 (w : World) (g ca cb cs ct cf cg cn b a beh : Nat) (st : Option Int) (rs : List Rw) (en ov : Bool) : Prop where
  tel : TelM w g (fn3 ca cb cs ct cf) .nilFunc rs en ov
  ctx : CtxM w g ca cb cs ct cf cg cn b a beh st
section
variable {w w' : World} {g ca cb cs ct cf cg cn b a beh : Nat} {st : Option Int} {rs : List Rw} {en ov : Bool}
theorem Ct3.lt (h : Ct3 w g ca cb cs ct cf cg cn b a beh st rs en ov) : g < w.heap.size ∧ ca < w.heap.size ∧ cb < w.heap.size ∧ cs < w.heap.size ∧ ct < w.heap.size ∧ cf < w.heap.size ∧ cg < w.heap.size ∧ cn < w.heap.size := by
  obtain ⟨v, hv, _⟩ := h.ctx.sh.nx
  exact ⟨h.tel.lt, (Array.getElem?_eq_some_iff.1 h.ctx.ha).1, (Array.getElem?_eq_some_iff.1 h.ctx.hb).1, (Array.getElem?_eq_some_iff.1 h.ctx.hs).1, (Array.getElem?_eq_some_iff.1 h.ctx.ht).1, (Array.getElem?_eq_some_iff.1 h.ctx.hf).1, (Array.getElem?_eq_some_iff.1 h.ctx.sh.bg).1, (Array.getElem?_eq_some_iff.1 hv).1⟩
/-- The blocks are not one another. -/
theorem Ct3.ne (h : Ct3 w g ca cb cs ct cf cg cn b a beh st rs en ov) : (ca ≠ g ∧ cb ≠ g ∧ cs ≠ g ∧ ct ≠ g ∧ cf ≠ g ∧ cg ≠ g ∧ cn ≠ g) ∧ (cb ≠ cs ∧ cb ≠ ct ∧ cb ≠ cg) ∧ (cg ≠ ca ∧ cg ≠ cs ∧ cg ≠ ct ∧ cg ≠ cf) ∧ (cn ≠ cs ∧ cn ≠ ct) := by
  obtain ⟨c, hc, _⟩ := h.tel.hp
  obtain ⟨v, hv, _⟩ := h.ctx.sh.nx
  have k1 := h.ctx.ha
  have k2 := h.ctx.hb
  have k3 := h.ctx.hs
  have k4 := h.ctx.ht
  have k5 := h.ctx.hf
  have k6 := h.ctx.sh.bg
  exact ⟨⟨blk_ne k1 hc (by decide), blk_ne k2 hc (by decide), blk_ne k3 hc (by decide), blk_ne k4 hc (by decide), blk_ne k5 hc (by decide), blk_ne k6 hc (by decide), blk_ne hv hc (by decide)⟩, ⟨blk_ne k2 k3 (by decide), blk_ne k2 k4 (by decide), blk_ne k2 k6 (by decide)⟩, ⟨blk_ne k6 k1 (by decide), blk_ne k6 k3 (by decide), blk_ne k6 k4 (by decide), blk_ne k6 k5 (by decide)⟩, blk_ne hv k3 (by decide), blk_ne hv k4 (by decide)⟩
theorem CtxM.keepS (h : CtxM w g ca cb cs ct cf cg cn b a beh st) {st' : Option Int} (hk : ∀ q, q = ca ∨ q = cb ∨ q = cs ∨ q = ct ∨ q = cf → w'.heap[q]? = w.heap[q]?) (hs : ShM w' cg cn st') : CtxM w' g ca cb cs ct cf cg cn b a beh st' :=
  ⟨(hk ca (by simp)).trans h.ha, (hk cb (by simp)).trans h.hb, (hk cs (by simp)).trans h.hs, (hk ct (by simp)).trans h.ht, (hk cf (by simp)).trans h.hf, hs, h.ne⟩
theorem Ct3.keep (h : Ct3 w g ca cb cs ct cf cg cn b a beh st rs en ov) (hk : ∀ q, q = g ∨ q = ca ∨ q = cb ∨ q = cs ∨ q = ct ∨ q = cf ∨ q = cg ∨ q = cn → w'.heap[q]? = w.heap[q]?) : Ct3 w' g ca cb cs ct cf cg cn b a beh st rs en ov :=
  ⟨h.tel.keep (hk g (by simp)), h.ctx.keepS (fun q hq => hk q (by rcases hq with rfl | rfl | rfl | rfl | rfl <;> simp)) (h.ctx.sh.keep (hk cg (by simp)) (hk cn (by simp)))⟩
theorem Ct3.below (h : Ct3 w g ca cb cs ct cf cg cn b a beh st rs en ov) (hb : Below w.heap.size w w') : Ct3 w' g ca cb cs ct cf cg cn b a beh st rs en ov := by
  have hl := h.lt
  obtain ⟨l1, l2, l3, l4, l5, l6, l7, l8⟩ := hl
  exact h.keep fun q hq => hb.block q (by rcases hq with rfl | rfl | rfl | rfl | rfl | rfl | rfl | rfl <;> assumption)
/-- So many more are told behind. -/
theorem Ct3.setB (h : Ct3 w g ca cb cs ct cf cg cn b a beh st rs en ov) (k : Nat) : Ct3 (w.setCell ⟨cb, 0, none⟩ (.int .i64 (k : Int))) g ca cb cs ct cf cg cn b a k st rs en ov := by
  have hne := h.ne
  have hn2 := h.ctx.ne
  have ho : ∀ q, q ≠ cb → (w.setCell ⟨cb, 0, none⟩ (.int .i64 (k : Int))).heap[q]? = w.heap[q]? := fun q hq => heap_setCell_other _ _ _ _ hq
  refine ⟨h.tel.keep (ho g hne.1.2.1.symm), (ho ca hn2.1).trans h.ctx.ha, ?_, (ho cs hne.2.1.1.symm).trans h.ctx.hs, (ho ct hne.2.1.2.1.symm).trans h.ctx.ht, (ho cf hn2.2.1.symm).trans h.ctx.hf, h.ctx.sh.keep (ho cg hne.2.1.2.2.symm) (ho cn hn2.2.2.1.symm), h.ctx.ne⟩
  rw [heap_setCell_same w cb 0 _ _ _ h.ctx.hb]
  rfl
/-- Its records turn. -/
theorem Ct3.moveT (h : Ct3 w g ca cb cs ct cf cg cn b a beh st rs en ov) {rs' : List Rw} {en' ov' : Bool} (hM : Moved (fun q => q = g) w w') (hT : TelM w' g (fn3 ca cb cs ct cf) .nilFunc rs' en' ov') : Ct3 w' g ca cb cs ct cf cg cn b a beh st rs' en' ov' := by
  have hl := h.lt
  have hne := h.ne
  obtain ⟨l1, l2, l3, l4, l5, l6, l7, l8⟩ := hl
  obtain ⟨n1, n2, n3, n4, n5, n6, n7⟩ := hne.1
  exact ⟨hT, h.ctx.keepS (fun q hq => hM.block q (by rcases hq with rfl | rfl | rfl | rfl | rfl <;> assumption) (by rcases hq with rfl | rfl | rfl | rfl | rfl <;> assumption)) (h.ctx.sh.keep (hM.block cg l7 n6) (hM.block cn l8 n7))⟩
/-- What was told last turns. -/
theorem Ct3.moveS (h : Ct3 w g ca cb cs ct cf cg cn b a beh st rs en ov) {st' : Option Int} (hM : Moved (fun q => q = cg ∨ q = cn) w w') (hS : ShM w' cg cn st') : Ct3 w' g ca cb cs ct cf cg cn b a beh st' rs en ov := by
  have hl := h.lt
  have hne := h.ne
  have hn2 := h.ctx.ne
  obtain ⟨l1, l2, l3, l4, l5, l6, l7, l8⟩ := hl
  obtain ⟨n1, n2, n3, n4, n5, n6, n7⟩ := hne.1
  obtain ⟨-, ⟨p1, p2, p3⟩, ⟨p4, p5, p6, p7⟩, p8, p9⟩ := hne
  obtain ⟨m1, m2, m3, m4, m5⟩ := hn2
  have no : ∀ q, q ≠ cg → q ≠ cn → ¬ (q = cg ∨ q = cn) := fun q a b h => by rcases h with h | h <;> contradiction
  exact ⟨h.tel.keep (hM.block g l1 (no g n6.symm n7.symm)), h.ctx.keepS (fun q hq => hM.block q (by rcases hq with rfl | rfl | rfl | rfl | rfl <;> assumption) (by
    rcases hq with rfl | rfl | rfl | rfl | rfl
    · exact no _ p4.symm m4
    · exact no _ p3 m3
    · exact no _ p5.symm p8.symm
    · exact no _ p6.symm p9.symm
    · exact no _ p7.symm m5)) hS⟩
end
end Go.Proofs.YtebmafghekfllaaDoor
