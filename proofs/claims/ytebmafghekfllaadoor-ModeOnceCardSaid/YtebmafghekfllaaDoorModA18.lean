/- Add, by each way of telling, out of what the way answers. -/
import Derived.Test.YtebmafghekfllaaDoorModY18
import Derived.Test.YtebmafghekfllaaDoorTelF18
namespace Go.Proofs.YtebmafghekfllaaDoor
open Go Go.RowKit
set_option linter.unusedVariables false
set_option maxRecDepth 20000
theorem rec_read0 {w : World} {B : Nat} {e : TypeId} {k s c : Nat} {A : Option Addr} {ys : List (List Value)} (h : RecW w B e s (.slice A k c) ys) : ReadR 0 w A k s ys := by
  have hl := rec_len h
  obtain ⟨A0, c0, e1, hr, _⟩ := h.read
  injection e1 with e1 _ _
  rw [hl] at hr
  rw [e1]
  exact hr.base (Nat.zero_le _)
section
variable {w : World} {g : Nat} {ev : Value} {rs : List Rw} {en : Bool}
theorem add_over {tv : Value} (h : TelM w g tv ev rs en true) (x : Rw) : Calls Tryd.prog 9 #[.pointer (some ⟨g, 0, none⟩), x.rcd, .slice x.hA x.hm x.hc] w fun e w' => e = .returned (.slice none 0 0) ∧ Below w.heap.size w w' := by
  have HB := Lib.hid ((Below.refl w.heap.size w).alloc (Nat.le_refl _) (.cells #[.int .i64 x.n, .int .i64 x.p, .string x.tx] 31))
  have d0 : (w.alloc (.cells #[.int .i64 x.n, .int .i64 x.p, .string x.tx] 31)).cell? ⟨g, 52, none⟩ = some (.bool true) := (h.below ((Below.refl _ _).alloc (Nat.le_refl _) _)).co
  clear h
  unfold Rw.rcd
  go_enter Tryd.func9, Tryd.ntmps9
  go_wp2_with fail
  go_ret
  exact ⟨rfl, HB.out⟩
set_option maxHeartbeats 4000000 in
theorem add_way0 (h : TelM w g (.func (Fn.func 18) #[] #[]) ev rs en false) (x : Rw) (hx : RHits w x) (hm : x.hm ≤ 10) (hz : x.tx.size ≤ 60) (F : Nat → Prop) (hlow : ∀ q, F q → q < w.heap.size) (Q : World → Option Addr → Nat → Nat → World → Prop)
    (HC : ∀ (W : World) (A1 : Option Addr) (c1 : Nat), Below w.heap.size w W → ReadR 0 W A1 (goodH x).length 2 ((goodH x).map hcells) → Calls Tryd.prog 18 #[recV x.n x.p x.tx, .slice A1 (goodH x).length c1] W fun e w' => ∃ A2 n2 c2, e = .returned (.slice A2 n2 c2) ∧ Q W A2 n2 c2 w')
    (HQ : ∀ W A2 n2 c2 w', Q W A2 n2 c2 w' → w'.cell? ⟨g, 0, none⟩ = some (.func (Fn.func 18) #[] #[]) ∧ Moved F W w') :
    Calls Tryd.prog 9 #[.pointer (some ⟨g, 0, none⟩), x.rcd, .slice x.hA x.hm x.hc] w fun e w' => ∃ W A2 n2 c2, Below w.heap.size w W ∧ e = .returned (.slice A2 n2 c2) ∧ Q W A2 n2 c2 w' := by
  obtain ⟨W0, hW0⟩ : ∃ W0, W0 = w.alloc (.cells #[.int .i64 x.n, .int .i64 x.p, .string x.tx] 31) := ⟨_, rfl⟩
  obtain ⟨gx, hgx⟩ : ∃ gx, gx = w.heap.size := ⟨_, rfl⟩
  have hb1 : Below w.heap.size w W0 := by rw [hW0]; exact (Below.refl _ _).alloc (Nat.le_refl _) _
  have h0 := h.below hb1
  have hbx : W0.heap[gx]? = some (.cells #[.int .i64 x.n, .int .i64 x.p, .string x.tx] 31 (0, 0)) := by rw [hW0, hgx]; exact heap_alloc_new _ _
  have gxl := (Array.getElem?_eq_some_iff.1 hbx).1
  have gxn : ¬ F gx := fun e => by have := hlow gx e; omega
  have d0 : W0.cell? ⟨g, 52, none⟩ = some (.bool false) := h0.co
  have HWI := Lib.hid (within_any x W0.drew ((hx.below hb1).below (below_drewN (Below.refl _ _) 1)) (by omega) (by omega))
  have HCC := Lib.hid fun (W : World) (A1 : Option Addr) (c1 : Nat) (hb : Below W0.heap.size W0 W) (hr : ReadR 0 W A1 (goodH x).length 2 ((goodH x).map hcells)) => HC W A1 c1 (hb1.trans (hb.mono hb1.size)) hr
  have HBB := Lib.hid fun (W : World) (hb : Below W0.heap.size W0 W) => hb1.trans (hb.mono hb1.size)
  have HQQ := Lib.hid HQ
  have HCG := Lib.hid fun (W : World) (hb : Below W0.heap.size W0 W) => (h0.below hb).c0
  have hS0 : Moved F W0 W0.drew ∧ W0.drew.cell? ⟨g, 0, none⟩ = some (.func (Fn.func 18) #[] #[]) := ⟨Moved.of_below (below_drewN (Below.refl _ _) 1) _, h0.c0⟩
  have g0 : ∀ W, (Moved F W0 W ∧ W.cell? ⟨g, 0, none⟩ = some (.func (Fn.func 18) #[] #[])) → W.cell? ⟨gx, 0, none⟩ = some (.int .i64 x.n) := fun W hM => cell_of_row W gx 0 _ _ (0, 0) ((hM.1.block gx gxl gxn).trans hbx)
  have g1 : ∀ W, (Moved F W0 W ∧ W.cell? ⟨g, 0, none⟩ = some (.func (Fn.func 18) #[] #[])) → W.cell? ⟨gx, 1, none⟩ = some (.int .i64 x.p) := fun W hM => cell_of_row W gx 1 _ _ (0, 0) ((hM.1.block gx gxl gxn).trans hbx)
  have g2 : ∀ W, (Moved F W0 W ∧ W.cell? ⟨g, 0, none⟩ = some (.func (Fn.func 18) #[] #[])) → W.cell? ⟨gx, 2, none⟩ = some (.string x.tx) := fun W hM => cell_of_row W gx 2 _ _ (0, 0) ((hM.1.block gx gxl gxn).trans hbx)
  have g3 : ∀ W, (Moved F W0 W ∧ W.cell? ⟨g, 0, none⟩ = some (.func (Fn.func 18) #[] #[])) → W.cell? ⟨g, 0, none⟩ = some (.func (Fn.func 18) #[] #[]) := fun W hM => hM.2
  rw [hW0] at d0
  have HW := Lib.hid (And.intro hW0 hgx)
  obtain ⟨z, hzz⟩ : ∃ z, z = (goodH x).length := ⟨_, rfl⟩
  rw [← hzz] at HWI HCC
  clear hW0 hgx hb1 h0 hbx gxl gxn h hx HC HQ hlow hzz
  unfold recV at HCC
  unfold Rw.rcd
  go_enter Tryd.func9, Tryd.ntmps9
  go_wp2_with fail
  rw [← HW.out.1, ← HW.out.2]
  clear d0
  go_region_held (fun W => Moved F W0 W ∧ W.cell? ⟨g, 0, none⟩ = some (.func (Fn.func 18) #[] #[])) (assumption) (first
    | (go_at_call 22; (with_reducible refine HWI.out.mono ?_); rintro e w1 ⟨A1, c1, rfl, hr1, hb1⟩; have hb01 : Below W0.heap.size W0 w1 := ⟨hb1.os, hb1.tape, hb1.output, hb1.size, hb1.block⟩; have HB01 := Lib.hid hb01; have HR1 := Lib.hid (rec_read0 hr1); have hS1 : Moved F W0 w1 ∧ w1.cell? ⟨g, 0, none⟩ = some (.func (Fn.func 18) #[] #[]) := ⟨Moved.of_below hb01 _, HCG.out w1 hb01⟩; clear hr1 hb1 hb01)
    | (go_at_call 18; (with_reducible refine (HCC.out w1 A1 c1 HB01.out HR1.out).mono ?_); rintro e w2 ⟨A2, n2, c2, rfl, hq⟩; have HQ2 := Lib.hid hq; have hS2 : Moved F W0 w2 ∧ w2.cell? ⟨g, 0, none⟩ = some (.func (Fn.func 18) #[] #[]) := ⟨Moved.tr hS1.1 (HQQ.out _ _ _ _ _ hq).2, (HQQ.out _ _ _ _ _ hq).1⟩; clear hq))
  simp only [Exit.then]
  go_wp2_with fail
  go_ret
  exact ⟨w1, A2, n2, c2, HBB.out w1 HB01.out, rfl, HQ2.out⟩
set_option maxHeartbeats 4000000 in
theorem add_way1 (bt : Nat) (h : TelM w g (.func (Fn.func 28) #[] #[.pointer (some ⟨bt, 0, none⟩)]) ev rs en false) (x : Rw) (hx : RHits w x) (hm : x.hm ≤ 10) (hz : x.tx.size ≤ 60) (F : Nat → Prop) (hlow : ∀ q, F q → q < w.heap.size) (Q : World → Option Addr → Nat → Nat → World → Prop)
    (HC : ∀ (W : World) (A1 : Option Addr) (c1 : Nat), Below w.heap.size w W → ReadR 0 W A1 (goodH x).length 2 ((goodH x).map hcells) → Calls Tryd.prog 28 #[recV x.n x.p x.tx, .slice A1 (goodH x).length c1, .pointer (some ⟨bt, 0, none⟩)] W fun e w' => ∃ A2 n2 c2, e = .returned (.slice A2 n2 c2) ∧ Q W A2 n2 c2 w')
    (HQ : ∀ W A2 n2 c2 w', Q W A2 n2 c2 w' → w'.cell? ⟨g, 0, none⟩ = some (.func (Fn.func 28) #[] #[.pointer (some ⟨bt, 0, none⟩)]) ∧ Moved F W w') :
    Calls Tryd.prog 9 #[.pointer (some ⟨g, 0, none⟩), x.rcd, .slice x.hA x.hm x.hc] w fun e w' => ∃ W A2 n2 c2, Below w.heap.size w W ∧ e = .returned (.slice A2 n2 c2) ∧ Q W A2 n2 c2 w' := by
  obtain ⟨W0, hW0⟩ : ∃ W0, W0 = w.alloc (.cells #[.int .i64 x.n, .int .i64 x.p, .string x.tx] 31) := ⟨_, rfl⟩
  obtain ⟨gx, hgx⟩ : ∃ gx, gx = w.heap.size := ⟨_, rfl⟩
  have hb1 : Below w.heap.size w W0 := by rw [hW0]; exact (Below.refl _ _).alloc (Nat.le_refl _) _
  have h0 := h.below hb1
  have hbx : W0.heap[gx]? = some (.cells #[.int .i64 x.n, .int .i64 x.p, .string x.tx] 31 (0, 0)) := by rw [hW0, hgx]; exact heap_alloc_new _ _
  have gxl := (Array.getElem?_eq_some_iff.1 hbx).1
  have gxn : ¬ F gx := fun e => by have := hlow gx e; omega
  have d0 : W0.cell? ⟨g, 52, none⟩ = some (.bool false) := h0.co
  have HWI := Lib.hid (within_any x W0.drew ((hx.below hb1).below (below_drewN (Below.refl _ _) 1)) (by omega) (by omega))
  have HCC := Lib.hid fun (W : World) (A1 : Option Addr) (c1 : Nat) (hb : Below W0.heap.size W0 W) (hr : ReadR 0 W A1 (goodH x).length 2 ((goodH x).map hcells)) => HC W A1 c1 (hb1.trans (hb.mono hb1.size)) hr
  have HBB := Lib.hid fun (W : World) (hb : Below W0.heap.size W0 W) => hb1.trans (hb.mono hb1.size)
  have HQQ := Lib.hid HQ
  have HCG := Lib.hid fun (W : World) (hb : Below W0.heap.size W0 W) => (h0.below hb).c0
  have hS0 : Moved F W0 W0.drew ∧ W0.drew.cell? ⟨g, 0, none⟩ = some (.func (Fn.func 28) #[] #[.pointer (some ⟨bt, 0, none⟩)]) := ⟨Moved.of_below (below_drewN (Below.refl _ _) 1) _, h0.c0⟩
  have g0 : ∀ W, (Moved F W0 W ∧ W.cell? ⟨g, 0, none⟩ = some (.func (Fn.func 28) #[] #[.pointer (some ⟨bt, 0, none⟩)])) → W.cell? ⟨gx, 0, none⟩ = some (.int .i64 x.n) := fun W hM => cell_of_row W gx 0 _ _ (0, 0) ((hM.1.block gx gxl gxn).trans hbx)
  have g1 : ∀ W, (Moved F W0 W ∧ W.cell? ⟨g, 0, none⟩ = some (.func (Fn.func 28) #[] #[.pointer (some ⟨bt, 0, none⟩)])) → W.cell? ⟨gx, 1, none⟩ = some (.int .i64 x.p) := fun W hM => cell_of_row W gx 1 _ _ (0, 0) ((hM.1.block gx gxl gxn).trans hbx)
  have g2 : ∀ W, (Moved F W0 W ∧ W.cell? ⟨g, 0, none⟩ = some (.func (Fn.func 28) #[] #[.pointer (some ⟨bt, 0, none⟩)])) → W.cell? ⟨gx, 2, none⟩ = some (.string x.tx) := fun W hM => cell_of_row W gx 2 _ _ (0, 0) ((hM.1.block gx gxl gxn).trans hbx)
  have g3 : ∀ W, (Moved F W0 W ∧ W.cell? ⟨g, 0, none⟩ = some (.func (Fn.func 28) #[] #[.pointer (some ⟨bt, 0, none⟩)])) → W.cell? ⟨g, 0, none⟩ = some (.func (Fn.func 28) #[] #[.pointer (some ⟨bt, 0, none⟩)]) := fun W hM => hM.2
  rw [hW0] at d0
  have HW := Lib.hid (And.intro hW0 hgx)
  obtain ⟨z, hzz⟩ : ∃ z, z = (goodH x).length := ⟨_, rfl⟩
  rw [← hzz] at HWI HCC
  clear hW0 hgx hb1 h0 hbx gxl gxn h hx HC HQ hlow hzz
  unfold recV at HCC
  unfold Rw.rcd
  go_enter Tryd.func9, Tryd.ntmps9
  go_wp2_with fail
  rw [← HW.out.1, ← HW.out.2]
  clear d0
  go_region_held (fun W => Moved F W0 W ∧ W.cell? ⟨g, 0, none⟩ = some (.func (Fn.func 28) #[] #[.pointer (some ⟨bt, 0, none⟩)])) (assumption) (first
    | (go_at_call 22; (with_reducible refine HWI.out.mono ?_); rintro e w1 ⟨A1, c1, rfl, hr1, hb1⟩; have hb01 : Below W0.heap.size W0 w1 := ⟨hb1.os, hb1.tape, hb1.output, hb1.size, hb1.block⟩; have HB01 := Lib.hid hb01; have HR1 := Lib.hid (rec_read0 hr1); have hS1 : Moved F W0 w1 ∧ w1.cell? ⟨g, 0, none⟩ = some (.func (Fn.func 28) #[] #[.pointer (some ⟨bt, 0, none⟩)]) := ⟨Moved.of_below hb01 _, HCG.out w1 hb01⟩; clear hr1 hb1 hb01)
    | (go_at_call 28; (with_reducible refine (HCC.out w1 A1 c1 HB01.out HR1.out).mono ?_); rintro e w2 ⟨A2, n2, c2, rfl, hq⟩; have HQ2 := Lib.hid hq; have hS2 : Moved F W0 w2 ∧ w2.cell? ⟨g, 0, none⟩ = some (.func (Fn.func 28) #[] #[.pointer (some ⟨bt, 0, none⟩)]) := ⟨Moved.tr hS1.1 (HQQ.out _ _ _ _ _ hq).2, (HQQ.out _ _ _ _ _ hq).1⟩; clear hq))
  simp only [Exit.then]
  go_wp2_with fail
  go_ret
  exact ⟨w1, A2, n2, c2, HBB.out w1 HB01.out, rfl, HQ2.out⟩
set_option maxHeartbeats 4000000 in
theorem add_way2 (cr ch : Nat) (h : TelM w g (.func (Fn.func 29) #[] #[.pointer (some ⟨cr, 0, none⟩), .pointer (some ⟨ch, 0, none⟩)]) ev rs en false) (x : Rw) (hx : RHits w x) (hm : x.hm ≤ 10) (hz : x.tx.size ≤ 60) (F : Nat → Prop) (hlow : ∀ q, F q → q < w.heap.size) (Q : World → Option Addr → Nat → Nat → World → Prop)
    (HC : ∀ (W : World) (A1 : Option Addr) (c1 : Nat), Below w.heap.size w W → ReadR 0 W A1 (goodH x).length 2 ((goodH x).map hcells) → Calls Tryd.prog 29 #[recV x.n x.p x.tx, .slice A1 (goodH x).length c1, .pointer (some ⟨cr, 0, none⟩), .pointer (some ⟨ch, 0, none⟩)] W fun e w' => ∃ A2 n2 c2, e = .returned (.slice A2 n2 c2) ∧ Q W A2 n2 c2 w')
    (HQ : ∀ W A2 n2 c2 w', Q W A2 n2 c2 w' → w'.cell? ⟨g, 0, none⟩ = some (.func (Fn.func 29) #[] #[.pointer (some ⟨cr, 0, none⟩), .pointer (some ⟨ch, 0, none⟩)]) ∧ Moved F W w') :
    Calls Tryd.prog 9 #[.pointer (some ⟨g, 0, none⟩), x.rcd, .slice x.hA x.hm x.hc] w fun e w' => ∃ W A2 n2 c2, Below w.heap.size w W ∧ e = .returned (.slice A2 n2 c2) ∧ Q W A2 n2 c2 w' := by
  obtain ⟨W0, hW0⟩ : ∃ W0, W0 = w.alloc (.cells #[.int .i64 x.n, .int .i64 x.p, .string x.tx] 31) := ⟨_, rfl⟩
  obtain ⟨gx, hgx⟩ : ∃ gx, gx = w.heap.size := ⟨_, rfl⟩
  have hb1 : Below w.heap.size w W0 := by rw [hW0]; exact (Below.refl _ _).alloc (Nat.le_refl _) _
  have h0 := h.below hb1
  have hbx : W0.heap[gx]? = some (.cells #[.int .i64 x.n, .int .i64 x.p, .string x.tx] 31 (0, 0)) := by rw [hW0, hgx]; exact heap_alloc_new _ _
  have gxl := (Array.getElem?_eq_some_iff.1 hbx).1
  have gxn : ¬ F gx := fun e => by have := hlow gx e; omega
  have d0 : W0.cell? ⟨g, 52, none⟩ = some (.bool false) := h0.co
  have HWI := Lib.hid (within_any x W0.drew ((hx.below hb1).below (below_drewN (Below.refl _ _) 1)) (by omega) (by omega))
  have HCC := Lib.hid fun (W : World) (A1 : Option Addr) (c1 : Nat) (hb : Below W0.heap.size W0 W) (hr : ReadR 0 W A1 (goodH x).length 2 ((goodH x).map hcells)) => HC W A1 c1 (hb1.trans (hb.mono hb1.size)) hr
  have HBB := Lib.hid fun (W : World) (hb : Below W0.heap.size W0 W) => hb1.trans (hb.mono hb1.size)
  have HQQ := Lib.hid HQ
  have HCG := Lib.hid fun (W : World) (hb : Below W0.heap.size W0 W) => (h0.below hb).c0
  have hS0 : Moved F W0 W0.drew ∧ W0.drew.cell? ⟨g, 0, none⟩ = some (.func (Fn.func 29) #[] #[.pointer (some ⟨cr, 0, none⟩), .pointer (some ⟨ch, 0, none⟩)]) := ⟨Moved.of_below (below_drewN (Below.refl _ _) 1) _, h0.c0⟩
  have g0 : ∀ W, (Moved F W0 W ∧ W.cell? ⟨g, 0, none⟩ = some (.func (Fn.func 29) #[] #[.pointer (some ⟨cr, 0, none⟩), .pointer (some ⟨ch, 0, none⟩)])) → W.cell? ⟨gx, 0, none⟩ = some (.int .i64 x.n) := fun W hM => cell_of_row W gx 0 _ _ (0, 0) ((hM.1.block gx gxl gxn).trans hbx)
  have g1 : ∀ W, (Moved F W0 W ∧ W.cell? ⟨g, 0, none⟩ = some (.func (Fn.func 29) #[] #[.pointer (some ⟨cr, 0, none⟩), .pointer (some ⟨ch, 0, none⟩)])) → W.cell? ⟨gx, 1, none⟩ = some (.int .i64 x.p) := fun W hM => cell_of_row W gx 1 _ _ (0, 0) ((hM.1.block gx gxl gxn).trans hbx)
  have g2 : ∀ W, (Moved F W0 W ∧ W.cell? ⟨g, 0, none⟩ = some (.func (Fn.func 29) #[] #[.pointer (some ⟨cr, 0, none⟩), .pointer (some ⟨ch, 0, none⟩)])) → W.cell? ⟨gx, 2, none⟩ = some (.string x.tx) := fun W hM => cell_of_row W gx 2 _ _ (0, 0) ((hM.1.block gx gxl gxn).trans hbx)
  have g3 : ∀ W, (Moved F W0 W ∧ W.cell? ⟨g, 0, none⟩ = some (.func (Fn.func 29) #[] #[.pointer (some ⟨cr, 0, none⟩), .pointer (some ⟨ch, 0, none⟩)])) → W.cell? ⟨g, 0, none⟩ = some (.func (Fn.func 29) #[] #[.pointer (some ⟨cr, 0, none⟩), .pointer (some ⟨ch, 0, none⟩)]) := fun W hM => hM.2
  rw [hW0] at d0
  have HW := Lib.hid (And.intro hW0 hgx)
  obtain ⟨z, hzz⟩ : ∃ z, z = (goodH x).length := ⟨_, rfl⟩
  rw [← hzz] at HWI HCC
  clear hW0 hgx hb1 h0 hbx gxl gxn h hx HC HQ hlow hzz
  unfold recV at HCC
  unfold Rw.rcd
  go_enter Tryd.func9, Tryd.ntmps9
  go_wp2_with fail
  rw [← HW.out.1, ← HW.out.2]
  clear d0
  go_region_held (fun W => Moved F W0 W ∧ W.cell? ⟨g, 0, none⟩ = some (.func (Fn.func 29) #[] #[.pointer (some ⟨cr, 0, none⟩), .pointer (some ⟨ch, 0, none⟩)])) (assumption) (first
    | (go_at_call 22; (with_reducible refine HWI.out.mono ?_); rintro e w1 ⟨A1, c1, rfl, hr1, hb1⟩; have hb01 : Below W0.heap.size W0 w1 := ⟨hb1.os, hb1.tape, hb1.output, hb1.size, hb1.block⟩; have HB01 := Lib.hid hb01; have HR1 := Lib.hid (rec_read0 hr1); have hS1 : Moved F W0 w1 ∧ w1.cell? ⟨g, 0, none⟩ = some (.func (Fn.func 29) #[] #[.pointer (some ⟨cr, 0, none⟩), .pointer (some ⟨ch, 0, none⟩)]) := ⟨Moved.of_below hb01 _, HCG.out w1 hb01⟩; clear hr1 hb1 hb01)
    | (go_at_call 29; (with_reducible refine (HCC.out w1 A1 c1 HB01.out HR1.out).mono ?_); rintro e w2 ⟨A2, n2, c2, rfl, hq⟩; have HQ2 := Lib.hid hq; have hS2 : Moved F W0 w2 ∧ w2.cell? ⟨g, 0, none⟩ = some (.func (Fn.func 29) #[] #[.pointer (some ⟨cr, 0, none⟩), .pointer (some ⟨ch, 0, none⟩)]) := ⟨Moved.tr hS1.1 (HQQ.out _ _ _ _ _ hq).2, (HQQ.out _ _ _ _ _ hq).1⟩; clear hq))
  simp only [Exit.then]
  go_wp2_with fail
  go_ret
  exact ⟨w1, A2, n2, c2, HBB.out w1 HB01.out, rfl, HQ2.out⟩
set_option maxHeartbeats 4000000 in
theorem add_way3 (ca cb cs ct cf : Nat) (h : TelM w g (.func (Fn.func 32) #[] #[.pointer (some ⟨ca, 0, none⟩), .pointer (some ⟨cb, 0, none⟩), .pointer (some ⟨cs, 0, none⟩), .pointer (some ⟨ct, 0, none⟩), .pointer (some ⟨cf, 0, none⟩)]) ev rs en false) (x : Rw) (hx : RHits w x) (hm : x.hm ≤ 10) (hz : x.tx.size ≤ 60) (F : Nat → Prop) (hlow : ∀ q, F q → q < w.heap.size) (Q : World → Option Addr → Nat → Nat → World → Prop)
    (HC : ∀ (W : World) (A1 : Option Addr) (c1 : Nat), Below w.heap.size w W → ReadR 0 W A1 (goodH x).length 2 ((goodH x).map hcells) → Calls Tryd.prog 32 #[recV x.n x.p x.tx, .slice A1 (goodH x).length c1, .pointer (some ⟨ca, 0, none⟩), .pointer (some ⟨cb, 0, none⟩), .pointer (some ⟨cs, 0, none⟩), .pointer (some ⟨ct, 0, none⟩), .pointer (some ⟨cf, 0, none⟩)] W fun e w' => ∃ A2 n2 c2, e = .returned (.slice A2 n2 c2) ∧ Q W A2 n2 c2 w')
    (HQ : ∀ W A2 n2 c2 w', Q W A2 n2 c2 w' → w'.cell? ⟨g, 0, none⟩ = some (.func (Fn.func 32) #[] #[.pointer (some ⟨ca, 0, none⟩), .pointer (some ⟨cb, 0, none⟩), .pointer (some ⟨cs, 0, none⟩), .pointer (some ⟨ct, 0, none⟩), .pointer (some ⟨cf, 0, none⟩)]) ∧ Moved F W w') :
    Calls Tryd.prog 9 #[.pointer (some ⟨g, 0, none⟩), x.rcd, .slice x.hA x.hm x.hc] w fun e w' => ∃ W A2 n2 c2, Below w.heap.size w W ∧ e = .returned (.slice A2 n2 c2) ∧ Q W A2 n2 c2 w' := by
  obtain ⟨W0, hW0⟩ : ∃ W0, W0 = w.alloc (.cells #[.int .i64 x.n, .int .i64 x.p, .string x.tx] 31) := ⟨_, rfl⟩
  obtain ⟨gx, hgx⟩ : ∃ gx, gx = w.heap.size := ⟨_, rfl⟩
  have hb1 : Below w.heap.size w W0 := by rw [hW0]; exact (Below.refl _ _).alloc (Nat.le_refl _) _
  have h0 := h.below hb1
  have hbx : W0.heap[gx]? = some (.cells #[.int .i64 x.n, .int .i64 x.p, .string x.tx] 31 (0, 0)) := by rw [hW0, hgx]; exact heap_alloc_new _ _
  have gxl := (Array.getElem?_eq_some_iff.1 hbx).1
  have gxn : ¬ F gx := fun e => by have := hlow gx e; omega
  have d0 : W0.cell? ⟨g, 52, none⟩ = some (.bool false) := h0.co
  have HWI := Lib.hid (within_any x W0.drew ((hx.below hb1).below (below_drewN (Below.refl _ _) 1)) (by omega) (by omega))
  have HCC := Lib.hid fun (W : World) (A1 : Option Addr) (c1 : Nat) (hb : Below W0.heap.size W0 W) (hr : ReadR 0 W A1 (goodH x).length 2 ((goodH x).map hcells)) => HC W A1 c1 (hb1.trans (hb.mono hb1.size)) hr
  have HBB := Lib.hid fun (W : World) (hb : Below W0.heap.size W0 W) => hb1.trans (hb.mono hb1.size)
  have HQQ := Lib.hid HQ
  have HCG := Lib.hid fun (W : World) (hb : Below W0.heap.size W0 W) => (h0.below hb).c0
  have hS0 : Moved F W0 W0.drew ∧ W0.drew.cell? ⟨g, 0, none⟩ = some (.func (Fn.func 32) #[] #[.pointer (some ⟨ca, 0, none⟩), .pointer (some ⟨cb, 0, none⟩), .pointer (some ⟨cs, 0, none⟩), .pointer (some ⟨ct, 0, none⟩), .pointer (some ⟨cf, 0, none⟩)]) := ⟨Moved.of_below (below_drewN (Below.refl _ _) 1) _, h0.c0⟩
  have g0 : ∀ W, (Moved F W0 W ∧ W.cell? ⟨g, 0, none⟩ = some (.func (Fn.func 32) #[] #[.pointer (some ⟨ca, 0, none⟩), .pointer (some ⟨cb, 0, none⟩), .pointer (some ⟨cs, 0, none⟩), .pointer (some ⟨ct, 0, none⟩), .pointer (some ⟨cf, 0, none⟩)])) → W.cell? ⟨gx, 0, none⟩ = some (.int .i64 x.n) := fun W hM => cell_of_row W gx 0 _ _ (0, 0) ((hM.1.block gx gxl gxn).trans hbx)
  have g1 : ∀ W, (Moved F W0 W ∧ W.cell? ⟨g, 0, none⟩ = some (.func (Fn.func 32) #[] #[.pointer (some ⟨ca, 0, none⟩), .pointer (some ⟨cb, 0, none⟩), .pointer (some ⟨cs, 0, none⟩), .pointer (some ⟨ct, 0, none⟩), .pointer (some ⟨cf, 0, none⟩)])) → W.cell? ⟨gx, 1, none⟩ = some (.int .i64 x.p) := fun W hM => cell_of_row W gx 1 _ _ (0, 0) ((hM.1.block gx gxl gxn).trans hbx)
  have g2 : ∀ W, (Moved F W0 W ∧ W.cell? ⟨g, 0, none⟩ = some (.func (Fn.func 32) #[] #[.pointer (some ⟨ca, 0, none⟩), .pointer (some ⟨cb, 0, none⟩), .pointer (some ⟨cs, 0, none⟩), .pointer (some ⟨ct, 0, none⟩), .pointer (some ⟨cf, 0, none⟩)])) → W.cell? ⟨gx, 2, none⟩ = some (.string x.tx) := fun W hM => cell_of_row W gx 2 _ _ (0, 0) ((hM.1.block gx gxl gxn).trans hbx)
  have g3 : ∀ W, (Moved F W0 W ∧ W.cell? ⟨g, 0, none⟩ = some (.func (Fn.func 32) #[] #[.pointer (some ⟨ca, 0, none⟩), .pointer (some ⟨cb, 0, none⟩), .pointer (some ⟨cs, 0, none⟩), .pointer (some ⟨ct, 0, none⟩), .pointer (some ⟨cf, 0, none⟩)])) → W.cell? ⟨g, 0, none⟩ = some (.func (Fn.func 32) #[] #[.pointer (some ⟨ca, 0, none⟩), .pointer (some ⟨cb, 0, none⟩), .pointer (some ⟨cs, 0, none⟩), .pointer (some ⟨ct, 0, none⟩), .pointer (some ⟨cf, 0, none⟩)]) := fun W hM => hM.2
  rw [hW0] at d0
  have HW := Lib.hid (And.intro hW0 hgx)
  obtain ⟨z, hzz⟩ : ∃ z, z = (goodH x).length := ⟨_, rfl⟩
  rw [← hzz] at HWI HCC
  clear hW0 hgx hb1 h0 hbx gxl gxn h hx HC HQ hlow hzz
  unfold recV at HCC
  unfold Rw.rcd
  go_enter Tryd.func9, Tryd.ntmps9
  go_wp2_with fail
  rw [← HW.out.1, ← HW.out.2]
  clear d0
  go_region_held (fun W => Moved F W0 W ∧ W.cell? ⟨g, 0, none⟩ = some (.func (Fn.func 32) #[] #[.pointer (some ⟨ca, 0, none⟩), .pointer (some ⟨cb, 0, none⟩), .pointer (some ⟨cs, 0, none⟩), .pointer (some ⟨ct, 0, none⟩), .pointer (some ⟨cf, 0, none⟩)])) (assumption) (first
    | (go_at_call 22; (with_reducible refine HWI.out.mono ?_); rintro e w1 ⟨A1, c1, rfl, hr1, hb1⟩; have hb01 : Below W0.heap.size W0 w1 := ⟨hb1.os, hb1.tape, hb1.output, hb1.size, hb1.block⟩; have HB01 := Lib.hid hb01; have HR1 := Lib.hid (rec_read0 hr1); have hS1 : Moved F W0 w1 ∧ w1.cell? ⟨g, 0, none⟩ = some (.func (Fn.func 32) #[] #[.pointer (some ⟨ca, 0, none⟩), .pointer (some ⟨cb, 0, none⟩), .pointer (some ⟨cs, 0, none⟩), .pointer (some ⟨ct, 0, none⟩), .pointer (some ⟨cf, 0, none⟩)]) := ⟨Moved.of_below hb01 _, HCG.out w1 hb01⟩; clear hr1 hb1 hb01)
    | (go_at_call 32; (with_reducible refine (HCC.out w1 A1 c1 HB01.out HR1.out).mono ?_); rintro e w2 ⟨A2, n2, c2, rfl, hq⟩; have HQ2 := Lib.hid hq; have hS2 : Moved F W0 w2 ∧ w2.cell? ⟨g, 0, none⟩ = some (.func (Fn.func 32) #[] #[.pointer (some ⟨ca, 0, none⟩), .pointer (some ⟨cb, 0, none⟩), .pointer (some ⟨cs, 0, none⟩), .pointer (some ⟨ct, 0, none⟩), .pointer (some ⟨cf, 0, none⟩)]) := ⟨Moved.tr hS1.1 (HQQ.out _ _ _ _ _ hq).2, (HQQ.out _ _ _ _ _ hq).1⟩; clear hq))
  simp only [Exit.then]
  go_wp2_with fail
  go_ret
  exact ⟨w1, A2, n2, c2, HBB.out w1 HB01.out, rfl, HQ2.out⟩
end
end Go.Proofs.YtebmafghekfllaaDoor
