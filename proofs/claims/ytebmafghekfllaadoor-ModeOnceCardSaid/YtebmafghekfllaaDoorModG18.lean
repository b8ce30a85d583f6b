/- End, Enough, Held. -/
import Derived.Test.YtebmafghekfllaaDoorModA18
namespace Go.Proofs.YtebmafghekfllaaDoor
open Go Go.RowKit
set_option linter.unusedVariables false
set_option maxRecDepth 20000
theorem eqf_nil (w : World) : (binOp .eql 40 .nilFunc .nilFunc).run Tryd.prog w = .ok (.bool true) w := by
  have h : ∀ d : Nat, (Op.equalIn (d + 1) 40 .nilFunc .nilFunc).run Tryd.prog w = .ok true w := fun d => by
    simp [Op.equalIn, run_underlying Tryd.underlying40]
  simp only [binOp]
  simp [Op.equal, Op.maxDepth, h 9999]
theorem eqf_fn (w : World) (f : Fn) (a c : Array Value) : (binOp .eql 40 (.func f a c) .nilFunc).run Tryd.prog w = .ok (.bool false) w := by
  have h : ∀ d : Nat, (Op.equalIn (d + 1) 40 (.func f a c) .nilFunc).run Tryd.prog w = .ok false w := fun d => by
    simp [Op.equalIn, run_underlying Tryd.underlying40]
  simp only [binOp]
  simp [Op.equal, Op.maxDepth, h 9999]
section
variable {w0 w : World} {g : Nat} {tv ev : Value} {rs : List Rw} {en ov : Bool}
theorem end_over (h : TelM w g tv ev rs en true) : Calls Tryd.prog 14 #[.pointer (some ⟨g, 0, none⟩)] w fun e w' => e = .returned (.slice none 0 0) ∧ w' = w := by
  have d0 := h.co
  clear h
  go_enter Tryd.func14, Tryd.ntmps14
  go_wp2_with fail
  go_ret
  exact ⟨rfl, rfl⟩
set_option maxHeartbeats 4000000 in
theorem end_nil (h : TelM w g tv .nilFunc rs en false) : Calls Tryd.prog 14 #[.pointer (some ⟨g, 0, none⟩)] w fun e w' => e = .returned (.slice none 0 0) ∧ TelM w' g tv .nilFunc [] en true ∧ Moved (fun q => q = g) w w' := by
  have d0 := h.co
  have d1 := h.fz 52
  have HH := Lib.hid h.over_
  have HM := Lib.hid ((Moved.refl (fun q => q = g) w).setCell (p := ⟨g, 52, none⟩) (.inl rfl) (.bool true))
  have hwc := wait_cells
  have q1 := eqf_nil
  clear h
  go_enter Tryd.func14, Tryd.ntmps14
  go_wp2_with (refine wpList_store_zero rfl (.tmp 13) (.tmp 9) rfl rfl rfl HH.out ?_; intro w5 hm5 hg5 hs5; have e1 := hm5.c1; have H5 := Lib.hid (And.intro hm5 hg5); clear hm5 hg5 hs5)
  go_ret
  exact ⟨rfl, H5.out.1, HM.out.grown H5.out.2 (fun k hk => .inl (by injection hk with hk; exact hk.symm))⟩
set_option maxHeartbeats 4000000 in
theorem end_cnt {cr ch r k : Nat} (h : TelM w g tv (fe2 cr ch) rs en false) (hr : w.heap[cr]? = some (.cells #[.int .i64 (r : Int)] 3 (0, 0))) (hh : w.heap[ch]? = some (.cells #[.int .i64 (k : Int)] 3 (0, 0))) (hr2 : r ≤ 10000) (hk2 : k ≤ 10000) (hT : Pow18 w0) (hb0 : Below w0.heap.size w0 w) (hg0 : w0.heap.size ≤ g) :
    Calls Tryd.prog 14 #[.pointer (some ⟨g, 0, none⟩)] w fun e w' => ∃ A c, e = .returned (.slice A 1 c) ∧ RecW w' w.heap.size 9 1 (.slice A 1 c) (strs [itoaS (r : Int) ++ ⟨#[32]⟩ ++ itoaS (k : Int)]) ∧ TelM w' g tv (fe2 cr ch) [] en true ∧ Moved (fun q => q = g) w w' := by
  have d0 := h.co
  have d1 := h.fz 52
  have HH := Lib.hid h.over_
  have hM0 : Moved (fun q => q = g) w (w.setCell ⟨g, 52, none⟩ (.bool true)) := (Moved.refl (fun q => q = g) w).setCell (p := ⟨g, 52, none⟩) (.inl rfl) (.bool true)
  obtain ⟨cs, hcs, _⟩ := h.hp
  have n1 := blk_ne hr hcs (by decide)
  have n2 := blk_ne hh hcs (by decide)
  have l1 := (Array.getElem?_eq_some_iff.1 hr).1
  have l2 := (Array.getElem?_eq_some_iff.1 hh).1
  have HC := Lib.hid fun (W : World) (hM : Moved (fun q => q = g) w W) => cnt_end (w := W) cr ch r k ((hM.block cr l1 n1).trans hr) ((hM.block ch l2 n2).trans hh) hr2 hk2 (hT.on (hb0.trans (hM.below (B := w0.heap.size) (fun k hk => by rw [hk]; exact hg0) hb0.size)))
  have HM := Lib.hid hM0
  have hwc := wait_cells
  have q1 := eqf_fn
  obtain ⟨L, hL⟩ : ∃ L, L = itoaS (r : Int) ++ ⟨#[32]⟩ ++ itoaS (k : Int) := ⟨_, rfl⟩
  rw [← hL] at HC ⊢
  clear h hr hh hT hb0 hg0 n1 n2 l1 l2 hcs hM0 hL
  go_enter Tryd.func14, Tryd.ntmps14
  go_wp2_with (refine wpList_store_zero rfl (.tmp 13) (.tmp 9) rfl rfl rfl HH.out ?_; intro w5 hm5 hg5 hs5; have e1 := hm5.c1; unfold fe2 at e1; have H5 := Lib.hid (And.intro hm5 (HM.out.grown hg5 (fun k hk => .inl (by injection hk with hk; exact hk.symm)))); clear hm5 hg5 hs5)
  (with_reducible refine (HC.out w5 H5.out.2).mono ?_); rintro e w6 ⟨A, c, rfl, hr6, hb6⟩
  have H6 := Lib.hid (And.intro hr6 hb6)
  clear hr6 hb6 e1
  go_wp2_with fail
  go_ret
  exact ⟨A, c, rfl, H6.out.1.base H5.out.2.size, H5.out.1.below H6.out.2, Moved.tr H5.out.2 (Moved.of_below H6.out.2 _)⟩
theorem eno_any (h : TelM w g tv ev rs en ov) : Calls Tryd.prog 12 #[.pointer (some ⟨g, 0, none⟩)] w fun e w' => e = .returned (.bool en) ∧ w' = w := by
  have d0 := h.ce
  clear h
  go_enter Tryd.func12, Tryd.ntmps12
  go_wp2_with fail
  go_ret
  exact ⟨rfl, rfl⟩
theorem held_any (h : TelM w g tv ev rs en ov) (hz : ∀ x ∈ rs, x.tx.size ≤ 60) : Calls Tryd.prog 13 #[.pointer (some ⟨g, 0, none⟩)] w fun e w' => e = .returned (.int .i64 (((rs.map fun x => x.tx.size).sum : Nat) : Int)) ∧ Below w.heap.size w w' := by
  have HC := Lib.hid (octets_any h hz)
  obtain ⟨z, hzz⟩ : ∃ z, z = (rs.map fun x => x.tx.size).sum := ⟨_, rfl⟩
  rw [← hzz] at HC ⊢
  clear h hz hzz
  go_enter Tryd.func13, Tryd.ntmps13
  go_wp2_with fail
  (with_reducible refine HC.out.mono ?_); rintro e w1 ⟨rfl, hb⟩
  go_wp2_with fail
  go_ret
  exact ⟨rfl, hb⟩
end
end Go.Proofs.YtebmafghekfllaaDoor
