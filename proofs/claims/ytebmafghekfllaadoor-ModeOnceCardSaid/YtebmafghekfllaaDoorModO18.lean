/- New tellers by the first, by count, by context. -/
import Derived.Test.YtebmafghekfllaaDoorModN18
namespace Go.Proofs.YtebmafghekfllaaDoor
open Go Go.RowKit
set_option linter.unusedVariables false
set_option maxRecDepth 20000
def fn1 (bt : Nat) : Value := .func (Fn.func 28) #[] #[.pointer (some ⟨bt, 0, none⟩)]
def fn2 (cr ch : Nat) : Value := .func (Fn.func 29) #[] #[.pointer (some ⟨cr, 0, none⟩), .pointer (some ⟨ch, 0, none⟩)]
def fe2 (cr ch : Nat) : Value := .func (Fn.func 30) #[] #[.pointer (some ⟨cr, 0, none⟩), .pointer (some ⟨ch, 0, none⟩)]
def fnS (cg cn : Nat) : Value := .func (Fn.func 37) #[] #[.pointer (some ⟨cg, 0, none⟩), .pointer (some ⟨cn, 0, none⟩)]
def fn3 (ca cb cs ct cf : Nat) : Value := .func (Fn.func 32) #[] #[.pointer (some ⟨ca, 0, none⟩), .pointer (some ⟨cb, 0, none⟩), .pointer (some ⟨cs, 0, none⟩), .pointer (some ⟨ct, 0, none⟩), .pointer (some ⟨cf, 0, none⟩)]
section
variable {w : World} {g : Nat}
theorem store_one {W : World} {b : Nat} {u v : Value} {t : TypeId} (h : W.heap[b]? = some (.cells #[u] t (0, 0))) (h1 : v.oneCell' = true) : (store ⟨b, 0, none⟩ v).run Tryd.prog W = .ok () (W.setCell ⟨b, 0, none⟩ v) := by
  rw [run_store Tryd.prog W _ v _ h1, cell_of_row W b 0 _ _ (0, 0) h]
  simp [World.frozen?, h]
theorem first_any (g : Nat) (w : World) : Calls Tryd.prog 19 #[.pointer (some ⟨g, 0, none⟩)] w fun e w' => ∃ bt, e = .returned (fn1 bt) ∧ w'.heap[bt]? = some (.cells #[.pointer (some ⟨g, 0, none⟩)] 25 (0, 0)) ∧ Below w.heap.size w w' ∧ w.heap.size ≤ bt := by
  have HB := Lib.hid ((Below.refl w.heap.size w).alloc (Nat.le_refl _) (.cells #[.pointer (some ⟨g, 0, none⟩)] 25))
  go_enter Tryd.func19, Tryd.ntmps19
  go_wp2_with fail
  go_ret
  exact ⟨_, rfl, heap_alloc_new _ _, HB.out, Nat.le_refl _⟩
theorem count_any (w : World) : Calls Tryd.prog 20 #[] w fun e w' => ∃ cr ch, e = .returned (.tuple #[fn2 cr ch, fe2 cr ch]) ∧ w'.heap[cr]? = some (.cells #[.int .i64 0] 3 (0, 0)) ∧ w'.heap[ch]? = some (.cells #[.int .i64 0] 3 (0, 0)) ∧ Below w.heap.size w w' ∧ w.heap.size ≤ cr ∧ w.heap.size ≤ ch ∧ cr ≠ ch := by
  have HB := Lib.hid (((Below.refl w.heap.size w).alloc (Nat.le_refl _) (.cells #[.int .i64 0] 3)).alloc (by simp) (.cells #[.int .i64 0] 3))
  go_enter Tryd.func20, Tryd.ntmps20
  go_wp2_with fail
  go_ret2
  refine ⟨_, _, rfl, ?_, ?_, HB.out, Nat.le_refl _, ?_, ?_⟩
  · exact at_up (heap_alloc_new _ _) _
  · exact at_new _ _ (by simp)
  · omega
  · omega
theorem inRow_any (w : World) : Calls Tryd.prog 31 #[] w fun e w' => ∃ cg cn, e = .returned (fnS cg cn) ∧ ShM w' cg cn none ∧ Below w.heap.size w w' ∧ w.heap.size ≤ cg ∧ w.heap.size ≤ cn := by
  have HB := Lib.hid (((Below.refl w.heap.size w).alloc (Nat.le_refl _) (.cells #[.bool false] 4)).alloc (by simp) (.cells #[.int .i64 0] 3))
  go_enter Tryd.func31, Tryd.ntmps31
  go_wp2_with fail
  go_ret
  refine ⟨_, _, rfl, ⟨?_, ?_, 0, ?_, fun u h => by cases h⟩, HB.out, Nat.le_refl _, ?_⟩
  · omega
  · exact at_up (heap_alloc_new _ _) _
  · exact at_new _ _ (by simp)
  · omega
/-- What the closure by context knows. -/
structure CtxM (w : World) (g ca cb cs ct cf cg cn b a beh : Nat) (st : Option Int) : Prop where
  ha : w.heap[ca]? = some (.cells #[.int .i64 (a : Int)] 3 (0, 0))
  hb : w.heap[cb]? = some (.cells #[.int .i64 (beh : Int)] 3 (0, 0))
  hs : w.heap[cs]? = some (.cells #[fnS cg cn] 66 (0, 0))
  ht : w.heap[ct]? = some (.cells #[.pointer (some ⟨g, 0, none⟩)] 25 (0, 0))
  hf : w.heap[cf]? = some (.cells #[.int .i64 (b : Int)] 3 (0, 0))
  sh : ShM w cg cn st
  ne : ca ≠ cb ∧ cb ≠ cf ∧ cb ≠ cn ∧ ca ≠ cn ∧ cf ≠ cn
theorem context_any (g b a : Nat) (w : World) : Calls Tryd.prog 21 #[.pointer (some ⟨g, 0, none⟩), .int .i64 (b : Int), .int .i64 (a : Int)] w fun e w' => ∃ ca cb cs ct cf cg cn, e = .returned (fn3 ca cb cs ct cf) ∧ CtxM w' g ca cb cs ct cf cg cn b a 0 none ∧ Below w.heap.size w w' ∧ ∀ q, q = ca ∨ q = cb ∨ q = cs ∨ q = ct ∨ q = cf ∨ q = cg ∨ q = cn → w.heap.size ≤ q := by
  obtain ⟨W0, hW0⟩ : ∃ W0, W0 = ((w.alloc (.cells #[.pointer (some ⟨g, 0, none⟩)] 25)).alloc (.cells #[.int .i64 (b : Int)] 3)).alloc (.cells #[.int .i64 (a : Int)] 3) := ⟨_, rfl⟩
  have hb0 : Below w.heap.size w W0 := by rw [hW0]; exact (((Below.refl w.heap.size w).alloc (Nat.le_refl _) _).alloc (by simp) _).alloc (by simp; omega) _
  have hz : W0.heap.size = w.heap.size + 3 := by rw [hW0]; simp
  have k1 : W0.heap[w.heap.size]? = some (.cells #[.pointer (some ⟨g, 0, none⟩)] 25 (0, 0)) := by rw [hW0]; exact at_up (at_up (heap_alloc_new _ _) _) _
  have k2 : W0.heap[w.heap.size + 1]? = some (.cells #[.int .i64 (b : Int)] 3 (0, 0)) := by rw [hW0]; exact at_up (at_new _ _ (by simp)) _
  have k3 : W0.heap[w.heap.size + 2]? = some (.cells #[.int .i64 (a : Int)] 3 (0, 0)) := by rw [hW0]; exact at_new _ _ (by simp)
  have HIN := Lib.hid (inRow_any W0)
  have HK := Lib.hid (And.intro k1 (And.intro k2 (And.intro k3 (And.intro hz hb0))))
  clear k1 k2 k3 hz hb0
  go_enter Tryd.func21, Tryd.ntmps21
  go_wp2_with fail
  rw [← hW0]
  clear hW0
  refine HIN.out.mono ?_; rintro e w1 ⟨cg, cn, rfl, hsh, hb1, hcg, hcn⟩
  have H1 := Lib.hid (And.intro hsh (And.intro hb1 (And.intro hcg hcn)))
  clear hsh hb1 hcg hcn
  unfold fnS
  have hst := store_one (v := .func (Fn.func 37) #[] #[.pointer (some ⟨cg, 0, none⟩), .pointer (some ⟨cn, 0, none⟩)]) (at_up (heap_alloc_new w1 (.cells #[.nilFunc] 66)) (.cells #[.int .i64 0] 3)) rfl
  go_wp2_with fail
  go_ret
  clear hst
  obtain ⟨hk1, hk2, hk3, hz, hb0⟩ := HK.out
  obtain ⟨hsh, hb1, hcg, hcn⟩ := H1.out
  obtain ⟨W2, hW2⟩ : ∃ W2, W2 = (w1.alloc (.cells #[fnS cg cn] 66)).alloc (.cells #[.int .i64 0] 3) := ⟨_, rfl⟩
  have hb2 : Below w1.heap.size w1 W2 := by rw [hW2]; exact ((Below.refl w1.heap.size w1).alloc (Nat.le_refl _) _).alloc (by simp) _
  have n1 : W2.heap[w1.heap.size]? = some (.cells #[fnS cg cn] 66 (0, 0)) := by rw [hW2]; exact at_up (heap_alloc_new _ _) _
  have n2 : W2.heap[w1.heap.size + 1]? = some (.cells #[.int .i64 0] 3 (0, 0)) := by rw [hW2]; exact at_new _ _ (by simp)
  have s1 := hb1.size
  have hb02 : Below W0.heap.size W0 W2 := hb1.trans (hb2.mono s1)
  obtain ⟨v, hv, _⟩ := hsh.nx
  have l1 := (Array.getElem?_eq_some_iff.1 hsh.bg).1
  have l2 := (Array.getElem?_eq_some_iff.1 hv).1
  refine ⟨w.heap.size + 1 + 1, w1.heap.size + 1, w1.heap.size, w.heap.size, w.heap.size + 1, cg, cn, rfl, ?_, ?_, fun q hq => by omega⟩
  · rw [show (w1.alloc (.cells #[.func (Fn.func 37) #[] #[.pointer (some ⟨cg, 0, none⟩), .pointer (some ⟨cn, 0, none⟩)]] 66)).alloc (.cells #[.int .i64 0] 3) = W2 from hW2.symm]
    exact ⟨(hb02.block _ (by omega)).trans hk3, n2, n1, (hb02.block _ (by omega)).trans hk1, (hb02.block _ (by omega)).trans hk2, hsh.keep (hb2.block _ l1) (hb2.block _ l2), by omega⟩
  · rw [show (w1.alloc (.cells #[.func (Fn.func 37) #[] #[.pointer (some ⟨cg, 0, none⟩), .pointer (some ⟨cn, 0, none⟩)]] 66)).alloc (.cells #[.int .i64 0] 3) = W2 from hW2.symm]
    exact hb0.trans (hb02.mono hb0.size)
set_option maxHeartbeats 4000000 in
theorem new1 (b a : Nat) (w : World) (hb : b ≤ 16) (ha : a ≤ 16) : Calls Tryd.prog 8 #[.int .i64 1, .int .i64 (b : Int), .int .i64 (a : Int)] w fun e w' => ∃ g bt, e = .returned (.tuple #[.pointer (some ⟨g, 0, none⟩), .int .i64 0]) ∧ TelM w' g (fn1 bt) .nilFunc [] false false ∧ w'.heap[bt]? = some (.cells #[.pointer (some ⟨g, 0, none⟩)] 25 (0, 0)) ∧ Below w.heap.size w w' ∧ w.heap.size ≤ g ∧ w.heap.size ≤ bt := by
  have HB := Lib.hid (beside_any (b : Int) w)
  have HA := Lib.hid (beside_any (a : Int) w)
  rw [show (decide (0 ≤ (b : Int)) && decide ((b : Int) ≤ 16)) = true by simp; omega] at HB
  rw [show (decide (0 ≤ (a : Int)) && decide ((a : Int) ≤ 16)) = true by simp; omega] at HA
  obtain ⟨W1, hW1⟩ : ∃ W1, W1 = w.alloc (.cells #[.nilFunc, .nilFunc, .int .i64 0, .int .i64 0, .string ⟨#[]⟩, .int .i64 0, .int .i64 0, .string ⟨#[]⟩, .int .i64 0, .int .i64 0, .string ⟨#[]⟩, .int .i64 0, .int .i64 0, .string ⟨#[]⟩, .int .i64 0, .int .i64 0, .string ⟨#[]⟩, .int .i64 0, .int .i64 0, .string ⟨#[]⟩, .int .i64 0, .int .i64 0, .string ⟨#[]⟩, .int .i64 0, .int .i64 0, .string ⟨#[]⟩, .int .i64 0, .int .i64 0, .string ⟨#[]⟩, .int .i64 0, .int .i64 0, .string ⟨#[]⟩, .int .i64 0, .int .i64 0, .string ⟨#[]⟩, .int .i64 0, .int .i64 0, .string ⟨#[]⟩, .int .i64 0, .int .i64 0, .string ⟨#[]⟩, .int .i64 0, .int .i64 0, .string ⟨#[]⟩, .int .i64 0, .int .i64 0, .string ⟨#[]⟩, .int .i64 0, .int .i64 0, .string ⟨#[]⟩, .int .i64 0, .bool false, .bool false] 56) := ⟨_, rfl⟩
  have hM : TelM W1 w.heap.size .nilFunc .nilFunc [] false false := by rw [hW1]; exact telMade _ _ rfl rfl (heap_alloc_new _ _)
  have hB : Below w.heap.size w W1 := by rw [hW1]; exact (Below.refl _ _).alloc (Nat.le_refl _) _
  have HC := Lib.hid (first_any w.heap.size W1)
  have HM := Lib.hid hM
  have HBB := Lib.hid hB
  clear hM hB
  go_enter Tryd.func8, Tryd.ntmps8
  go_wp2_with fail
  refine HB.out.mono ?_; rintro e w' ⟨rfl, rfl⟩
  go_wp2_with fail
  refine HA.out.mono ?_; rintro e w' ⟨rfl, rfl⟩
  go_wp2_with fail
  rw [← hW1]
  clear hW1
  refine HC.out.mono ?_; rintro e w2 ⟨bt, rfl, hbt, hb2, hnew⟩
  have hst := (HM.out.below hb2).store (o := 0) (by decide) (v := fn1 bt) rfl
  have H2 := Lib.hid (And.intro hbt (And.intro hb2 hnew))
  clear hbt hb2 hnew
  unfold fn1 at hst ⊢
  go_wp2_with fail
  go_ret2
  obtain ⟨hbt, hb2, hnew⟩ := H2.out
  have h1 := HM.out.lt
  refine ⟨_, bt, rfl, (HM.out.below hb2).setW rfl, (heap_setCell_other _ _ _ _ (by show bt ≠ w'.heap.size; omega)).trans hbt, (HBB.out.trans (hb2.mono HBB.out.size)).setCell (Nat.le_refl _) _, Nat.le_refl _, by omega⟩
set_option maxHeartbeats 4000000 in
theorem new2 (b a : Nat) (w : World) (hb : b ≤ 16) (ha : a ≤ 16) : Calls Tryd.prog 8 #[.int .i64 2, .int .i64 (b : Int), .int .i64 (a : Int)] w fun e w' => ∃ g cr ch, e = .returned (.tuple #[.pointer (some ⟨g, 0, none⟩), .int .i64 0]) ∧ TelM w' g (fn2 cr ch) (fe2 cr ch) [] false false ∧ w'.heap[cr]? = some (.cells #[.int .i64 0] 3 (0, 0)) ∧ w'.heap[ch]? = some (.cells #[.int .i64 0] 3 (0, 0)) ∧ cr ≠ ch ∧ Below w.heap.size w w' ∧ w.heap.size ≤ g ∧ w.heap.size ≤ cr ∧ w.heap.size ≤ ch := by
  have HB := Lib.hid (beside_any (b : Int) w)
  have HA := Lib.hid (beside_any (a : Int) w)
  rw [show (decide (0 ≤ (b : Int)) && decide ((b : Int) ≤ 16)) = true by simp; omega] at HB
  rw [show (decide (0 ≤ (a : Int)) && decide ((a : Int) ≤ 16)) = true by simp; omega] at HA
  obtain ⟨W1, hW1⟩ : ∃ W1, W1 = w.alloc (.cells #[.nilFunc, .nilFunc, .int .i64 0, .int .i64 0, .string ⟨#[]⟩, .int .i64 0, .int .i64 0, .string ⟨#[]⟩, .int .i64 0, .int .i64 0, .string ⟨#[]⟩, .int .i64 0, .int .i64 0, .string ⟨#[]⟩, .int .i64 0, .int .i64 0, .string ⟨#[]⟩, .int .i64 0, .int .i64 0, .string ⟨#[]⟩, .int .i64 0, .int .i64 0, .string ⟨#[]⟩, .int .i64 0, .int .i64 0, .string ⟨#[]⟩, .int .i64 0, .int .i64 0, .string ⟨#[]⟩, .int .i64 0, .int .i64 0, .string ⟨#[]⟩, .int .i64 0, .int .i64 0, .string ⟨#[]⟩, .int .i64 0, .int .i64 0, .string ⟨#[]⟩, .int .i64 0, .int .i64 0, .string ⟨#[]⟩, .int .i64 0, .int .i64 0, .string ⟨#[]⟩, .int .i64 0, .int .i64 0, .string ⟨#[]⟩, .int .i64 0, .int .i64 0, .string ⟨#[]⟩, .int .i64 0, .bool false, .bool false] 56) := ⟨_, rfl⟩
  have hM : TelM W1 w.heap.size .nilFunc .nilFunc [] false false := by rw [hW1]; exact telMade _ _ rfl rfl (heap_alloc_new _ _)
  have hB : Below w.heap.size w W1 := by rw [hW1]; exact (Below.refl _ _).alloc (Nat.le_refl _) _
  have HC := Lib.hid (count_any W1)
  have HM := Lib.hid hM
  have HBB := Lib.hid hB
  clear hM hB
  go_enter Tryd.func8, Tryd.ntmps8
  go_wp2_with fail
  refine HB.out.mono ?_; rintro e w' ⟨rfl, rfl⟩
  go_wp2_with fail
  refine HA.out.mono ?_; rintro e w' ⟨rfl, rfl⟩
  go_wp2_with fail
  rw [← hW1]
  clear hW1
  refine HC.out.mono ?_; rintro e w2 ⟨cr, ch, rfl, hr, hh, hb2, hn1, hn2, hne⟩
  have hst := (HM.out.below hb2).store (o := 0) (by decide) (v := fn2 cr ch) rfl
  have hst2 := ((HM.out.below hb2).setW (v := fn2 cr ch) rfl).store (o := 1) (by decide) (v := fe2 cr ch) rfl
  have H2 := Lib.hid (And.intro hr (And.intro hh (And.intro hb2 (And.intro hn1 (And.intro hn2 hne)))))
  clear hr hh hb2 hn1 hn2 hne
  unfold fn2 at hst hst2
  unfold fe2 at hst2
  unfold fn2 fe2
  go_wp2_with fail
  go_ret2
  obtain ⟨hr, hh, hb2, hn1, hn2, hne⟩ := H2.out
  have h1 := HM.out.lt
  have ho : ∀ q, q ≠ w'.heap.size → ((w2.setCell ⟨w'.heap.size, 0, none⟩ (fn2 cr ch)).setCell ⟨w'.heap.size, 1, none⟩ (fe2 cr ch)).heap[q]? = w2.heap[q]? := fun q hq => (heap_setCell_other _ _ _ _ hq).trans (heap_setCell_other _ _ _ _ hq)
  refine ⟨_, cr, ch, rfl, ((HM.out.below hb2).setW rfl).setE rfl, (ho cr (by omega)).trans hr, (ho ch (by omega)).trans hh, hne, ((HBB.out.trans (hb2.mono HBB.out.size)).setCell (Nat.le_refl _) _).setCell (Nat.le_refl _) _, Nat.le_refl _, by omega, by omega⟩
set_option maxHeartbeats 4000000 in
theorem new3 (b a : Nat) (w : World) (hb : b ≤ 16) (ha : a ≤ 16) : Calls Tryd.prog 8 #[.int .i64 3, .int .i64 (b : Int), .int .i64 (a : Int)] w fun e w' => ∃ g ca cb cs ct cf cg cn, e = .returned (.tuple #[.pointer (some ⟨g, 0, none⟩), .int .i64 0]) ∧ TelM w' g (fn3 ca cb cs ct cf) .nilFunc [] false false ∧ CtxM w' g ca cb cs ct cf cg cn b a 0 none ∧ Below w.heap.size w w' ∧ w.heap.size ≤ g ∧ ∀ q, q = ca ∨ q = cb ∨ q = cs ∨ q = ct ∨ q = cf ∨ q = cg ∨ q = cn → w.heap.size ≤ q := by
  have HB := Lib.hid (beside_any (b : Int) w)
  have HA := Lib.hid (beside_any (a : Int) w)
  rw [show (decide (0 ≤ (b : Int)) && decide ((b : Int) ≤ 16)) = true by simp; omega] at HB
  rw [show (decide (0 ≤ (a : Int)) && decide ((a : Int) ≤ 16)) = true by simp; omega] at HA
  obtain ⟨W1, hW1⟩ : ∃ W1, W1 = w.alloc (.cells #[.nilFunc, .nilFunc, .int .i64 0, .int .i64 0, .string ⟨#[]⟩, .int .i64 0, .int .i64 0, .string ⟨#[]⟩, .int .i64 0, .int .i64 0, .string ⟨#[]⟩, .int .i64 0, .int .i64 0, .string ⟨#[]⟩, .int .i64 0, .int .i64 0, .string ⟨#[]⟩, .int .i64 0, .int .i64 0, .string ⟨#[]⟩, .int .i64 0, .int .i64 0, .string ⟨#[]⟩, .int .i64 0, .int .i64 0, .string ⟨#[]⟩, .int .i64 0, .int .i64 0, .string ⟨#[]⟩, .int .i64 0, .int .i64 0, .string ⟨#[]⟩, .int .i64 0, .int .i64 0, .string ⟨#[]⟩, .int .i64 0, .int .i64 0, .string ⟨#[]⟩, .int .i64 0, .int .i64 0, .string ⟨#[]⟩, .int .i64 0, .int .i64 0, .string ⟨#[]⟩, .int .i64 0, .int .i64 0, .string ⟨#[]⟩, .int .i64 0, .int .i64 0, .string ⟨#[]⟩, .int .i64 0, .bool false, .bool false] 56) := ⟨_, rfl⟩
  have hM : TelM W1 w.heap.size .nilFunc .nilFunc [] false false := by rw [hW1]; exact telMade _ _ rfl rfl (heap_alloc_new _ _)
  have hB : Below w.heap.size w W1 := by rw [hW1]; exact (Below.refl _ _).alloc (Nat.le_refl _) _
  have HC := Lib.hid (context_any w.heap.size b a W1)
  have HM := Lib.hid hM
  have HBB := Lib.hid hB
  clear hM hB
  go_enter Tryd.func8, Tryd.ntmps8
  go_wp2_with fail
  refine HB.out.mono ?_; rintro e w' ⟨rfl, rfl⟩
  go_wp2_with fail
  refine HA.out.mono ?_; rintro e w' ⟨rfl, rfl⟩
  go_wp2_with fail
  rw [← hW1]
  clear hW1
  refine HC.out.mono ?_; rintro e w2 ⟨ca, cb, cs, ct, cf, cg, cn, rfl, hc, hb2, hnew⟩
  have hst := (HM.out.below hb2).store (o := 0) (by decide) (v := fn3 ca cb cs ct cf) rfl
  have H2 := Lib.hid (And.intro hc (And.intro hb2 hnew))
  clear hc hb2 hnew
  unfold fn3 at hst ⊢
  go_wp2_with fail
  go_ret2
  obtain ⟨hc, hb2, hnew⟩ := H2.out
  have h1 := HM.out.lt
  have ho : ∀ q, q ≠ w'.heap.size → (w2.setCell ⟨w'.heap.size, 0, none⟩ (fn3 ca cb cs ct cf)).heap[q]? = w2.heap[q]? := fun q hq => heap_setCell_other _ _ _ _ hq
  have hq := fun q h => Nat.lt_of_lt_of_le h1 (hnew q h)
  refine ⟨_, ca, cb, cs, ct, cf, cg, cn, rfl, (HM.out.below hb2).setW rfl, ⟨(ho ca (Nat.ne_of_gt (hq ca (by simp)))).trans hc.ha, (ho cb (Nat.ne_of_gt (hq cb (by simp)))).trans hc.hb, (ho cs (Nat.ne_of_gt (hq cs (by simp)))).trans hc.hs, (ho ct (Nat.ne_of_gt (hq ct (by simp)))).trans hc.ht, (ho cf (Nat.ne_of_gt (hq cf (by simp)))).trans hc.hf, hc.sh.keep (ho cg (Nat.ne_of_gt (hq cg (by simp)))) (ho cn (Nat.ne_of_gt (hq cn (by simp)))), hc.ne⟩, (HBB.out.trans (hb2.mono HBB.out.size)).setCell (Nat.le_refl _) _, Nat.le_refl _, fun q h => Nat.le_of_lt (hq q h)⟩
end
end Go.Proofs.YtebmafghekfllaaDoor
