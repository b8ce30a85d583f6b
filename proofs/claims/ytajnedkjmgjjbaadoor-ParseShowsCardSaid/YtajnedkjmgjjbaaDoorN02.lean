/- ParseShows: patterns whose trees are shown alike have the same tree: the walk. -/
import Derived.Test.YtajnedkjmgjjbaaDoorM18
import Derived.Test.YtajnedkjmgjjbaaDoorM19
import Derived.Test.YtajnedkjmgjjbaaDoorN01
import Derived.Deep.RegionHeldLaw
namespace Go.Proofs.YtajnedkjmgjjbaaDoor
open Go Go.RowKit
set_option linter.unusedVariables false
set_option maxRecDepth 20000

/-- Two trees, and the boxes that hold them. -/
structure PairAt (F G : Nat → Prop) (x y : NV) (T U : Wood) (a b : Nat) (w : World) : Prop where
  ha : w.heap[a]? = some (.cells #[.int .i64 x.op, .slice x.A x.ns x.cs, .int .i64 x.mn, .int .i64 x.mx, .slice x.D x.nk x.ck] 26 (0, 0))
  hb : w.heap[b]? = some (.cells #[.int .i64 y.op, .slice y.A y.ns y.cs, .int .i64 y.mn, .int .i64 y.mx, .slice y.D y.nk y.ck] 26 (0, 0))
  la : a < w.heap.size
  lb : b < w.heap.size
  hx : NodesIn F w [x] T
  hy : NodesIn G w [y] U
theorem PairAt.below {F G : Nat → Prop} {x y : NV} {T U : Wood} {a b : Nat} {w w' : World} (h : PairAt F G x y T U a b w) (k : Below w.heap.size w w') : PairAt F G x y T U a b w' :=
  ⟨(k.block a h.la).trans h.ha, (k.block b h.lb).trans h.hb, Nat.lt_of_lt_of_le h.la k.size, Nat.lt_of_lt_of_le h.lb k.size, h.hx.below k, h.hy.below k⟩
theorem pair_new {F G : Nat → Prop} {x y : NV} {T U : Wood} {w2 w3 : World} (hN : NodesIn F w2 [x] T) (hb : Below (w2.alloc (.cells #[.int .i64 x.op, .slice x.A x.ns x.cs, .int .i64 x.mn, .int .i64 x.mx, .slice x.D x.nk x.ck] 26)).heap.size (w2.alloc (.cells #[.int .i64 x.op, .slice x.A x.ns x.cs, .int .i64 x.mn, .int .i64 x.mx, .slice x.D x.nk x.ck] 26)) w3) (hN' : NodesIn G w3 [y] U) :
    PairAt F G x y T U w2.heap.size w3.heap.size (w3.alloc (.cells #[.int .i64 y.op, .slice y.A y.ns y.cs, .int .i64 y.mn, .int .i64 y.mx, .slice y.D y.nk y.ck] 26)) := by
  have hs : w2.heap.size + 1 ≤ w3.heap.size := by have := hb.size; simpa using this
  have k1 : Below w2.heap.size w2 (w2.alloc (.cells #[.int .i64 x.op, .slice x.A x.ns x.cs, .int .i64 x.mn, .int .i64 x.mx, .slice x.D x.nk x.ck] 26)) := (Below.refl _ _).alloc (Nat.le_refl _) _
  have k2 : Below w3.heap.size w3 (w3.alloc (.cells #[.int .i64 y.op, .slice y.A y.ns y.cs, .int .i64 y.mn, .int .i64 y.mx, .slice y.D y.nk y.ck] 26)) := (Below.refl _ _).alloc (Nat.le_refl _) _
  refine ⟨(k2.block _ (by omega)).trans ((hb.block _ (by simp)).trans (heap_alloc_new w2 _)), heap_alloc_new w3 _, by simp; omega, by simp, ((hN.below k1).below hb).below k2, hN'.below k2⟩

/-- Parse, whatever it answers. -/
theorem parse_gen {t : ByteArray} (ht : t.size ≤ 200) (w : World) :
    Calls Tryd.prog 9 #[.string t] w fun e w' => ∃ (y : NV) (f : Int), e = .returned (.tuple #[y.val, .int .i64 f]) ∧ Below w.heap.size w w' := by
  cases h : parseT t with
  | none => exact (parse_no h ht w).mono fun e w' ⟨he, hb⟩ => ⟨_, _, he, hb⟩
  | some T => exact (parse_some h ht w).mono fun e w' ⟨x, he, _, hb⟩ => ⟨_, _, he, hb⟩

set_option maxHeartbeats 2000000 in
/-- Texts that are let go. -/
theorem shows_out (s t : ByteArray) (w : World) (hM : Pow w) (h : 200 < s.size ∨ 200 < t.size) :
    Calls Tryd.prog 7 #[.string s, .string t] w fun e w' => e = .returned (.bool true) ∧ Below w.heap.size w w' := by
  have HA := Lib.hid (awake_any w hM)
  have HM := Lib.hid hM
  clear hM
  rcases (show (200 : Int) < (s.size : Int) ∨ (¬ (200 : Int) < (s.size : Int) ∧ (200 : Int) < (t.size : Int)) by omega) with h1 | ⟨h1, h2⟩
  all_goals
    clear h
    go_enter Tryd.func7, Tryd.ntmps7
    go_wp2_with (first
      | (go_at_call 8; (with_reducible refine HA.out.mono ?_); rintro e w1 ⟨rfl, hb⟩; have HB := Lib.hid hb; have HA2 := Lib.hid (awake_any w1 ((HM.out.on hb).up hb.size)); clear hb)
      | (go_at_call 8; (with_reducible refine HA2.out.mono ?_); rintro e w2 ⟨rfl, hb⟩; have HB2 := Lib.hid hb; clear hb))
    go_ret
    exact ⟨rfl, then_ HB.out HB2.out⟩

set_option maxHeartbeats 2000000 in
/-- The first one is no pattern. -/
theorem shows_no (s t : ByteArray) (w : World) (hM : Pow w) (hs : s.size ≤ 200) (ht : t.size ≤ 200) (h : parseT s = none) :
    Calls Tryd.prog 7 #[.string s, .string t] w fun e w' => e = .returned (.bool true) ∧ Below w.heap.size w w' := by
  have HA := Lib.hid (awake_any w hM)
  have HP1 := Lib.hid fun w => parse_no h hs w
  have HP2 := Lib.hid fun w => parse_gen ht w
  have h1 : ¬ (200 : Int) < (s.size : Int) := by omega
  have h2 : ¬ (200 : Int) < (t.size : Int) := by omega
  clear hM h hs ht
  go_enter Tryd.func7, Tryd.ntmps7
  go_wp2_with (first
    | (go_at_call 8; (with_reducible refine HA.out.mono ?_); rintro e w1 ⟨rfl, hb⟩; have HB1 := Lib.hid hb; clear hb)
    | (go_at_call 9; (with_reducible refine (HP1.out _).mono ?_); rintro e w2 ⟨rfl, hb⟩; have HB2 := Lib.hid hb; clear hb; simp only [zeroNV, NV.val])
    | (go_at_call 9; (with_reducible refine (HP2.out _).mono ?_); rintro e w3 ⟨y, f, rfl, hb⟩; have HB3 := Lib.hid hb; clear hb; simp only [NV.val]))
  go_ret
  refine ⟨rfl, ?_⟩
  have k2 := then_ HB1.out HB2.out
  have k3 := then_ (k2.alloc k2.size _) HB3.out
  exact k3.alloc k3.size _

set_option maxHeartbeats 2000000 in
/-- The other one is no pattern. -/
theorem shows_no2 (s t : ByteArray) (w : World) (hM : Pow w) (hs : s.size ≤ 200) (ht : t.size ≤ 200) {T : Wood} (h : parseT s = some T) (h' : parseT t = none) :
    Calls Tryd.prog 7 #[.string s, .string t] w fun e w' => e = .returned (.bool true) ∧ Below w.heap.size w w' := by
  have HA := Lib.hid (awake_any w hM)
  have HP1 := Lib.hid fun w => parse_some h hs w
  have HP2 := Lib.hid fun w => parse_no h' ht w
  have h1 : ¬ (200 : Int) < (s.size : Int) := by omega
  have h2 : ¬ (200 : Int) < (t.size : Int) := by omega
  clear hM h hs ht h'
  go_enter Tryd.func7, Tryd.ntmps7
  go_wp2_with (first
    | (go_at_call 8; (with_reducible refine HA.out.mono ?_); rintro e w1 ⟨rfl, hb⟩; have HB1 := Lib.hid hb; clear hb)
    | (go_at_call 9; (with_reducible refine (HP1.out _).mono ?_); rintro e w2 ⟨x, rfl, _, hb⟩; have HB2 := Lib.hid hb; clear hb; simp only [NV.val])
    | (go_at_call 9; (with_reducible refine (HP2.out _).mono ?_); rintro e w3 ⟨rfl, hb⟩; have HB3 := Lib.hid hb; clear hb; simp only [zeroNV, NV.val]))
  go_ret
  refine ⟨rfl, ?_⟩
  have k2 := then_ HB1.out HB2.out
  have k3 := then_ (k2.alloc k2.size _) HB3.out
  exact k3.alloc k3.size _

theorem pair_facts {F G : Nat → Prop} {x y : NV} {T U : Wood} {a b : Nat} {w : World} (h : PairAt F G x y T U a b w) :
    (w.cell? ⟨a, 0, none⟩ = some (.int .i64 x.op) ∧ w.cell? ⟨a, 1, none⟩ = some (.slice x.A x.ns x.cs) ∧ w.cell? ⟨a, 2, none⟩ = some (.int .i64 x.mn) ∧ w.cell? ⟨a, 3, none⟩ = some (.int .i64 x.mx) ∧ w.cell? ⟨a, 4, none⟩ = some (.slice x.D x.nk x.ck)) ∧
    (w.cell? ⟨b, 0, none⟩ = some (.int .i64 y.op) ∧ w.cell? ⟨b, 1, none⟩ = some (.slice y.A y.ns y.cs) ∧ w.cell? ⟨b, 2, none⟩ = some (.int .i64 y.mn) ∧ w.cell? ⟨b, 3, none⟩ = some (.int .i64 y.mx) ∧ w.cell? ⟨b, 4, none⟩ = some (.slice y.D y.nk y.ck)) := by
  obtain ⟨p0, p1, p2, p3, p4, _⟩ := box_facts h.ha
  obtain ⟨q0, q1, q2, q3, q4, _⟩ := box_facts h.hb
  exact ⟨⟨p0, p1, p2, p3, p4⟩, q0, q1, q2, q3, q4⟩

theorem str_ne {a b : ByteArray} (h : ¬ a = b) : (a.toList == b.toList) = false := by
  rw [beq_eq_false_iff_ne, Lib.toList_data, Lib.toList_data]
  exact fun e => h (ba_ext e)

/-- What all the calls of the last line answer, in every world behind the one where both trees stand. -/
theorem pair_calls {F G : Nat → Prop} {x y : NV} {T U : Wood} {a b : Nat} {w X : World} (K : PairAt F G x y T U a b X) (hT : GoodW T ∧ T.len = 1 ∧ heavy T ≤ 1000000) (hU : GoodW U ∧ U.len = 1 ∧ heavy U ≤ 1000000) (hM : Pow w) (hb : Below w.heap.size w X) :
    (∀ v, Below X.heap.size X v → Calls Tryd.prog 13 #[.agg #[.int .i64 x.op, .slice x.A x.ns x.cs, .int .i64 x.mn, .int .i64 x.mx, .slice x.D x.nk x.ck]] v fun e w' => e = .returned (.string (oneB T)) ∧ Below X.heap.size X w') ∧
    (∀ v, Below X.heap.size X v → Calls Tryd.prog 13 #[.agg #[.int .i64 y.op, .slice y.A y.ns y.cs, .int .i64 y.mn, .int .i64 y.mx, .slice y.D y.nk y.ck]] v fun e w' => e = .returned (.string (oneB U)) ∧ Below X.heap.size X w') ∧
    (∀ v, Below X.heap.size X v → Calls Tryd.prog 11 #[.agg #[.int .i64 x.op, .slice x.A x.ns x.cs, .int .i64 x.mn, .int .i64 x.mx, .slice x.D x.nk x.ck], .agg #[.int .i64 y.op, .slice y.A y.ns y.cs, .int .i64 y.mn, .int .i64 y.mx, .slice y.D y.nk y.ck]] v fun e w' => e = .returned (.bool (T.same U)) ∧ Below X.heap.size X w') ∧
    (∀ v, Below X.heap.size X v → Calls Tryd.prog 17 #[.agg #[.int .i64 x.op, .slice x.A x.ns x.cs, .int .i64 x.mn, .int .i64 x.mx, .slice x.D x.nk x.ck], .agg #[.int .i64 y.op, .slice y.A y.ns y.cs, .int .i64 y.mn, .int .i64 y.mx, .slice y.D y.nk y.ck]] v fun e w' => e = .returned (.bool (T.same U)) ∧ Below X.heap.size X w') := by
  have tab : ∀ v, Below X.heap.size X v → Tab v.heap.size v := fun v h => (hM.on (then_ hb h)).up (then_ hb h).size
  refine ⟨fun v h => ?_, fun v h => ?_, fun v h => ?_, fun v h => ?_⟩
  · exact (pshow_any T _ _ _ (K.below h).hx.one' hT.1.wf hT.2.2 (tab v h)).mono fun e w' ⟨he, k⟩ => ⟨he, then_ h k⟩
  · exact (pshow_any U _ _ _ (K.below h).hy.one' hU.1.wf hU.2.2 (tab v h)).mono fun e w' ⟨he, k⟩ => ⟨he, then_ h k⟩
  · exact (rsame_any (heavy T) T (Nat.le_refl _) U _ _ _ _ _ (K.below h).hx.one' (K.below h).hy.one' hT.2.2 hU.2.2).mono fun e w' ⟨he, k⟩ => ⟨he, then_ h k⟩
  · exact (psame_any (heavy T) T (Nat.le_refl _) U _ _ _ _ _ (K.below h).hx.one' (K.below h).hy.one' hT.2.2 hU.2.2).mono fun e w' ⟨he, k⟩ => ⟨he, then_ h k⟩

set_option maxHeartbeats 4000000 in
theorem shows_same (s t : ByteArray) (w : World) (hM : Pow w) (hs : s.size ≤ 200) (ht : t.size ≤ 200) {T : Wood} (h : parseT s = some T) (h2 : parseT t = some T) :
    Calls Tryd.prog 7 #[.string s, .string t] w fun e w' => e = .returned (.bool true) ∧ Below w.heap.size w w' := by
  have HA := Lib.hid (awake_any w hM)
  have HP1 := Lib.hid fun w => parse_some h hs w
  have HP2 := Lib.hid fun w => parse_some h2 ht w
  have HT := Lib.hid (parseT_good hs h)
  have HU := Lib.hid (parseT_good ht h2)
  have HM := Lib.hid hM
  obtain ⟨R, hR⟩ : ∃ R, R = oneB T := ⟨_, rfl⟩
  have HS := Wood.same_refl T
  have HR := Lib.hid (And.intro hR HS)
  have g1 : ¬ (200 : Int) < (s.size : Int) := by omega
  have g2 : ¬ (200 : Int) < (t.size : Int) := by omega
  clear hM h hs ht h2 hR HS
  go_enter Tryd.func7, Tryd.ntmps7
  go_wp2_with (first
    | (go_at_call 8; (with_reducible refine HA.out.mono ?_); rintro e w1 ⟨rfl, hb⟩; have HB1 := Lib.hid hb; clear hb)
    | (go_at_call 9; (with_reducible refine (HP1.out w1).mono ?_); rintro e w2 ⟨x, rfl, hN, hb⟩; have HB2 := Lib.hid (then_ HB1.out hb); have HN := Lib.hid hN; clear hb hN; simp only [NV.val])
    | (go_at_call 9; (with_reducible refine (HP2.out _).mono ?_); rintro e w3 ⟨y, rfl, hN, hb⟩; have K := Lib.hid (pair_new HN.out hb hN); have HB3 := Lib.hid ((then_ (HB2.out.alloc HB2.out.size _) hb).alloc (then_ (HB2.out.alloc HB2.out.size _) hb).size (.cells #[.int .i64 y.op, .slice y.A y.ns y.cs, .int .i64 y.mn, .int .i64 y.mx, .slice y.D y.nk y.ck] 26)); clear hb hN; simp only [NV.val]))
  revert K HB3
  generalize (w3.alloc (.cells #[.int .i64 y.op, .slice y.A y.ns y.cs, .int .i64 y.mn, .int .i64 y.mx, .slice y.D y.nk y.ck] 26)) = X
  intro K HB3
  have HC := pair_calls K.out HT.out HU.out HM.out HB3.out
  rw [← HR.out.1, HR.out.2] at HC
  have HCA := Lib.hid HC.1
  have HCB := Lib.hid HC.2.1
  have HCR := Lib.hid HC.2.2.1
  have HCP := Lib.hid HC.2.2.2
  clear HC
  have p0 : ∀ v, Below X.heap.size X v → v.cell? ⟨w2.heap.size, 0, none⟩ = some (.int .i64 x.op) := fun v h => (pair_facts (K.out.below h)).1.1
  have p1 : ∀ v, Below X.heap.size X v → v.cell? ⟨w2.heap.size, 1, none⟩ = some (.slice x.A x.ns x.cs) := fun v h => (pair_facts (K.out.below h)).1.2.1
  have p2 : ∀ v, Below X.heap.size X v → v.cell? ⟨w2.heap.size, 2, none⟩ = some (.int .i64 x.mn) := fun v h => (pair_facts (K.out.below h)).1.2.2.1
  have p3 : ∀ v, Below X.heap.size X v → v.cell? ⟨w2.heap.size, 3, none⟩ = some (.int .i64 x.mx) := fun v h => (pair_facts (K.out.below h)).1.2.2.2.1
  have p4 : ∀ v, Below X.heap.size X v → v.cell? ⟨w2.heap.size, 4, none⟩ = some (.slice x.D x.nk x.ck) := fun v h => (pair_facts (K.out.below h)).1.2.2.2.2
  have q0 : ∀ v, Below X.heap.size X v → v.cell? ⟨w3.heap.size, 0, none⟩ = some (.int .i64 y.op) := fun v h => (pair_facts (K.out.below h)).2.1
  have q1 : ∀ v, Below X.heap.size X v → v.cell? ⟨w3.heap.size, 1, none⟩ = some (.slice y.A y.ns y.cs) := fun v h => (pair_facts (K.out.below h)).2.2.1
  have q2 : ∀ v, Below X.heap.size X v → v.cell? ⟨w3.heap.size, 2, none⟩ = some (.int .i64 y.mn) := fun v h => (pair_facts (K.out.below h)).2.2.2.1
  have q3 : ∀ v, Below X.heap.size X v → v.cell? ⟨w3.heap.size, 3, none⟩ = some (.int .i64 y.mx) := fun v h => (pair_facts (K.out.below h)).2.2.2.2.1
  have q4 : ∀ v, Below X.heap.size X v → v.cell? ⟨w3.heap.size, 4, none⟩ = some (.slice y.D y.nk y.ck) := fun v h => (pair_facts (K.out.below h)).2.2.2.2.2
  have hr0 : Below X.heap.size X X.drew := (Below.refl _ _).drew
  go_region_held (fun w' => Below X.heap.size X w') (assumption) (first
    | (go_at_call 13; (with_reducible refine (HCA.out _ (by assumption)).mono ?_); rintro e w5 ⟨rfl, hb5⟩)
    | (go_at_call 13; (with_reducible refine (HCB.out _ (by assumption)).mono ?_); rintro e w6 ⟨rfl, hb6⟩)
    | (go_at_call 11; (with_reducible refine (HCR.out _ (by assumption)).mono ?_); rintro e w7 ⟨rfl, hb7⟩)
    | (go_at_call 17; (with_reducible refine (HCP.out _ (by assumption)).mono ?_); rintro e w8 ⟨rfl, hb8⟩))
  all_goals
    go_wp2
    go_ret
    exact ⟨rfl, HB3.out.trans (Below.mono (by assumption) HB3.out.size)⟩

set_option maxHeartbeats 4000000 in
theorem shows_other (s t : ByteArray) (w : World) (hM : Pow w) (hs : s.size ≤ 200) (ht : t.size ≤ 200) {T U : Wood} (h : parseT s = some T) (h2 : parseT t = some U) (hne : T ≠ U) :
    Calls Tryd.prog 7 #[.string s, .string t] w fun e w' => e = .returned (.bool true) ∧ Below w.heap.size w w' := by
  have HA := Lib.hid (awake_any w hM)
  have HP1 := Lib.hid fun w => parse_some h hs w
  have HP2 := Lib.hid fun w => parse_some h2 ht w
  have HT := Lib.hid (parseT_good hs h)
  have HU := Lib.hid (parseT_good ht h2)
  have HM := Lib.hid hM
  have HS : T.same U = false := by
    cases hx : T.same U with
    | false => rfl
    | true => exact absurd ((Wood.same_iff _ _).1 hx) hne
  have hne2 : ¬ oneB T = oneB U := fun e => hne (shown_one (parseT_good hs h).1.pw (parseT_good ht h2).1.pw e)
  obtain ⟨R, hR⟩ : ∃ R, R = oneB T := ⟨_, rfl⟩
  obtain ⟨Q, hQ⟩ : ∃ Q, Q = oneB U := ⟨_, rfl⟩
  rw [← hR, ← hQ] at hne2
  have HS2 := Lib.hid (And.intro hQ hne2)
  have HR := Lib.hid (And.intro hR HS)
  have g1 : ¬ (200 : Int) < (s.size : Int) := by omega
  have g2 : ¬ (200 : Int) < (t.size : Int) := by omega
  clear hM h hs ht h2 hR hQ hne hne2 HS
  go_enter Tryd.func7, Tryd.ntmps7
  go_wp2_with (first
    | (go_at_call 8; (with_reducible refine HA.out.mono ?_); rintro e w1 ⟨rfl, hb⟩; have HB1 := Lib.hid hb; clear hb)
    | (go_at_call 9; (with_reducible refine (HP1.out w1).mono ?_); rintro e w2 ⟨x, rfl, hN, hb⟩; have HB2 := Lib.hid (then_ HB1.out hb); have HN := Lib.hid hN; clear hb hN; simp only [NV.val])
    | (go_at_call 9; (with_reducible refine (HP2.out _).mono ?_); rintro e w3 ⟨y, rfl, hN, hb⟩; have K := Lib.hid (pair_new HN.out hb hN); have HB3 := Lib.hid ((then_ (HB2.out.alloc HB2.out.size _) hb).alloc (then_ (HB2.out.alloc HB2.out.size _) hb).size (.cells #[.int .i64 y.op, .slice y.A y.ns y.cs, .int .i64 y.mn, .int .i64 y.mx, .slice y.D y.nk y.ck] 26)); clear hb hN; simp only [NV.val]))
  revert K HB3
  generalize (w3.alloc (.cells #[.int .i64 y.op, .slice y.A y.ns y.cs, .int .i64 y.mn, .int .i64 y.mx, .slice y.D y.nk y.ck] 26)) = X
  intro K HB3
  have HC := pair_calls K.out HT.out HU.out HM.out HB3.out
  rw [← HR.out.1, ← HS2.out.1, HR.out.2] at HC
  have HCA := Lib.hid HC.1
  have HCB := Lib.hid HC.2.1
  have HCR := Lib.hid HC.2.2.1
  have HCP := Lib.hid HC.2.2.2
  clear HC
  have p0 : ∀ v, Below X.heap.size X v → v.cell? ⟨w2.heap.size, 0, none⟩ = some (.int .i64 x.op) := fun v h => (pair_facts (K.out.below h)).1.1
  have p1 : ∀ v, Below X.heap.size X v → v.cell? ⟨w2.heap.size, 1, none⟩ = some (.slice x.A x.ns x.cs) := fun v h => (pair_facts (K.out.below h)).1.2.1
  have p2 : ∀ v, Below X.heap.size X v → v.cell? ⟨w2.heap.size, 2, none⟩ = some (.int .i64 x.mn) := fun v h => (pair_facts (K.out.below h)).1.2.2.1
  have p3 : ∀ v, Below X.heap.size X v → v.cell? ⟨w2.heap.size, 3, none⟩ = some (.int .i64 x.mx) := fun v h => (pair_facts (K.out.below h)).1.2.2.2.1
  have p4 : ∀ v, Below X.heap.size X v → v.cell? ⟨w2.heap.size, 4, none⟩ = some (.slice x.D x.nk x.ck) := fun v h => (pair_facts (K.out.below h)).1.2.2.2.2
  have q0 : ∀ v, Below X.heap.size X v → v.cell? ⟨w3.heap.size, 0, none⟩ = some (.int .i64 y.op) := fun v h => (pair_facts (K.out.below h)).2.1
  have q1 : ∀ v, Below X.heap.size X v → v.cell? ⟨w3.heap.size, 1, none⟩ = some (.slice y.A y.ns y.cs) := fun v h => (pair_facts (K.out.below h)).2.2.1
  have q2 : ∀ v, Below X.heap.size X v → v.cell? ⟨w3.heap.size, 2, none⟩ = some (.int .i64 y.mn) := fun v h => (pair_facts (K.out.below h)).2.2.2.1
  have q3 : ∀ v, Below X.heap.size X v → v.cell? ⟨w3.heap.size, 3, none⟩ = some (.int .i64 y.mx) := fun v h => (pair_facts (K.out.below h)).2.2.2.2.1
  have q4 : ∀ v, Below X.heap.size X v → v.cell? ⟨w3.heap.size, 4, none⟩ = some (.slice y.D y.nk y.ck) := fun v h => (pair_facts (K.out.below h)).2.2.2.2.2
  have hr0 : Below X.heap.size X X.drew := (Below.refl _ _).drew
  have hne2 := HS2.out.2
  have hne3 : (R.toList == Q.toList) = false := str_ne hne2
  go_region_held (fun w' => Below X.heap.size X w') (assumption) (first
    | (go_at_call 13; (with_reducible refine (HCA.out _ (by assumption)).mono ?_); rintro e w5 ⟨rfl, hb5⟩)
    | (go_at_call 13; (with_reducible refine (HCB.out _ (by assumption)).mono ?_); rintro e w6 ⟨rfl, hb6⟩)
    | (go_at_call 11; (with_reducible refine (HCR.out _ (by assumption)).mono ?_); rintro e w7 ⟨rfl, hb7⟩)
    | (go_at_call 17; (with_reducible refine (HCP.out _ (by assumption)).mono ?_); rintro e w8 ⟨rfl, hb8⟩))
  all_goals
    go_wp2
    go_ret
    exact ⟨rfl, HB3.out.trans (Below.mono (by assumption) HB3.out.size)⟩

theorem shows_any (s t : ByteArray) (w : World) (hM : Pow w) : Calls Tryd.prog 7 #[.string s, .string t] w fun e w' => e = .returned (.bool true) ∧ Below w.heap.size w w' := by
  by_cases hs : 200 < s.size ∨ 200 < t.size
  · exact shows_out s t w hM hs
  have k1 : s.size ≤ 200 := by omega
  have k2 : t.size ≤ 200 := by omega
  cases h : parseT s with
  | none => exact shows_no s t w hM k1 k2 h
  | some T =>
    cases h' : parseT t with
    | none => exact shows_no2 s t w hM k1 k2 h h'
    | some U =>
      by_cases e : T = U
      · subst e; exact shows_same s t w hM k1 k2 h h'
      · exact shows_other s t w hM k1 k2 h h' e
end Go.Proofs.YtajnedkjmgjjbaaDoor
