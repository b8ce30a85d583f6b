/- The way of telling by context: one that has hits. -/
import Derived.Test.YtebmafghekfllaaDoorModX18
namespace Go.Proofs.YtebmafghekfllaaDoor
open Go Go.RowKit
set_option linter.unusedVariables false
set_option maxRecDepth 20000
def FS (g cg cn : Nat) : Nat → Prop := fun q => q = g ∨ q = cg ∨ q = cn
theorem shw_len (m : ByteArray) (st : Option Int) : ∀ (l : List Rw), (shw m st l).1.length ≤ 2 * l.length := by
  have : ∀ (l : List Rw) (s : List ByteArray × Option Int), (l.foldl (shw1 m) s).1.length ≤ s.1.length + 2 * l.length := by
    intro l
    induction l with
    | nil => intro s; simp
    | cons y r ih =>
      intro s
      have h1 := ih (shw1 m s y)
      have h2 : (shw1 m s y).1.length ≤ s.1.length + 2 := by
        unfold shw1
        simp only [List.length_append, List.length_singleton]
        split <;> simp <;> omega
      rw [List.foldl_cons, List.length_cons]
      omega
  intro l
  have := this l ([], st)
  simpa [shw] using this
theorem Ct3.grown {w4 w5 : World} {g ca cb cs ct cf cg cn b a beh : Nat} {st : Option Int} {rs : List Rw} {en ov : Bool} {r : Option Nat} {B : Nat} (h : Ct3 w4 g ca cb cs ct cf cg cn b a beh st rs en ov) (hg : w4.grownBy w5 r) (hr : ∀ q, r = some q → B ≤ q) (hl : g < B ∧ ca < B ∧ cb < B ∧ cs < B ∧ ct < B ∧ cf < B ∧ cg < B ∧ cn < B) : Ct3 w5 g ca cb cs ct cf cg cn b a beh st rs en ov := by
  obtain ⟨l1, l2, l3, l4, l5, l6, l7, l8⟩ := h.lt
  obtain ⟨m1, m2, m3, m4, m5, m6, m7, m8⟩ := hl
  have no : ∀ q, q < B → some q ≠ r := fun q hq e => by have := hr q e.symm; omega
  exact h.keep fun q hq => hg.block q (by rcases hq with rfl | rfl | rfl | rfl | rfl | rfl | rfl | rfl <;> assumption) (no q (by rcases hq with rfl | rfl | rfl | rfl | rfl | rfl | rfl | rfl <;> assumption))
/-- A row of the call's own stays while two elder blocks turn. -/
theorem row_keep3 {w2 w3 W w4 : World} {V : Value} {xs : List (List Value)} {cg cn : Nat} (h : RecW w3 w2.heap.size 9 1 V xs) (hb : Below w3.heap.size w3 W) (hM : Moved (fun q => q = cg ∨ q = cn) W w4) (h1 : cg < w2.heap.size) (h2 : cn < w2.heap.size) : RecW w4 w2.heap.size 9 1 V xs :=
  (h.keep fun q hq _ => hb.block q hq).keep fun q hq e => hM.block q hq fun e2 => by
    have := (row_lt h.1 e).1
    rcases e2 with e2 | e2 <;> omega
/-- Two rows of texts, one behind the other. -/
theorem app_two {w4 : World} {B B2 : Nat} {A3 A4 : Option Addr} {c3 c4 : Nat} {o1 o2 : List ByteArray} (h1 : RecW w4 B 9 1 (.slice A3 o1.length c3) (strs o1)) (h2 : RecW w4 B2 9 1 (.slice A4 o2.length c4) (strs o2)) (hB : B ≤ w4.heap.size) (hn : o1.length ≤ 1000) (hm : o2.length ≤ 1000) :
    ∃ A5 c5 w5, (Builtin.append_ #[29, 29] 29 #[.slice A3 o1.length c3, .slice A4 o2.length c4]).run Tryd.prog w4 = .ok (.slice A5 (o1 ++ o2).length c5) w5 ∧ RecW w5 B 9 1 (.slice A5 (o1 ++ o2).length c5) (strs (o1 ++ o2)) ∧ w4.grownBy w5 (Value.slice A3 o1.length c3).ownBlock := by
  obtain ⟨D', d', e1, hr, k1, k2, k3⟩ := h2.read
  injection e1 with e1 e2 e3
  subst e1
  have e3' : c4 = d' := e3
  subst e3'
  rw [strs_length] at hr
  obtain ⟨V', w2, happ, hr2, hg2, hat, -⟩ := h1.app 29 9 _ 1 16 Tryd.underlying29 info_str rfl (by decide) hr (c := c4) (fun h => (k3 h).2) (by rw [strs_length]; unfold maxLen; omega) (by rw [strs_length]; omega) hB
  obtain ⟨A', c', hV', -⟩ := hr2.slice
  rw [List.length_append, strs_length, strs_length, ← List.length_append] at hV'
  subst hV'
  rw [← strs_append] at hr2
  exact ⟨A', c', w2, happ, hr2, hg2⟩
section
variable {w0 w w' : World} {g ca cb cs ct cf cg cn b a beh : Nat} {st : Option Int} {rs : List Rw} {en ov : Bool}
set_option maxHeartbeats 16000000 in
theorem ctx_yes (h : Ct3 w g ca cb cs ct cf cg cn b a beh st rs en ov) (x : Rw) (A : Option Addr) (z c : Nat) (hz0 : 0 < z) (hT : Pow18 w0) (hb : Below w0.heap.size w0 w) (hF : ∀ q, F4 g cb cg cn q → w0.heap.size ≤ q) (h0 : -9223372036854775808 ≤ x.n) (h1 : x.n ≤ 9223372036854775807) (hz : x.tx.size ≤ 60) (hrs : ∀ y ∈ rs, -9223372036854775808 ≤ y.n ∧ y.n ≤ 9223372036854775807 ∧ y.tx.size ≤ 60)
    (out : List ByteArray) (st2 : Option Int) (ho : out = (shw ⟨#[45]⟩ st rs).1 ++ (shw ⟨#[58]⟩ (shw ⟨#[45]⟩ st rs).2 [x]).1) (ho2 : st2 = (shw ⟨#[58]⟩ (shw ⟨#[45]⟩ st rs).2 [x]).2) :
    Calls Tryd.prog 32 #[recV x.n x.p x.tx, .slice A z c, .pointer (some ⟨ca, 0, none⟩), .pointer (some ⟨cb, 0, none⟩), .pointer (some ⟨cs, 0, none⟩), .pointer (some ⟨ct, 0, none⟩), .pointer (some ⟨cf, 0, none⟩)] w fun e w' => ∃ A2 c2, e = .returned (.slice A2 out.length c2) ∧ RecW w' w.heap.size 9 1 (.slice A2 out.length c2) (strs out) ∧ Ct3 w' g ca cb cs ct cf cg cn b a a st2 [] en ov ∧ Moved (F4 g cb cg cn) w w' := by
  obtain ⟨W0, hW0⟩ : ∃ W0, W0 = w.alloc (.cells #[.int .i64 x.n, .int .i64 x.p, .string x.tx] 31) := ⟨_, rfl⟩
  obtain ⟨gx, hgx⟩ : ∃ gx, gx = w.heap.size := ⟨_, rfl⟩
  have hb1 : Below w.heap.size w W0 := by rw [hW0]; exact (Below.refl _ _).alloc (Nat.le_refl _) _
  have hh := h.below hb1
  have hbx : W0.heap[gx]? = some (.cells #[.int .i64 x.n, .int .i64 x.p, .string x.tx] 31 (0, 0)) := by rw [hW0, hgx]; exact heap_alloc_new _ _
  have hlt := h.lt
  have hxcb : gx ≠ cb := by omega
  obtain ⟨W1, hW1⟩ : ∃ W1, W1 = W0.setCell ⟨cb, 0, none⟩ (.int .i64 (a : Int)) := ⟨_, rfl⟩
  have hh1 : Ct3 W1 g ca cb cs ct cf cg cn b a a st rs en ov := by rw [hW1]; exact hh.setB a
  have hbx1 : W1.heap[gx]? = some (.cells #[.int .i64 x.n, .int .i64 x.p, .string x.tx] 31 (0, 0)) := by rw [hW1]; exact (heap_setCell_other _ _ _ _ hxcb).trans hbx
  have hM1 : Moved (F4 g cb cg cn) w W1 := by rw [hW1, hW0]; exact ((Moved.refl _ w).alloc _).setCell (.inl (.inr (.inl rfl))) _
  have hl1 := hh1.lt
  have hne := hh1.ne
  have hwS : ∀ q, FS g cg cn q → F4 g cb cg cn q := fun q hq => by rcases hq with hq | hq | hq; exact .inl hq; exact .inr (.inr (.inl hq)); exact .inr (.inr (.inr hq))
  have HMW := Lib.hid fun (W : World) (hM : Moved (FS g cg cn) W1 W) => Moved.tr hM1 (hM.wide hwS)
  -- the records that wait are taken
  have HTK := Lib.hid fun (W : World) (hbW : Below W1.heap.size W1 W) => ((take_any (hh1.below hbW).tel).mono (fun e w' hh => by
    obtain ⟨gt, he, hr, ht, hm, hg⟩ := hh
    exact ⟨gt, he, Lib.hid ⟨(hh1.below hbW).moveT hm ht, hr, Moved.tr (Moved.of_below hbW _) (hm.wide fun q hq => .inl hq), hm.wide fun q hq => .inl hq, Nat.le_trans hbW.size hg⟩⟩) : Calls Tryd.prog 33 #[.pointer (some ⟨g, 2, none⟩)] W fun e w' => ∃ gt, e = .returned (.slice (some ⟨gt, 0, none⟩) rs.length 16) ∧ Hid (Ct3 w' g ca cb cs ct cf cg cn b a a st [] en ov ∧ ReadR 0 w' (some ⟨gt, 0, none⟩) rs.length 3 (rs.map Rw.rcs) ∧ Moved (FS g cg cn) W1 w' ∧ Moved (FS g cg cn) W w' ∧ W1.heap.size ≤ gt))
  -- records are told in a row
  have HSH := Lib.hid fun (W : World) (st' : Option Int) (rows : List Rw) (m : ByteArray) (gt n c' : Nat) (hc : Ct3 W g ca cb cs ct cf cg cn b a a st' [] en ov) (hr : ReadR 0 W (some ⟨gt, 0, none⟩) n 3 (rows.map Rw.rcs)) (hg : W1.heap.size ≤ gt) (hM : Moved (FS g cg cn) W1 W) (hm : m.size ≤ 1) (hn : n ≤ 20) (hok : ∀ y ∈ rows, -9223372036854775808 ≤ y.n ∧ y.n ≤ 9223372036854775807 ∧ y.tx.size ≤ 60) => ((by
    obtain ⟨p1, p2⟩ := pow_on4 hT hb hF W (Moved.tr hM1 (hM.wide hwS))
    refine (show_any hT p2 (hF cg (.inr (.inr (.inl rfl)))) (hF cn (.inr (.inr (.inr rfl)))) hc.ctx.sh m hm rows (some ⟨gt, 0, none⟩) n c' hr (fun b' o' e => by injection e with e; injection e with e; omega) hn hok).mono fun e w' hh => ?_
    obtain ⟨A2, c2, he, hr2, hs2, hm2⟩ := hh
    have hw2 := hm2.wide (F' := FS g cg cn) fun q hq => .inr hq
    exact ⟨A2, c2, he, Lib.hid ⟨hr2, hc.moveS hm2 hs2, Moved.tr hM hw2, hw2, hm2⟩⟩) : Calls Tryd.prog 37 #[.string m, .slice (some ⟨gt, 0, none⟩) n c', .pointer (some ⟨cg, 0, none⟩), .pointer (some ⟨cn, 0, none⟩)] W fun e w' => ∃ A2 c2, e = .returned (.slice A2 (shw m st' rows).1.length c2) ∧ Hid (RecW w' W.heap.size 9 1 (.slice A2 (shw m st' rows).1.length c2) (strs (shw m st' rows).1) ∧ Ct3 w' g ca cb cs ct cf cg cn b a a (shw m st' rows).2 [] en ov ∧ Moved (FS g cg cn) W1 w' ∧ Moved (FS g cg cn) W w' ∧ Moved (fun q => q = cg ∨ q = cn) W w'))
  have hle := h.tel.le
  have HRS := Lib.hid hrs
  have HX := Lib.hid (And.intro h0 (And.intro h1 hz))
  have HO := Lib.hid (And.intro ho ho2)
  have hxl : gx < W1.heap.size := (Array.getElem?_eq_some_iff.1 hbx1).1
  have hxn : ¬ FS g cg cn gx := by unfold FS; omega
  have hcsn : ¬ FS g cg cn cs := by unfold FS; omega
  have hctn : ¬ FS g cg cn ct := by unfold FS; omega
  have g0 : ∀ W, Moved (FS g cg cn) W1 W → W.cell? ⟨gx, 0, none⟩ = some (.int .i64 x.n) := fun W hM => cell_of_row W gx 0 _ _ (0, 0) ((hM.block gx hxl hxn).trans hbx1)
  have g1 : ∀ W, Moved (FS g cg cn) W1 W → W.cell? ⟨gx, 1, none⟩ = some (.int .i64 x.p) := fun W hM => cell_of_row W gx 1 _ _ (0, 0) ((hM.block gx hxl hxn).trans hbx1)
  have g2 : ∀ W, Moved (FS g cg cn) W1 W → W.cell? ⟨gx, 2, none⟩ = some (.string x.tx) := fun W hM => cell_of_row W gx 2 _ _ (0, 0) ((hM.block gx hxl hxn).trans hbx1)
  have g3 : ∀ W, Moved (FS g cg cn) W1 W → W.cell? ⟨cs, 0, none⟩ = some (.func (Fn.func 37) #[] #[.pointer (some ⟨cg, 0, none⟩), .pointer (some ⟨cn, 0, none⟩)]) := fun W hM => cell_of_row W cs 0 _ _ (0, 0) ((hM.block cs hl1.2.2.2.1 hcsn).trans hh1.ctx.hs)
  have g4 : ∀ W, Moved (FS g cg cn) W1 W → W.cell? ⟨ct, 0, none⟩ = some (.pointer (some ⟨g, 0, none⟩)) := fun W hM => cell_of_row W ct 0 _ _ (0, 0) ((hM.block ct hl1.2.2.2.2.1 hctn).trans hh1.ctx.ht)
  have d0 : W0.cell? ⟨cb, 0, none⟩ = some (.int .i64 (beh : Int)) := cell_of_row W0 cb 0 _ _ (0, 0) hh.ctx.hb
  have d1 : W0.frozen? ⟨cb, 0, none⟩ = false := by simp [World.frozen?, hh.ctx.hb]
  have d2 : W0.cell? ⟨ca, 0, none⟩ = some (.int .i64 (a : Int)) := cell_of_row W0 ca 0 _ _ (0, 0) hh.ctx.ha
  rw [hW0] at d0 d1 d2
  have hzi : (0 : Int) < (z : Int) := by omega
  have HW := Lib.hid (And.intro hW0 (And.intro hgx hW1))
  have hB0 : Below W1.heap.size W1 W1.drew := below_drewN (Below.refl _ _) 1
  have hS0 : Moved (FS g cg cn) W1 W1.drew := Moved.of_below hB0 _
  have HSZ := Lib.hid hM1.size
  have HNF0 : Hid (∀ q, W1.heap.size ≤ q → ¬ FS g cg cn q) := Lib.hid fun q hq e => by rcases e with e | e | e <;> omega
  have HLT := Lib.hid hl1
  have HCG0 : Hid (cg < W1.heap.size ∧ cn < W1.heap.size) := Lib.hid ⟨hl1.2.2.2.2.2.2.1, hl1.2.2.2.2.2.2.2⟩
  clear hW0 hgx hW1 hb1 hh hbx hlt hxcb hh1 hbx1 hM1 hl1 hne hwS h hT hb hF h0 h1 hz hrs ho ho2 hxl hxn hcsn hctn
  unfold recV
  go_enter Tryd.func32, Tryd.ntmps32
  go_wp2_with fail
  rw [← HW.out.1, ← HW.out.2.1, ← HW.out.2.2]
  clear d0 d1 d2
  have HRD := Lib.hid fun (W : World) (blk : Nat) (h : W.heap[blk]? = some (.cells #[.int .i64 x.n, .int .i64 x.p, .string x.tx] 31 (0, 0))) => ((read_one (x := x.rcs) h x.rwide) : ReadR 0 W (some ⟨blk, 0, none⟩) 1 3 ([x].map Rw.rcs))
  have HAL := Lib.hid fun (W : World) (o : Obj) => ((Below.refl W.heap.size W).alloc (Nat.le_refl _) o : Below W.heap.size W (W.alloc o))
  have HNX := Lib.hid fun (y : Rw) (hy : y ∈ [x]) => ((by rw [List.mem_singleton.1 hy]; exact HX.out) : -9223372036854775808 ≤ y.n ∧ y.n ≤ 9223372036854775807 ∧ y.tx.size ≤ 60)
  obtain ⟨o1, ho1⟩ : ∃ o1, o1 = shw ⟨#[45]⟩ st rs := ⟨_, rfl⟩
  obtain ⟨o2, ho2⟩ : ∃ o2, o2 = shw ⟨#[58]⟩ o1.2 [x] := ⟨_, rfl⟩
  rw [← ho1, ← ho2] at HO
  have HCG : Hid (cg < W1.heap.size ∧ cn < W1.heap.size) := HCG0
  have HNF : Hid (∀ q, W1.heap.size ≤ q → ¬ FS g cg cn q) := HNF0
  have HLN : Hid (o1.1.length ≤ 1000 ∧ o2.1.length ≤ 1000) := Lib.hid ⟨by rw [ho1]; have := shw_len ⟨#[45]⟩ st rs; omega, by rw [ho2]; have := shw_len ⟨#[58]⟩ o1.2 [x]; simp only [List.length_singleton] at this; omega⟩
  have HO1 := Lib.hid (And.intro ho1 ho2)
  clear ho1 ho2
  go_region_held_law (fun W => Moved (FS g cg cn) W1 W) (first | assumption | (exact Moved.alloc (by assumption) _)) (first
    | (go_at_call 33; (with_reducible refine (HTK.out W1.drew hB0).mono ?_); rintro e w2 ⟨gt, rfl, H2⟩; have hS2 : Moved (FS g cg cn) W1 w2 := H2.out.2.2.1)
    | (go_at_call 33; have q3 := HTK.out (W1.alloc (.cells #[.int .i64 x.n, .int .i64 x.p, .string x.tx] 31)).drew (below_drewN (HAL.out W1 (.cells #[.int .i64 x.n, .int .i64 x.p, .string x.tx] 31)) 1); (with_reducible refine q3.mono ?_); clear q3; rintro e w2 ⟨gt, rfl, H2⟩; have hS2 : Moved (FS g cg cn) W1 w2 := H2.out.2.2.1; have hbk : w2.heap[W1.heap.size]? = some (.cells #[.int .i64 x.n, .int .i64 x.p, .string x.tx] 31 (0, 0)) := (H2.out.2.2.2.1.block W1.heap.size (Array.getElem?_eq_some_iff.1 (heap_alloc_new W1 (.cells #[.int .i64 x.n, .int .i64 x.p, .string x.tx] 31))).1 (HNF.out _ (Nat.le_refl _))).trans (heap_alloc_new W1 (.cells #[.int .i64 x.n, .int .i64 x.p, .string x.tx] 31)))
    | (go_at_call 37; (with_reducible refine (HSH.out w2 st rs ⟨#[45]⟩ gt rs.length 16 H2.out.1 H2.out.2.1 H2.out.2.2.2.2 hS2 (by decide) (by omega) HRS.out).mono ?_); rw [← HO1.out.1]; rintro e w3 ⟨A3, c3, rfl, H3⟩; have hS3 : Moved (FS g cg cn) W1 w3 := H3.out.2.2.1; try (have hbk3 : w3.heap[W1.heap.size]? = some (.cells #[.int .i64 x.n, .int .i64 x.p, .string x.tx] 31 (0, 0)) := (H3.out.2.2.2.1.block W1.heap.size (Array.getElem?_eq_some_iff.1 hbk).1 (HNF.out _ (Nat.le_refl _))).trans hbk))
    | (go_at_call 37; (with_reducible refine (HSH.out (w2.alloc _) st rs ⟨#[45]⟩ gt rs.length 16 (H2.out.1.below (HAL.out w2 _)) (H2.out.2.1.below (HAL.out w2 _)) H2.out.2.2.2.2 (Moved.alloc hS2 _) (by decide) (by omega) HRS.out).mono ?_); rw [← HO1.out.1]; rintro e w3 ⟨A3, c3, rfl, H3⟩; have hS3 : Moved (FS g cg cn) W1 w3 := H3.out.2.2.1; have hbk2 : w3.heap[w2.heap.size]? = some (.cells #[.int .i64 x.n, .int .i64 x.p, .string x.tx] 31 (0, 0)) := (H3.out.2.2.2.1.block w2.heap.size (by simp) (HNF.out _ hS2.size)).trans (heap_alloc_new w2 _))
    | (go_at_call 37; (with_reducible refine (HSH.out (w3.alloc _) o1.2 [x] ⟨#[58]⟩ w3.heap.size 1 1 (H3.out.2.1.below (HAL.out w3 _)) (HRD.out _ _ (heap_alloc_new w3 _)) hS3.size (Moved.alloc hS3 _) (by decide) (by decide) HNX.out).mono ?_); rw [← HO1.out.2]; rintro e w4 ⟨A4, c4, rfl, H4⟩; have hS4 : Moved (FS g cg cn) W1 w4 := H4.out.2.2.1; have hro : RecW w4 W1.heap.size 9 1 (.slice A3 o1.1.length c3) (strs o1.1) := ((row_keep3 H3.out.1 (HAL.out w3 _) H4.out.2.2.2.2 (Nat.lt_of_lt_of_le HCG.out.1 hS2.size) (Nat.lt_of_lt_of_le HCG.out.2 hS2.size)).base hS2.size); obtain ⟨A5, c5, w5, ha5, hr5, hg5⟩ := app_two hro H4.out.1 hS4.size HLN.out.1 HLN.out.2; have HAP := Lib.hid ha5; have HR5 := Lib.hid (And.intro hr5 hg5); have HRO := Lib.hid hro; have hS5 : Moved (FS g cg cn) W1 w5 := hS4.grown hg5 (fun k hk => .inr (row_lt hro.1 hk).1); clear ha5 hr5 hg5 hro)
    | (go_at_call 37; have q3 := HSH.out w3 o1.2 [x] ⟨#[58]⟩ w2.heap.size 1 1 H3.out.2.1 (HRD.out _ _ hbk2) hS2.size hS3 (by decide) (by decide) HNX.out; (with_reducible refine q3.mono ?_); clear q3; rw [← HO1.out.2]; rintro e w4 ⟨A4, c4, rfl, H4⟩; have hS4 : Moved (FS g cg cn) W1 w4 := H4.out.2.2.1; have hro : RecW w4 W1.heap.size 9 1 (.slice A3 o1.1.length c3) (strs o1.1) := ((row_keep3 H3.out.1 (Below.refl _ _) H4.out.2.2.2.2 (Nat.lt_of_lt_of_le HCG.out.1 (Moved.alloc hS2 _).size) (Nat.lt_of_lt_of_le HCG.out.2 (Moved.alloc hS2 _).size)).base (Moved.alloc hS2 _).size); obtain ⟨A5, c5, w5, ha5, hr5, hg5⟩ := app_two hro H4.out.1 hS4.size HLN.out.1 HLN.out.2; have HAP := Lib.hid ha5; have HR5 := Lib.hid (And.intro hr5 hg5); have HRO := Lib.hid hro; have hS5 : Moved (FS g cg cn) W1 w5 := hS4.grown hg5 (fun k hk => .inr (row_lt hro.1 hk).1); clear ha5 hr5 hg5 hro)
    | (go_at_call 37; have q3 := HSH.out w3 o1.2 [x] ⟨#[58]⟩ W1.heap.size 1 1 H3.out.2.1 (HRD.out _ _ hbk3) (Nat.le_refl _) hS3 (by decide) (by decide) HNX.out; (with_reducible refine q3.mono ?_); clear q3; rw [← HO1.out.2]; rintro e w4 ⟨A4, c4, rfl, H4⟩; have hS4 : Moved (FS g cg cn) W1 w4 := H4.out.2.2.1; have hro : RecW w4 W1.heap.size 9 1 (.slice A3 o1.1.length c3) (strs o1.1) := ((row_keep3 H3.out.1 (Below.refl _ _) H4.out.2.2.2.2 (Nat.lt_of_lt_of_le HCG.out.1 hS2.size) (Nat.lt_of_lt_of_le HCG.out.2 hS2.size)).base hS2.size); obtain ⟨A5, c5, w5, ha5, hr5, hg5⟩ := app_two hro H4.out.1 hS4.size HLN.out.1 HLN.out.2; have HAP := Lib.hid ha5; have HR5 := Lib.hid (And.intro hr5 hg5); have HRO := Lib.hid hro; have hS5 : Moved (FS g cg cn) W1 w5 := hS4.grown hg5 (fun k hk => .inr (row_lt hro.1 hk).1); clear ha5 hr5 hg5 hro)
    | (refine step_append_run rfl (.tmp 20) (.tmp 24) 29 rfl rfl _ _ _ _ rfl rfl HAP.out ?_))
  all_goals
    have HE : Hid (RecW w5 w.heap.size 9 1 (.slice A5 (o1.1 ++ o2.1).length c5) (strs (o1.1 ++ o2.1)) ∧ Ct3 w5 g ca cb cs ct cf cg cn b a a o2.2 [] en ov ∧ Moved (F4 g cb cg cn) w w5) := Lib.hid ⟨HR5.out.1.base HSZ.out, H4.out.2.1.grown HR5.out.2 (fun q hq => (row_lt HRO.out.1 hq).1) HLT.out, HMW.out w5 hS5⟩
    simp only [Exit.then]
    go_wp2_with fail
    go_ret
    exact ⟨A5, c5, by rw [HO.out.1]; simp, by rw [HO.out.1]; exact HE.out.1, by rw [HO.out.2]; exact HE.out.2.1, HE.out.2.2⟩
end
end Go.Proofs.YtebmafghekfllaaDoor
