/- The writer's often, and its trees. -/
import Derived.Test.YtegcebgoiocakaaM03
import Derived.Test.YtegcebgoiocakaaM04
import Derived.Test.YtegcebgoiocakaaM13
import Derived.Lib.MinMax
import Derived.OwnWalk
import Derived.LoopN
namespace Go.Proofs.Ytegcebgoiocakaa
open Go Go.RowKit
set_option linter.unusedVariables false
set_option maxRecDepth 20000

set_option maxHeartbeats 4000000 in
theorem counts_exact {A D : Option Addr} {ns cs nk ck : Nat} {op mx : Int} (mn : Nat) (hmn : mn ≤ 1000) (hmx : mx ≤ (mn : Int)) (hmx0 : -1 ≤ mx) (w : World) :
    Calls Try.prog 62 #[.agg #[.int .i64 op, .slice A ns cs, .int .i64 (mn : Int), .int .i64 mx, .slice D nk ck]] w fun e w' => e = .returned (.tuple #[.int .i64 (mn : Int), .int .i64 0]) ∧ Below w.heap.size w w' := by
  have m1 : max (mn : Int) 0 = (mn : Int) := by omega
  have m2 : max mx (mn : Int) = (mn : Int) := by omega
  have hw : IntKind.i64.wrap ((mn : Int) - (mn : Int)) = 0 := by rw [IntKind.wrap_i64]; omega
  have hw2 : (mn : Int) - (mn : Int) = 0 := by omega
  go_enter Try.func62, Try.ntmps62
  go_wp2_with fail
  go_region
  all_goals
    go_wp2
    go_ret2
    exact ⟨rfl, ((Below.refl _ _).alloc (Nat.le_refl _) _).drew⟩
set_option maxHeartbeats 8000000 in
theorem often_any {B g q pc c : Nat} {w : World} {P : Option Addr} {xs : List IV} (h : WrS B g w P q pc xs) {A D : Option Addr} {ns cs nk ck : Nat} {op mx : Int} (mn : Nat) (hmn : mn ≤ 1000) (hx : mx = (mn : Int) ∨ mx = -1) (hc : 1 ≤ c) (hq : q + (mn * c + if mx < 0 then c + 2 else 0) ≤ 20000)
    (HR : ∀ w1 P1 q1 pc1 xs1, Below B w w1 → WrS B g w1 P1 q1 pc1 xs1 → q1 + c ≤ 20000 → Calls Try.prog 66 #[.pointer (some ⟨g, 0, none⟩), .slice D nk ck] w1 (Added B g w1 P1 q1 pc1 c)) :
    Calls Try.prog 68 #[.pointer (some ⟨g, 0, none⟩), .agg #[.int .i64 op, .slice A ns cs, .int .i64 (mn : Int), .int .i64 mx, .slice D nk ck]] w (Added B g w P q pc (mn * c + if mx < 0 then c + 2 else 0)) := by
  have hgl := h.lt
  have hBw : B ≤ w.heap.size := by have := h.hB; omega
  have HCo := Lib.hid fun w' => counts_exact (A := A) (D := D) (ns := ns) (cs := cs) (nk := nk) (ck := ck) (op := op) (mx := mx) mn hmn (by omega) (by omega) w'
  have HRo := Lib.hid HR
  have HS := Lib.hid h
  have HX := Lib.hid hx
  have HB := Lib.hid hBw
  obtain ⟨C, hC⟩ : ∃ C, C = mn * c + if mx < 0 then c + 2 else 0 := ⟨_, rfl⟩
  rw [← hC]
  rw [← hC] at hq
  have HQ := Lib.hid (And.intro (show q + mn * c ≤ 20000 by omega) (And.intro hc hq))
  have HCC := Lib.hid hC
  clear h HR hq hBw hx hC
  go_enter Try.func68, Try.ntmps68
  go_wp2_with (go_at_call 62; (with_reducible refine (HCo.out _).mono ?_); rintro e w1 ⟨rfl, hb⟩; have HB1 := Lib.hid (((Below.refl w.heap.size w).alloc (Nat.le_refl _) (.cells #[.int .i64 op, .slice A ns cs, .int .i64 (mn : Int), .int .i64 mx, .slice D nk ck] 52)).trans (hb.mono (by simp))); have HBx := Lib.hid (show w1.heap[w.heap.size]? = some (.cells #[.int .i64 op, .slice A ns cs, .int .i64 (mn : Int), .int .i64 mx, .slice D nk ck] 52 (0, 0)) from (hb.block _ (by simp)).trans (heap_alloc_new w _)); clear hb)
  go_loopw [6, 16] (fun vb vi wr => ∃ (j pc' : Nat) (P' : Option Addr) (xs' : List IV), vi = .int .i64 (j : Int) ∧ j ≤ mn ∧ Hid (WrS B g wr P' (q + j * c) pc' xs' ∧ Wk B g (.slice P q pc) w wr ∧ Vk w (.slice P q pc) (.slice P' (q + j * c) pc') ∧ wr.heap[w.heap.size]? = some (.cells #[.int .i64 op, .slice A ns cs, .int .i64 (mn : Int), .int .i64 mx, .slice D nk ck] 52 (0, 0)) ∧ (Value.slice P' (q + j * c) pc').ownBlock ≠ some w.heap.size)) (fun _ vi _ => mn - (match vi with | .int _ j => j.toNat | _ => 0))
  case atStart =>
    refine ⟨0, pc, P, xs, rfl, Nat.zero_le _, Lib.hid ?_⟩
    rw [Nat.zero_mul, Nat.add_zero]
    exact ⟨HS.out.below HB1.out, Wk.of_below HB.out HB1.out, Vk.refl _ _, HBx.out, fun e => by have := (row_lt HS.out.row e).2; omega⟩
  case round =>
    obtain ⟨j, pc', P', xs', rfl, hj, H⟩ := hrel
    obtain ⟨y0, y1, y2, y3, y4, yf⟩ := box_facts H.out.2.2.2.1
    have g1 : wr.cell? ⟨g, 0, none⟩ = some (.slice P' (q + j * c) pc') := cell_of_row wr g 0 _ _ (0, 0) H.out.1.hg
    by_cases hlt : j < mn
    · have hjc : j * c + c ≤ mn * c := by have := Nat.mul_le_mul_right c hlt; rw [Nat.succ_mul] at this; exact this
      have HJ := Lib.hid hjc
      obtain ⟨z, hz⟩ : ∃ z, z = q + j * c := ⟨_, rfl⟩
      rw [← hz] at g1
      have HZ := Lib.hid hz
      have HC := Lib.hid (show Calls Try.prog 66 #[.pointer (some ⟨g, 0, none⟩), .slice D nk ck] wr (Added B g wr P' z pc' c) from by
        have hq := HQ.out.1
        rw [hz]
        exact HRo.out wr P' (q + j * c) pc' xs' H.out.2.1.1 H.out.1 (by omega))
      have n1 : (((z + c : Nat) : Int) == (z : Int)) = false := by simp; omega
      have n2 : ((z : Int) + (c : Int) == (z : Int)) = false := by simp; omega
      have h00 : (j : Int) < (mn : Int) := by omega
      clear hz hjc y0 y1 y2 y3 yf
      go_wp2_with (go_at_call 66; (with_reducible refine HC.out.mono ?_); rintro e w2 ⟨rfl, P2, pc2, xs2, k1, k2, k3⟩; have HV := Lib.hid (And.intro k1 (And.intro k2 k3)); have g2 : w2.cell? ⟨g, 0, none⟩ = some (.slice P2 (z + c) pc2) := cell_of_row w2 g 0 _ _ (0, 0) k1.hg; clear k1 k2 k3)
      have hz := HZ.out
      have hzq : q + (j + 1) * c = z + c := by rw [hz, Nat.succ_mul]; omega
      have hbl : w.heap.size < wr.heap.size := (Array.getElem?_eq_some_iff.1 H.out.2.2.2.1).1
      have hH := H.out
      rw [← hz] at hH
      refine ⟨⟨j + 1, pc2, P2, xs2, rfl, hlt, Lib.hid ?_⟩, by show mn - ((j : Int) + 1).toNat < mn - (j : Int).toNat; omega⟩
      rw [hzq]
      exact ⟨HV.out.1, hH.2.1.trans hH.2.2.1 HV.out.2.1, hH.2.2.1.trans hH.2.1.2.1 HV.out.2.2, (HV.out.2.1.2.2 _ hbl (by omega) hH.2.2.2.2).trans hH.2.2.2.1, HV.out.2.2 _ hbl hH.2.2.2.2⟩
    · obtain rfl : j = mn := by omega
      rcases HX.out with rfl | rfl
      · have n0 : ¬ (j : Int) < 0 := by omega
        have HCe := Lib.hid (show C = j * c by rw [HCC.out, if_neg n0, Nat.add_zero])
        clear HX HCo
        go_wp2_with fail
        go_loopw [7, 43] (fun va vi wx => va = .slice none 0 0 ∧ vi = .int .i64 0 ∧ wx = wr) (fun _ _ _ => 0)
        case atStart => exact ⟨rfl, rfl, rfl⟩
        case round =>
          obtain ⟨rfl, rfl, hx1⟩ := hrel
          subst hx1
          go_wp2_with fail
          go_loopw [57] (fun vi wy => vi = .int .i64 0 ∧ wy = wr) (fun _ _ => 0)
          case atStart => exact ⟨rfl, rfl⟩
          case round =>
            obtain ⟨rfl, hx2⟩ := hrel
            subst hx2
            go_wp2
            go_end0
            rw [HCe.out]
            exact ⟨rfl, P', pc', xs', H.out.1, H.out.2.1, H.out.2.2.1⟩
      · have HLo := Lib.hid (loop_any (v := .slice D nk ck) (c := c) H.out.1 (by have := HQ.out.2.2; rw [HCC.out, if_pos (by decide)] at this; omega) fun w1 P1 pc1 xs1 hb1 h1 => HRo.out w1 P1 _ pc1 xs1 (H.out.2.1.1.trans hb1) h1 (by have := HQ.out.2.2; rw [HCC.out, if_pos (by decide)] at this; omega))
        have HCe := Lib.hid (show C = j * c + (c + 2) by rw [HCC.out, if_pos (by decide)])
        clear HX HCo
        go_wp2_with (go_at_call 92; (with_reducible refine HLo.out.mono ?_); rintro e w2 ⟨rfl, P2, pc2, xs2, k1, k2, k3⟩; have HV := Lib.hid (And.intro k1 (And.intro k2 k3)); clear k1 k2 k3)
        first | go_end0 | go_ret | (refine bodyPost_ret (results_none rfl _ _ _) rfl ?_)
        rw [HCe.out]
        exact ⟨rfl, P2, pc2, xs2, by rw [← Nat.add_assoc]; exact HV.out.1, H.out.2.1.trans H.out.2.2.1 HV.out.2.1, by rw [← Nat.add_assoc]; exact H.out.2.2.1.trans H.out.2.1.2.1 HV.out.2.2⟩
set_option maxHeartbeats 4000000 in
theorem tree_cat {B g c : Nat} {w0 : World} {A D : Option Addr} {ns cs nk ck : Nat} {mn mx : Int} (hBw : B ≤ w0.heap.size)
    (HR : ∀ w P q pc xs, Below B w0 w → WrS B g w P q pc xs → q + c ≤ 20000 → Calls Try.prog 66 #[.pointer (some ⟨g, 0, none⟩), .slice D nk ck] w (Added B g w P q pc c)) : TreeC B g w0 (.agg #[.int .i64 4, .slice A ns cs, .int .i64 mn, .int .i64 mx, .slice D nk ck]) c := by
  intro w P q pc xs hb0 h hq
  have hgl := h.lt
  have hB : B ≤ w.heap.size := by have := h.hB; omega
  have HC := Lib.hid (HR (w.alloc (.cells #[.int .i64 4, .slice A ns cs, .int .i64 mn, .int .i64 mx, .slice D nk ck] 52)) P q pc xs (hb0.alloc (by have := hb0.size; omega) _) (h.below ((Below.refl _ _).alloc (Nat.le_refl _) _)) hq)
  have HB := Lib.hid hB
  clear h HR hB
  go_enter Try.func37, Try.ntmps37
  go_wp2_with (go_at_call 66; (with_reducible refine HC.out.mono ?_); rintro e w2 hv; have HV := Lib.hid hv; obtain ⟨rfl, -⟩ := hv)
  go_end0
  exact Added.behind HB.out ((Below.refl _ _).alloc (Nat.le_refl _) _) HV.out
set_option maxHeartbeats 4000000 in
theorem tree_rep {B g c : Nat} {w0 : World} {A D : Option Addr} {ns cs nk ck : Nat} {mn mx : Int} (hBw : B ≤ w0.heap.size)
    (HR : ∀ w P q pc xs, Below B w0 w → WrS B g w P q pc xs → q + c ≤ 20000 → Calls Try.prog 68 #[.pointer (some ⟨g, 0, none⟩), .agg #[.int .i64 6, .slice A ns cs, .int .i64 mn, .int .i64 mx, .slice D nk ck]] w (Added B g w P q pc c)) : TreeC B g w0 (.agg #[.int .i64 6, .slice A ns cs, .int .i64 mn, .int .i64 mx, .slice D nk ck]) c := by
  intro w P q pc xs hb0 h hq
  have hgl := h.lt
  have hB : B ≤ w.heap.size := by have := h.hB; omega
  have HC := Lib.hid (HR (w.alloc (.cells #[.int .i64 6, .slice A ns cs, .int .i64 mn, .int .i64 mx, .slice D nk ck] 52)) P q pc xs (hb0.alloc (by have := hb0.size; omega) _) (h.below ((Below.refl _ _).alloc (Nat.le_refl _) _)) hq)
  have HB := Lib.hid hB
  clear h HR hB
  go_enter Try.func37, Try.ntmps37
  go_wp2_with (go_at_call 68; (with_reducible refine HC.out.mono ?_); rintro e w2 hv; have HV := Lib.hid hv; obtain ⟨rfl, -⟩ := hv)
  go_end0
  exact Added.behind HB.out ((Below.refl _ _).alloc (Nat.le_refl _) _) HV.out
end Go.Proofs.Ytegcebgoiocakaa
/- Lengths of small trees. -/
namespace Go.Proofs.Ytegcebgoiocakaa
open Go Go.RowKit
set_option linter.unusedVariables false
set_option maxRecDepth 20000

/-- A tree's length. -/
def LenC (B : Nat) (w0 : World) (v : Value) (c : Nat) : Prop := ∀ w, Below B w0 w → B ≤ w.heap.size → Calls Try.prog 36 #[v] w fun e w' => e = .returned (.int .i64 (c : Int)) ∧ Below w.heap.size w w'
set_option maxHeartbeats 2000000 in
theorem len_char (B : Nat) (w0 : World) (A D : Option Addr) (ns cs nk ck : Nat) (mn mx : Int) : LenC B w0 (.agg #[.int .i64 1, .slice A ns cs, .int .i64 mn, .int .i64 mx, .slice D nk ck]) 1 := by
  intro w _ _
  go_enter Try.func36, Try.ntmps36
  go_wp2
  go_ret
  exact ⟨rfl, (Below.refl _ _).alloc (Nat.le_refl _) _⟩
set_option maxHeartbeats 4000000 in
theorem together_any {B : Nat} {w0 : World} {D : Option Addr} {nk ck : Nat} {K : Wood} (hk : KidsAt (fun b => b < B) w0 D nk K) (hnk : nk ≤ 1000) (cf : Nat → Nat) (hc : ∀ j, cf j ≤ cf (j + 1)) (hc0 : cf 0 = 0) (hcl : cf nk ≤ 20000)
    (HT : ∀ j, j < nk → ∀ v, NodeIn (fun b => b < B) w0 v (K.nth j) → LenC B w0 v (cf (j + 1) - cf j)) :
    ∀ w, Below B w0 w → B ≤ w.heap.size → Calls Try.prog 61 #[.slice D nk ck] w fun e w' => e = .returned (.int .i64 (cf nk : Int)) ∧ Below w.heap.size w w' := by
  intro w hb0 hBw
  have hmono : ∀ a b, a ≤ b → cf a ≤ cf b := fun a b hab => by
    induction hab with
    | refl => exact Nat.le_refl _
    | step _ ih => exact Nat.le_trans ih (hc _)
  have HK := Lib.hid hk
  have HTr := Lib.hid HT
  have HM := Lib.hid (And.intro hmono hc0)
  have HB := Lib.hid (And.intro hb0 hBw)
  clear hk HT hmono hc hc0 hb0 hBw
  go_enter Try.func61, Try.ntmps61
  go_wp2_with fail
  go_loopw [3, 8] (fun vs vi wr => ∃ (j S : Nat), vs = .int .i64 (S : Int) ∧ vi = .int .i64 (j : Int) ∧ j ≤ nk ∧ S ≤ 20000 ∧ Hid (S = cf j ∧ Below w.heap.size w wr)) (fun _ vi _ => nk - (match vi with | .int _ j => j.toNat | _ => 0))
  case atStart => exact ⟨0, 0, rfl, rfl, Nat.zero_le _, by omega, Lib.hid ⟨HM.out.2.symm, Below.refl _ _⟩⟩
  case round =>
    obtain ⟨j, S, rfl, rfl, hj, hS, H⟩ := hrel
    by_cases hlt : j < nk
    · have hbr : Below B w0 wr := HB.out.1.trans (H.out.2.mono HB.out.2)
      have hBr : B ≤ wr.heap.size := Nat.le_trans HB.out.2 H.out.2.size
      have hkw : KidsAt (fun b => b < B) wr D nk K := HK.out.keep hbr.size fun b hb _ => hbr.block b hb
      obtain ⟨b, o, op, s, mn, mx, k', A', D', ns, cs, nk', ck', rfl, hbl, e, c0, c1, c2, c3, c4, hin⟩ := hkw.kid hlt
      have hin0 : NodeIn (fun b => b < B) w0 (.agg #[.int .i64 op, .slice A' ns cs, .int .i64 mn, .int .i64 mx, .slice D' nk' ck']) (K.nth j) := by
        obtain ⟨b2, o2, op2, s2, mn2, mx2, k2, A2, D2, ns2, cs2, nk2, ck2, hD2, hbl2, e2, d0, d1, d2, d3, d4, hin2⟩ := HK.out.kid hlt
        injection hD2 with hD2
        injection hD2 with e3 e4
        subst e3; subst e4
        have hbB : b < B := by
          obtain ⟨b5, o5, hD5, hF5, _⟩ := HK.out.2 (by omega)
          injection hD5 with hD5
          injection hD5 with e5 _
          subst e5
          exact hF5
        have up : ∀ x, wr.cell? ⟨b, x, none⟩ = w0.cell? ⟨b, x, none⟩ := fun x => hbr.cell (p := ⟨b, x, none⟩) hbB
        rw [up] at c0 c1 c2 c3 c4
        rw [d0] at c0; rw [d1] at c1; rw [d2] at c2; rw [d3] at c3; rw [d4] at c4
        injection c0 with c0; injection c0 with _ c0
        injection c1 with c1; injection c1 with a1 a2 a3
        injection c2 with c2; injection c2 with _ c2
        injection c3 with c3; injection c3 with _ c3
        injection c4 with c4; injection c4 with b1 b2 b3
        subst c0; subst a1; subst a2; subst a3; subst c2; subst c3; subst b1; subst b2; subst b3
        exact hin2
      have hcm := HM.out.1 (j + 1) nk (by omega)
      have hcm2 := HM.out.1 j (j + 1) (by omega)
      obtain ⟨d, hd⟩ : ∃ d, d = cf (j + 1) - cf j := ⟨_, rfl⟩
      have HC := HTr.out j hlt _ hin0 (wr.alloc (.cells #[.int .i64 op, .slice A' ns cs, .int .i64 mn, .int .i64 mx, .slice D' nk' ck'] 52)) (hbr.alloc hBr _) (by simp; omega)
      rw [← hd] at HC
      have HCH := Lib.hid HC
      have hSd := H.out.1
      have HCM := Lib.hid (show S + d = cf (j + 1) by omega)
      have hd2 : S + d ≤ 20000 := by omega
      have hm1 : min ((S : Int) + (d : Int)) 1099511627776 = (S : Int) + (d : Int) := by omega
      have hw1 : IntKind.i64.wrap ((S : Int) + (d : Int)) = (S : Int) + (d : Int) := by rw [IntKind.wrap_i64]; omega
      clear hin hin0 hkw e hbr hcm hcm2 HC hd hSd hBr
      go_wp2_with (go_at_call 36; (with_reducible refine HCH.out.mono ?_); rintro e w2 ⟨rfl, hb⟩; have HV := Lib.hid hb; clear hb)
      exact ⟨⟨j + 1, S + d, by simp, rfl, hlt, hd2, Lib.hid ⟨HCM.out, (H.out.2.alloc H.out.2.size _).trans (HV.out.mono (Nat.le_trans H.out.2.size (by simp)))⟩⟩, by show nk - ((j : Int) + 1).toNat < nk - (j : Int).toNat; omega⟩
    · obtain rfl : j = nk := by omega
      go_wp2
      go_ret
      rw [← H.out.1]
      exact ⟨rfl, H.out.2⟩
theorem times31 (w : World) : Calls Try.prog 63 #[.int .i64 3, .int .i64 1] w fun e w' => e = .returned (.int .i64 3) ∧ w = w' := by
  go_enter Try.func63, Try.ntmps63
  go_wp2
  go_ret
  exact ⟨rfl, rfl⟩
theorem times02 (w : World) : Calls Try.prog 63 #[.int .i64 0, .int .i64 2] w fun e w' => e = .returned (.int .i64 0) ∧ w = w' := by
  go_enter Try.func63, Try.ntmps63
  go_wp2
  go_ret
  exact ⟨rfl, rfl⟩
theorem times01 (w : World) : Calls Try.prog 63 #[.int .i64 0, .int .i64 1] w fun e w' => e = .returned (.int .i64 0) ∧ w = w' := by
  go_enter Try.func63, Try.ntmps63
  go_wp2
  go_ret
  exact ⟨rfl, rfl⟩
set_option maxHeartbeats 2000000 in
theorem len_cat {B c : Nat} {w0 : World} {A D : Option Addr} {ns cs nk ck : Nat} {mn mx : Int} (hT : ∀ w, Below B w0 w → B ≤ w.heap.size → Calls Try.prog 61 #[.slice D nk ck] w fun e w' => e = .returned (.int .i64 (c : Int)) ∧ Below w.heap.size w w') : LenC B w0 (.agg #[.int .i64 4, .slice A ns cs, .int .i64 mn, .int .i64 mx, .slice D nk ck]) c := by
  intro w hb hBw
  have HT := Lib.hid (hT (w.alloc (.cells #[.int .i64 4, .slice A ns cs, .int .i64 mn, .int .i64 mx, .slice D nk ck] 52)) (hb.alloc hBw _) (by simp; omega))
  clear hT
  go_enter Try.func36, Try.ntmps36
  go_wp2_with (go_at_call 61; (with_reducible refine HT.out.mono ?_); rintro e w1 ⟨rfl, hb1⟩; have H1 := Lib.hid (((Below.refl w.heap.size w).alloc (Nat.le_refl _) (.cells #[.int .i64 4, .slice A ns cs, .int .i64 mn, .int .i64 mx, .slice D nk ck] 52)).trans (hb1.mono (by simp))); clear hb1)
  go_ret
  exact ⟨rfl, H1.out⟩
end Go.Proofs.Ytegcebgoiocakaa
/- Lengths of what stands under a count. -/
namespace Go.Proofs.Ytegcebgoiocakaa
open Go Go.RowKit
set_option linter.unusedVariables false
set_option maxRecDepth 20000

set_option maxHeartbeats 4000000 in
theorem len_three {B : Nat} {w0 : World} {A D : Option Addr} {ns cs nk ck : Nat} (hT : ∀ w, Below B w0 w → B ≤ w.heap.size → Calls Try.prog 61 #[.slice D nk ck] w fun e w' => e = .returned (.int .i64 1) ∧ Below w.heap.size w w') : LenC B w0 (.agg #[.int .i64 6, .slice A ns cs, .int .i64 3, .int .i64 3, .slice D nk ck]) 3 := by
  intro w hb hBw
  have HT := Lib.hid (hT (w.alloc (.cells #[.int .i64 6, .slice A ns cs, .int .i64 3, .int .i64 3, .slice D nk ck] 52)) (hb.alloc hBw _) (by simp; omega))
  have HC := Lib.hid fun w' => show Calls Try.prog 62 #[.agg #[.int .i64 6, .slice A ns cs, .int .i64 3, .int .i64 3, .slice D nk ck]] w' fun e w'' => e = .returned (.tuple #[.int .i64 3, .int .i64 0]) ∧ Below w'.heap.size w' w'' from counts_exact (A := A) (D := D) (ns := ns) (cs := cs) (nk := nk) (ck := ck) (op := 6) (mx := 3) 3 (by omega) (by decide) (by decide) w'
  have t1 := Lib.hid times31
  have t2 := Lib.hid times02
  have t3 := Lib.hid times01
  clear hT
  go_enter Try.func36, Try.ntmps36
  go_wp2_with (first
    | (go_at_call 61; (with_reducible refine HT.out.mono ?_); rintro e w1 ⟨rfl, hb1⟩; have H1 := Lib.hid (((Below.refl w.heap.size w).alloc (Nat.le_refl _) (.cells #[.int .i64 6, .slice A ns cs, .int .i64 3, .int .i64 3, .slice D nk ck] 52)).trans (hb1.mono (by simp))); have HBx := Lib.hid (show w1.heap[w.heap.size]? = some (.cells #[.int .i64 6, .slice A ns cs, .int .i64 3, .int .i64 3, .slice D nk ck] 52 (0, 0)) from (hb1.block _ (by simp)).trans (heap_alloc_new w _)); obtain ⟨y0, y1, y2, y3, y4, yf⟩ := box_facts HBx.out; clear hb1)
    | (go_at_call 62; (with_reducible refine (HC.out _).mono ?_); rintro e w2 ⟨rfl, hb2⟩; have H2 := Lib.hid hb2; have z3 := ((hb2.cell (p := ⟨w.heap.size, 3, none⟩) (Array.getElem?_eq_some_iff.1 HBx.out).1).trans y3); clear hb2)
    | (go_at_call 63; first | ((with_reducible refine (t1.out _).mono ?_); rintro e w3 ⟨rfl, rfl⟩) | ((with_reducible refine (t2.out _).mono ?_); rintro e w3 ⟨rfl, rfl⟩) | ((with_reducible refine (t3.out _).mono ?_); rintro e w3 ⟨rfl, rfl⟩)))
  all_goals
    go_ret
    exact ⟨rfl, H1.out.trans (H2.out.mono H1.out.size)⟩
set_option maxHeartbeats 4000000 in
theorem len_star {B : Nat} {w0 : World} {A D : Option Addr} {ns cs nk ck : Nat} (hT : ∀ w, Below B w0 w → B ≤ w.heap.size → Calls Try.prog 61 #[.slice D nk ck] w fun e w' => e = .returned (.int .i64 1) ∧ Below w.heap.size w w') : LenC B w0 (.agg #[.int .i64 6, .slice A ns cs, .int .i64 0, .int .i64 (-1), .slice D nk ck]) 3 := by
  intro w hb hBw
  have HT := Lib.hid (hT (w.alloc (.cells #[.int .i64 6, .slice A ns cs, .int .i64 0, .int .i64 (-1), .slice D nk ck] 52)) (hb.alloc hBw _) (by simp; omega))
  have HC := Lib.hid fun w' => show Calls Try.prog 62 #[.agg #[.int .i64 6, .slice A ns cs, .int .i64 0, .int .i64 (-1), .slice D nk ck]] w' fun e w'' => e = .returned (.tuple #[.int .i64 0, .int .i64 0]) ∧ Below w'.heap.size w' w'' from counts_exact (A := A) (D := D) (ns := ns) (cs := cs) (nk := nk) (ck := ck) (op := 6) (mx := (-1)) 0 (by omega) (by decide) (by decide) w'
  have t1 := Lib.hid times31
  have t2 := Lib.hid times02
  have t3 := Lib.hid times01
  clear hT
  go_enter Try.func36, Try.ntmps36
  go_wp2_with (first
    | (go_at_call 61; (with_reducible refine HT.out.mono ?_); rintro e w1 ⟨rfl, hb1⟩; have H1 := Lib.hid (((Below.refl w.heap.size w).alloc (Nat.le_refl _) (.cells #[.int .i64 6, .slice A ns cs, .int .i64 0, .int .i64 (-1), .slice D nk ck] 52)).trans (hb1.mono (by simp))); have HBx := Lib.hid (show w1.heap[w.heap.size]? = some (.cells #[.int .i64 6, .slice A ns cs, .int .i64 0, .int .i64 (-1), .slice D nk ck] 52 (0, 0)) from (hb1.block _ (by simp)).trans (heap_alloc_new w _)); obtain ⟨y0, y1, y2, y3, y4, yf⟩ := box_facts HBx.out; clear hb1)
    | (go_at_call 62; (with_reducible refine (HC.out _).mono ?_); rintro e w2 ⟨rfl, hb2⟩; have H2 := Lib.hid hb2; have z3 := ((hb2.cell (p := ⟨w.heap.size, 3, none⟩) (Array.getElem?_eq_some_iff.1 HBx.out).1).trans y3); clear hb2)
    | (go_at_call 63; first | ((with_reducible refine (t1.out _).mono ?_); rintro e w3 ⟨rfl, rfl⟩) | ((with_reducible refine (t2.out _).mono ?_); rintro e w3 ⟨rfl, rfl⟩) | ((with_reducible refine (t3.out _).mono ?_); rintro e w3 ⟨rfl, rfl⟩)))
  all_goals
    go_ret
    exact ⟨rfl, H1.out.trans (H2.out.mono H1.out.size)⟩
end Go.Proofs.Ytegcebgoiocakaa
/- The example's tree, its program. -/
namespace Go.Proofs.Ytegcebgoiocakaa
open Go Go.RowKit
set_option linter.unusedVariables false
set_option maxRecDepth 20000

theorem kid_char {B g : Nat} {w0 : World} (hBw : B ≤ w0.heap.size) {s : List (Int × Int)} (hs : s.length ≤ 1000) {v : Value} (h : NodeIn (fun b => b < B) w0 v (leaf 1 s)) : TreeC B g w0 v 1 ∧ LenC B w0 v 1 := by
  obtain ⟨op, s', mn, mx, k, A, D, ns, cs, nk, ck, e, rfl, hr, hk⟩ := h
  injection e with e1 e2 e3 e4 e5 _
  subst e1; subst e2
  exact ⟨tree_char hr.1 (by have := hr.1.1.1; omega) hBw, len_char B w0 A D ns cs nk ck mn mx⟩
theorem kid_row {B g : Nat} {w0 : World} (hBw : B ≤ w0.heap.size) {s : List (Int × Int)} (hs : s.length ≤ 1000) {D : Option Addr} {nk ck : Nat} (hk : KidsAt (fun b => b < B) w0 D nk (leaf 1 s)) :
    (∀ w P q pc xs, Below B w0 w → WrS B g w P q pc xs → q + 1 ≤ 20000 → Calls Try.prog 66 #[.pointer (some ⟨g, 0, none⟩), .slice D nk ck] w (Added B g w P q pc 1)) ∧
    (∀ w, Below B w0 w → B ≤ w.heap.size → Calls Try.prog 61 #[.slice D nk ck] w fun e w' => e = .returned (.int .i64 1) ∧ Below w.heap.size w w') := by
  obtain rfl : nk = 1 := hk.1.symm
  have hcf : ∀ j, min j 1 ≤ min (j + 1) 1 := fun j => by omega
  refine ⟨row_adds hk (by omega) hBw (fun j => min j 1) hcf rfl (by decide) fun j hj v hv => ?_, together_any hk (by omega) (fun j => min j 1) hcf rfl (by decide) fun j hj v hv => ?_⟩
  · obtain rfl : j = 0 := by omega
    exact (kid_char hBw hs hv).1
  · obtain rfl : j = 0 := by omega
    exact (kid_char (g := g) hBw hs hv).2
theorem kid_rep {B g : Nat} {w0 : World} (hBw : B ≤ w0.heap.size) {s : List (Int × Int)} (hs : s.length ≤ 1000) {mn mx : Int} (hm : mn = 3 ∧ mx = 3 ∨ mn = 0 ∧ mx = -1) {v : Value} (h : NodeIn (fun b => b < B) w0 v (.cons 6 [] mn mx (leaf 1 s) .nil)) : TreeC B g w0 v 3 ∧ LenC B w0 v 3 := by
  obtain ⟨op, s', mn', mx', k, A, D, ns, cs, nk, ck, e, rfl, hr, hk⟩ := h
  injection e with e1 e2 e3 e4 e5 _
  subst e1; subst e2; subst e3; subst e4; subst e5
  have hrow := kid_row (g := g) hBw hs (ck := ck) hk
  rcases hm with ⟨rfl, rfl⟩ | ⟨rfl, rfl⟩
  · exact ⟨tree_rep hBw fun w P q pc xs hb h hq => often_any h (op := 6) (c := 1) 3 (by omega) (.inl rfl) (by omega) (by simpa using hq) fun w1 P1 q1 pc1 xs1 hb1 h1 hq1 => hrow.1 w1 P1 q1 pc1 xs1 (hb.trans hb1) h1 hq1, len_three hrow.2⟩
  · exact ⟨tree_rep hBw fun w P q pc xs hb h hq => often_any h (op := 6) (c := 1) 0 (by omega) (.inr rfl) (by omega) (by simpa using hq) fun w1 P1 q1 pc1 xs1 hb1 h1 hq1 => hrow.1 w1 P1 q1 pc1 xs1 (hb.trans hb1) h1 hq1, len_star hrow.2⟩
/-- The example's tree. -/
def exT : Wood := .cons 4 [] 0 0 (.cons 6 [] 3 3 (leaf 1 [(97, 97)]) (.cons 6 [] 0 (-1) (leaf 1 [(98, 98)]) .nil)) .nil
theorem ex_tree {B g : Nat} {w0 : World} (hBw : B ≤ w0.heap.size) {x : NV} (h : NodesIn (fun b => b < B) w0 [x] exT) : TreeC B g w0 x.val 6 ∧ LenC B w0 x.val 6 := by
  obtain ⟨op, s', mn', mx', k, A, D, ns, cs, nk, ck, e, hx, hr, hk⟩ := h.one
  rw [hx]
  unfold exT at e
  injection e with e1 e2 e3 e4 e5 _
  subst e1; subst e2; subst e3; subst e4; subst e5
  obtain rfl : nk = 2 := hk.1.symm
  have hcf : ∀ j, min j 2 * 3 ≤ min (j + 1) 2 * 3 := fun j => by omega
  have kids : ∀ j, j < 2 → ∀ v, NodeIn (fun b => b < B) w0 v ((Wood.cons 6 [] 3 3 (leaf 1 [(97, 97)]) (.cons 6 [] 0 (-1) (leaf 1 [(98, 98)]) .nil)).nth j) → TreeC B g w0 v 3 ∧ LenC B w0 v 3 := fun j hj v hv => by
    rcases (show j = 0 ∨ j = 1 by omega) with rfl | rfl
    · exact kid_rep hBw (by decide) (.inl ⟨rfl, rfl⟩) hv
    · exact kid_rep hBw (by decide) (.inr ⟨rfl, rfl⟩) hv
  refine ⟨tree_cat hBw (row_adds hk (by omega) hBw (fun j => min j 2 * 3) hcf rfl (by decide) fun j hj v hv => ?_), len_cat (together_any hk (by omega) (fun j => min j 2 * 3) hcf rfl (by decide) fun j hj v hv => ?_)⟩
  · have := (kids j hj v hv).1
    rwa [show min (j + 1) 2 * 3 - min j 2 * 3 = 3 by omega]
  · have := (kids j hj v hv).2
    rwa [show min (j + 1) 2 * 3 - min j 2 * 3 = 3 by omega]
theorem NodeAl {w : World} {g : Nat} {cs : Array Value} {ty : TypeId} {fr : Nat × Nat} (h : w.heap[g]? = some (.cells cs ty fr)) (o : Obj) : (w.alloc o).heap[g]? = some (.cells cs ty fr) := hp_old h
/-- The writer as it was made. -/
theorem make_done {w w1 w2 : World} {x : NV} (h1 : Below w.heap.size w w1) (hx : w1.heap[w.heap.size]? = some (.cells #[.int .i64 x.op, .slice x.A x.ns x.cs, .int .i64 x.mn, .int .i64 x.mx, .slice x.D x.nk x.ck] 52 (0, 0))) (hown : w2.ownsRow w.heap.size 45 4 (.slice (some ⟨w1.heap.size, 0, none⟩) 0 7) 0 []) (hg : w1.grownBy w2 none) :
    Below w.heap.size w (w2.alloc (.cells #[.slice (some ⟨w1.heap.size, 0, none⟩) 0 7] 77)) ∧ WrS w.heap.size w2.heap.size (w2.alloc (.cells #[.slice (some ⟨w1.heap.size, 0, none⟩) 0 7] 77)) (some ⟨w1.heap.size, 0, none⟩) 0 7 [] ∧
    ((∀ o, (w2.alloc o).cell? ⟨w.heap.size, 0, none⟩ = some (.int .i64 x.op)) ∧ (∀ o, (w2.alloc o).cell? ⟨w.heap.size, 1, none⟩ = some (.slice x.A x.ns x.cs)) ∧ (∀ o, (w2.alloc o).cell? ⟨w.heap.size, 2, none⟩ = some (.int .i64 x.mn)) ∧ (∀ o, (w2.alloc o).cell? ⟨w.heap.size, 3, none⟩ = some (.int .i64 x.mx)) ∧ (∀ o, (w2.alloc o).cell? ⟨w.heap.size, 4, none⟩ = some (.slice x.D x.nk x.ck))) := by
  have hl := row_lt hown (k := w1.heap.size) rfl
  have hx2 : w2.heap[w.heap.size]? = some (.cells #[.int .i64 x.op, .slice x.A x.ns x.cs, .int .i64 x.mn, .int .i64 x.mx, .slice x.D x.nk x.ck] 52 (0, 0)) := (hg.block _ (Array.getElem?_eq_some_iff.1 hx).1 (by simp)).trans hx
  have hb2 : Below w.heap.size w w2 := h1.grown hg h1.size (by intro k hk; cases hk)
  have F := fun o => box_facts (NodeAl hx2 o)
  refine ⟨hb2.alloc hb2.size _, ⟨heap_alloc_new w2 _, hb2.size, ownN_old hown, fun e => ?_, fun x hx => by cases hx⟩, fun o => (F o).1, fun o => (F o).2.1, fun o => (F o).2.2.1, fun o => (F o).2.2.2.1, fun o => (F o).2.2.2.2.1⟩
  have e : some w1.heap.size = some w2.heap.size := e
  injection e with e
  omega
set_option maxHeartbeats 4000000 in
theorem ex_compile {w : World} {x : NV} (h : NodesIn (fun b => b < w.heap.size) w [x] exT) : Calls Try.prog 24 #[.agg #[.int .i64 x.op, .slice x.A x.ns x.cs, .int .i64 x.mn, .int .i64 x.mx, .slice x.D x.nk x.ck]] w fun e w' => ∃ P pc, e = .returned (.tuple #[.slice P 7 pc, .int .i64 0]) ∧ Below w.heap.size w w' := by
  have HL := Lib.hid (show ∀ w1, Below w.heap.size w w1 → w.heap.size ≤ w1.heap.size → Calls Try.prog 36 #[.agg #[.int .i64 x.op, .slice x.A x.ns x.cs, .int .i64 x.mn, .int .i64 x.mx, .slice x.D x.nk x.ck]] w1 fun e w' => e = .returned (.int .i64 6) ∧ Below w1.heap.size w1 w' from (ex_tree (g := 0) (Nat.le_refl _) h).2)
  have HT := Lib.hid (show ∀ g w1 P q pc xs, Below w.heap.size w w1 → WrS w.heap.size g w1 P q pc xs → q + 6 ≤ 20000 → Calls Try.prog 37 #[.pointer (some ⟨g, 0, none⟩), .agg #[.int .i64 x.op, .slice x.A x.ns x.cs, .int .i64 x.mn, .int .i64 x.mx, .slice x.D x.nk x.ck]] w1 (Added w.heap.size g w1 P q pc 6) from fun g => (ex_tree (g := g) (Nat.le_refl _) h).1)
  obtain ⟨i0, hi, hz0, hz1, hz2⟩ := info_parts info_inst
  clear h
  go_enter Try.func24, Try.ntmps24
  go_wp2_with (first
    | (go_at_call 36; (with_reducible refine (HL.out _ ((Below.refl _ _).alloc (Nat.le_refl _) _) (by simp)).mono ?_); rintro e w1 ⟨rfl, hb1⟩; have HX := Lib.hid (show w1.heap[w.heap.size]? = some (.cells #[.int .i64 x.op, .slice x.A x.ns x.cs, .int .i64 x.mn, .int .i64 x.mx, .slice x.D x.nk x.ck] 52 (0, 0)) from (hb1.block _ (by simp)).trans (heap_alloc_new w _)); have H1 := Lib.hid (((Below.refl w.heap.size w).alloc (Nat.le_refl _) (.cells #[.int .i64 x.op, .slice x.A x.ns x.cs, .int .i64 x.mn, .int .i64 x.mx, .slice x.D x.nk x.ck] 52)).trans (hb1.mono (by simp))); clear hb1)
    | (at_make; refine wpList_make_own _ rfl _ _ 23 rfl w.heap.size 45 i0 _ 4 Try.underlying23 hi hz0 hz1 .i64 .i64 7 7 rfl rfl rfl (by rw [hz2]; omega) (by unfold maxLen; omega) H1.out.size ?_; intro w2 hown hgrow; have H2 := Lib.hid (make_done H1.out HX.out hown hgrow); obtain ⟨y0, y1, y2, y3, y4⟩ := H2.out.2.2; clear hown hgrow)
    | (go_at_call 37; (with_reducible refine (HT.out _ _ _ _ _ _ H2.out.1 H2.out.2.1 (by omega)).mono ?_); rintro e w4 ⟨rfl, P', pc', xs', k1, k2, k3⟩; have HS := Lib.hid k1; have HB := Lib.hid (H2.out.1.trans k2.1); have g1 : w4.cell? ⟨w2.heap.size, 0, none⟩ = some (.slice P' (0 + 6) pc') := cell_of_row w4 _ 0 _ _ (0, 0) k1.hg; obtain ⟨P5, pc5, w5, ha, _, _, _, _, _, _, _, hk5⟩ := (HS.out.below ((Below.refl w4.heap.size w4).alloc (Nat.le_refl _) (.cells #[.int .i64 0, .slice none 0 0, .int .i64 0, .int .i64 0] 45))).push (x := ⟨⟨0, [], 0, 0⟩, none, 0, 0⟩) (d := w4.heap.size) (heap_alloc_new w4 _) (rowF_nil _ _) (by omega); have HA := Lib.hid (show (Builtin.append_ #[23, 23] 23 #[.slice P' 6 pc', .slice (some ⟨w4.heap.size, 0, none⟩) 1 1]).run Try.prog (w4.alloc (.cells #[.int .i64 0, .slice none 0 0, .int .i64 0, .int .i64 0] 45)) = .ok (.slice P5 7 pc5) w5 from ha); have HK5 := Lib.hid ((HB.out.alloc HB.out.size (.cells #[.int .i64 0, .slice none 0 0, .int .i64 0, .int .i64 0] 45)).trans hk5); clear k1 k2 k3 ha hk5)
    | (at_builtin; refine wpList_append_run rfl _ _ 23 rfl rfl _ _ _ _ rfl rfl HA.out ?_))
  go_ret2
  exact ⟨P5, pc5, rfl, HK5.out⟩
end Go.Proofs.Ytegcebgoiocakaa
/- The document's number. -/
namespace Go.Proofs.Ytegcebgoiocakaa
open Go Go.RowKit
set_option linter.unusedVariables false
set_option maxRecDepth 20000

def numV (l : List Int) : Int × Int :=
  match numL l with
  | some (a, rest) => (a, (l.length : Int) - (rest.length : Int))
  | none => (0, 0)
theorem isDig_iff (r : Int) : isDig r = true ↔ 48 ≤ r ∧ r ≤ 57 := by unfold isDig; simp
theorem numV_nil : numV [] = (0, 0) := rfl
theorem numV_no {a : Int} {l : List Int} (h : ¬ (48 ≤ a ∧ a ≤ 57)) : numV (a :: l) = (0, 0) := by
  have hd : isDig a = false := by rw [← Bool.not_eq_true, isDig_iff]; exact h
  unfold numV
  rcases l with _ | ⟨b, l⟩ <;> simp [numL, hd]
theorem numV_one {a : Int} (h : 48 ≤ a ∧ a ≤ 57) : numV [a] = (a - 48, 1) := by
  have hd : isDig a = true := (isDig_iff a).2 h
  simp [numV, numL, hd]
theorem numV_oneb {a b : Int} {l : List Int} (h : 48 ≤ a ∧ a ≤ 57) (hb : ¬ (48 ≤ b ∧ b ≤ 57)) : numV (a :: b :: l) = (a - 48, 1) := by
  have hd : isDig a = true := (isDig_iff a).2 h
  have hd2 : isDig b = false := by rw [← Bool.not_eq_true, isDig_iff]; exact hb
  simp [numV, numL, hd, hd2]
  omega
theorem numV_two {a b : Int} {l : List Int} (h : 48 ≤ a ∧ a ≤ 57) (hb : 48 ≤ b ∧ b ≤ 57) : numV (a :: b :: l) = if 10 * (a - 48) + (b - 48) > 50 then (0, 0) else (10 * (a - 48) + (b - 48), 2) := by
  have hd : isDig a = true := (isDig_iff a).2 h
  have hd2 : isDig b = true := (isDig_iff b).2 hb
  by_cases hv : 10 * (a - 48) + (b - 48) > 50
  · simp [numV, numL, hd, hd2, hv]
  · simp [numV, numL, hd, hd2, hv]
    omega

set_option maxHeartbeats 2000000 in
theorem rnum_any (l : List Int) (A : Option Addr) (n c : Nat) (W : World) (hr : RowI .i64 W A n l) (hn : n ≤ 1000) :
    Calls Try.prog 85 #[.slice A n c] W fun e w' => e = .returned (.tuple #[.int .i64 (numV l).1, .int .i64 (numV l).2]) ∧ W = w' := by
  have hl := hr.1
  rcases l with _ | ⟨a, l⟩
  · have h0 : n = 0 := by simpa using hl.symm
    subst h0
    rw [numV_nil]
    clear hr hl
    go_enter Try.func85, Try.ntmps85
    go_wp2
    go_rounds 3
    go_ret2
    exact ⟨rfl, rfl⟩
  · obtain ⟨g, o, rfl, hg, hc⟩ := hr.2 (by rw [List.length_cons] at hl; omega)
    have c0 := hc 0 (by rw [List.length_cons] at hl; omega)
    rw [show (a :: l).getD 0 0 = a from rfl, Nat.add_zero] at c0
    by_cases ha : 48 ≤ a ∧ a ≤ 57
    · obtain ⟨a1, a2⟩ := ha
      rcases l with _ | ⟨b, l⟩
      · have h1 : n = 1 := by simpa using hl.symm
        subst h1
        rw [numV_one ⟨a1, a2⟩]
        clear hr hl hc
        go_enter Try.func85, Try.ntmps85
        go_wp2
        go_rounds 3
        go_ret2
        exact ⟨rfl, rfl⟩
      · have hn2 : 2 ≤ n := by rw [List.length_cons, List.length_cons] at hl; omega
        have c1 := hc 1 (by omega)
        rw [show (a :: b :: l).getD 1 0 = b from rfl] at c1
        have i1 : (1 : Int) < (n : Int) := by omega
        have i0 : (0 : Int) < (n : Int) := by omega
        by_cases hb : 48 ≤ b ∧ b ≤ 57
        · obtain ⟨b1, b2⟩ := hb
          have w1 : IntKind.i64.wrap ((a - 48) * 10) = (a - 48) * 10 := by rw [IntKind.wrap_i64]; omega
          have w2 : IntKind.i64.wrap ((a - 48) * 10 + b) = (a - 48) * 10 + b := by rw [IntKind.wrap_i64]; omega
          have w3 : IntKind.i64.wrap ((a - 48) * 10 + b - 48) = (a - 48) * 10 + b - 48 := by rw [IntKind.wrap_i64]; omega
          rw [numV_two ⟨a1, a2⟩ ⟨b1, b2⟩]
          by_cases hv : 10 * (a - 48) + (b - 48) > 50
          · rw [if_pos hv]
            have v1 : 50 < (a - 48) * 10 + b - 48 := by omega
            clear hr hl hc hv
            go_enter Try.func85, Try.ntmps85
            go_wp2
            go_rounds 3
            go_ret2
            exact ⟨rfl, rfl⟩
          · rw [if_neg hv]
            have v1 : ¬ 50 < (a - 48) * 10 + b - 48 := by omega
            have HV := Lib.hid (show (a - 48) * 10 + b - 48 = 10 * (a - 48) + (b - 48) by omega)
            clear hr hl hc hv
            go_enter Try.func85, Try.ntmps85
            go_wp2
            go_rounds 3
            go_ret2
            exact ⟨by rw [← HV.out]; rfl, rfl⟩
        · rw [numV_oneb ⟨a1, a2⟩ hb]
          clear hr hl hc
          by_cases hb1 : 48 ≤ b
          · have hb2 : ¬ b ≤ 57 := fun h => hb ⟨hb1, h⟩
            clear hb
            go_enter Try.func85, Try.ntmps85
            go_wp2
            go_rounds 3
            go_ret2
            exact ⟨rfl, rfl⟩
          · clear hb
            go_enter Try.func85, Try.ntmps85
            go_wp2
            go_rounds 3
            go_ret2
            exact ⟨rfl, rfl⟩
    · rw [numV_no ha]
      have i0 : (0 : Int) < (n : Int) := by rw [List.length_cons] at hl; omega
      clear hr hl hc
      by_cases ha1 : 48 ≤ a
      · have ha2 : ¬ a ≤ 57 := fun h => ha ⟨ha1, h⟩
        clear ha
        go_enter Try.func85, Try.ntmps85
        go_wp2
        go_rounds 3
        go_ret2
        exact ⟨rfl, rfl⟩
      · clear ha
        go_enter Try.func85, Try.ntmps85
        go_wp2
        go_rounds 3
        go_ret2
        exact ⟨rfl, rfl⟩
end Go.Proofs.Ytegcebgoiocakaa
