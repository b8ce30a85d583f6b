/- The writer's trees: which instructions are put. -/
import Derived.Test.YtegcebgoiocakaaM07
import Derived.Test.YtegcebgoiocakaaM14
import Derived.Test.YtegcebgoiocakaaN01
import Derived.Test.YtegcebgoiocakaaN06
import Derived.OwnWalk
import Derived.ProofKit
import Derived.BigQuiet
namespace Go.Proofs.Ytegcebgoiocakaa
open Go Go.RowKit
set_option linter.unusedVariables false
set_option maxRecDepth 20000

/-- Which instructions stand there. -/
def codes (xs : List IV) : List InstL := xs.map IV.i
theorem codes_app (a b : List IV) : codes (a ++ b) = codes a ++ codes b := by simp [codes]
theorem codes_len (a : List IV) : (codes a).length = a.length := by simp [codes]
/-- What a call of the writer does: these instructions more. -/
def AddedX (B g : Nat) (w : World) (P : Option Addr) (q pc : Nat) (xs : List IV) (ys : List InstL) (e : Ending) (w' : World) : Prop :=
  e = .returned (.tuple #[]) ∧ ∃ P' pc' xs', WrS B g w' P' (q + ys.length) pc' xs' ∧ codes xs' = codes xs ++ ys ∧ Wk B g (.slice P q pc) w w' ∧ Vk w (.slice P q pc) (.slice P' (q + ys.length) pc')
/-- A tree of these instructions (told by the place where they are put), among memory that stays. -/
def TreeX (B g : Nat) (w0 : World) (v : Value) (f : Nat → List InstL) : Prop :=
  ∀ w P q pc xs, Below B w0 w → WrS B g w P q pc xs → q + (f q).length ≤ 20000 → Calls Try.prog 37 #[.pointer (some ⟨g, 0, none⟩), v] w (AddedX B g w P q pc xs (f q))
def RowX (B g : Nat) (w0 : World) (v : Value) (f : Nat → List InstL) : Prop :=
  ∀ w P q pc xs, Below B w0 w → WrS B g w P q pc xs → q + (f q).length ≤ 20000 → Calls Try.prog 66 #[.pointer (some ⟨g, 0, none⟩), v] w (AddedX B g w P q pc xs (f q))
theorem AddedX.behind {B g q pc : Nat} {w w1 w' : World} {P : Option Addr} {xs : List IV} {ys : List InstL} {e : Ending} (hB : B ≤ w.heap.size) (hb : Below w.heap.size w w1) (h : AddedX B g w1 P q pc xs ys e w') : AddedX B g w P q pc xs ys e w' := by
  obtain ⟨he, P', pc', xs', h1, hc, h2, h3⟩ := h
  exact ⟨he, P', pc', xs', h1, hc, (Wk.of_below hB hb).trans (Vk.refl _ _) h2, fun b hb' hn => h3 b (Nat.lt_of_lt_of_le hb' hb.size) hn⟩
/-- Pieces one behind the other, the first j of them. -/
def rowCode (fs : Nat → Nat → List InstL) : Nat → Nat → List InstL
  | 0, _ => []
  | j + 1, q => rowCode fs j q ++ fs j (q + (rowCode fs j q).length)
theorem rowCode_mono (fs : Nat → Nat → List InstL) (q : Nat) {a b : Nat} (h : a ≤ b) : (rowCode fs a q).length ≤ (rowCode fs b q).length := by
  induction h with
  | refl => exact Nat.le_refl _
  | step _ ih => rw [rowCode, List.length_append]; omega
/-- A loop over a piece. -/
def loopCode (f : Nat → List InstL) (q : Nat) : List InstL := ⟨2, [], (q : Int) + 1, (q : Int) + 1 + ((f (q + 1)).length : Int) + 1⟩ :: f (q + 1) ++ [⟨2, [], (q : Int) + 1, (q : Int) + 1 + ((f (q + 1)).length : Int) + 1⟩]
theorem loopCode_len (f : Nat → List InstL) (q : Nat) : (loopCode f q).length = (f (q + 1)).length + 2 := by simp [loopCode]
set_option maxHeartbeats 4000000 in
theorem tree_charX {B g : Nat} {w0 : World} {A D : Option Addr} {ns cs nk ck : Nat} {mn mx : Int} {s : List (Int × Int)} (hr : RowF (fun b => b < B) w0 A ns s) (hn : ns ≤ 2000000) (hBw : B ≤ w0.heap.size) : TreeX B g w0 (.agg #[.int .i64 1, .slice A ns cs, .int .i64 mn, .int .i64 mx, .slice D nk ck]) (fun q => [⟨1, s, (q : Int) + 1, 0⟩]) := by
  intro w P q pc xs hb0 h hq
  have hq : q + 1 ≤ 20000 := hq
  have hBg := h.hB
  have hgl := h.lt
  have HS := Lib.hid h
  have HC := Lib.hid (gclone_any A ns cs s (w.alloc (.cells #[.int .i64 1, .slice A ns cs, .int .i64 mn, .int .i64 mx, .slice D nk ck] 52)) ((hr.keep hb0.size fun b hb _ => hb0.block b hb).below ((Below.refl _ _).alloc (Nat.le_refl _) _)) hn)
  clear h hr
  go_enter Try.func37, Try.ntmps37
  go_wp2_with (first
    | (go_at_call 65; (with_reducible refine HC.out.mono ?_); rintro e w1 ⟨P1, q1, pc1, rfl, ho, hb⟩; have hb1 : Below w.heap.size w w1 := ((Below.refl _ _).alloc (Nat.le_refl _) _).trans (hb.mono (by simp)); have HB1 := Lib.hid hb1; have HPu := Lib.hid (put_any (HS.out.below hb1) 1 0 0 P1 q1 pc1 s ((rowF_own ho).move (Nat.le_refl _) fun b hF hlt => ⟨⟨by have hF : (w.alloc (.cells #[.int .i64 1, .slice A ns cs, .int .i64 mn, .int .i64 mx, .slice D nk ck] 52)).heap.size ≤ b := hF; simp at hF; omega, by have hF : (w.alloc (.cells #[.int .i64 1, .slice A ns cs, .int .i64 mn, .int .i64 mx, .slice D nk ck] 52)).heap.size ≤ b := hF; simp at hF; omega, fun e => by have hF : (w.alloc (.cells #[.int .i64 1, .slice A ns cs, .int .i64 mn, .int .i64 mx, .slice D nk ck] 52)).heap.size ≤ b := hF; simp at hF; have := (row_lt HS.out.row e).2; omega⟩, rfl⟩) (by omega)); clear ho hb hb1)
    | (go_at_call 64; (with_reducible refine HPu.out.mono ?_); rintro e w2 ⟨rfl, P', pc', hR1, hR2, hR3⟩; have HR := Lib.hid (And.intro hR1 (And.intro hR2 hR3)); clear hR1 hR2 hR3))
  go_end0
  exact AddedX.behind (by omega) HB1.out ⟨rfl, P', pc', _, HR.out.1, by rw [codes_app]; rfl, HR.out.2.1, HR.out.2.2⟩
set_option maxHeartbeats 4000000 in
theorem row_addsX {B g : Nat} {w0 : World} {D : Option Addr} {nk ck : Nat} {K : Wood} (hk : KidsAt (fun b => b < B) w0 D nk K) (hnk : nk ≤ 1000) (hBw : B ≤ w0.heap.size) (fs : Nat → Nat → List InstL)
    (HT : ∀ j, j < nk → ∀ v, NodeIn (fun b => b < B) w0 v (K.nth j) → TreeX B g w0 v (fs j)) : RowX B g w0 (.slice D nk ck) (rowCode fs nk) := by
  intro w P q pc xs hb0 h hq
  have HS := Lib.hid h
  have HK := Lib.hid hk
  have HTr := Lib.hid HT
  have HQ := Lib.hid hq
  have HB := Lib.hid (And.intro hb0 hBw)
  clear h hk HT hb0 hBw hq
  go_enter Try.func66, Try.ntmps66
  go_wp2_with fail
  go_loopw [8] (fun vi wr => ∃ (j pc' : Nat) (P' : Option Addr) (xs' : List IV), vi = .int .i64 (j : Int) ∧ j ≤ nk ∧ Hid (WrS B g wr P' (q + (rowCode fs j q).length) pc' xs' ∧ codes xs' = codes xs ++ rowCode fs j q ∧ Wk B g (.slice P q pc) w wr ∧ Vk w (.slice P q pc) (.slice P' (q + (rowCode fs j q).length) pc'))) (fun vi _ => nk - (match vi with | .int _ j => j.toNat | _ => 0))
  case atStart =>
    refine ⟨0, pc, P, xs, rfl, Nat.zero_le _, Lib.hid ?_⟩
    rw [show (rowCode fs 0 q).length = 0 from rfl, Nat.add_zero]
    exact ⟨HS.out, (List.append_nil _).symm, Wk.refl _ _ _ _, Vk.refl _ _⟩
  case round =>
    obtain ⟨j, pc', P', xs', rfl, hj, H⟩ := hrel
    by_cases hlt : j < nk
    · have hbr : Below B w0 wr := HB.out.1.trans H.out.2.2.1.1
      have hkw : KidsAt (fun b => b < B) wr D nk K := HK.out.keep hbr.size fun b hb _ => hbr.block b hb
      obtain ⟨b, o, op, s, mn, mx, k', A', D', ns, cs, nk', ck', rfl, hbl, e, c0, c1, c2, c3, c4, hin⟩ := hkw.kid hlt
      have hin0 : NodeIn (fun b => b < B) w0 (.agg #[.int .i64 op, .slice A' ns cs, .int .i64 mn, .int .i64 mx, .slice D' nk' ck']) (K.nth j) := by
        obtain ⟨b2, o2, op2, s2, mn2, mx2, k2, A2, D2, ns2, cs2, nk2, ck2, hD2, hbl2, e2, d0, d1, d2, d3, d4, hin2⟩ := HK.out.kid hlt
        injection hD2 with hD2
        injection hD2 with e3 e4
        subst e3; subst e4
        have hbB : b < B := by
          obtain ⟨b5, o5, hD5, hF5, _⟩ := HK.out.2 (by omega)
          injection hD5 with hD5
          injection hD5 with e5 _
          subst e5
          exact hF5
        have up : ∀ x, wr.cell? ⟨b, x, none⟩ = w0.cell? ⟨b, x, none⟩ := fun x => hbr.cell (p := ⟨b, x, none⟩) hbB
        rw [up] at c0 c1 c2 c3 c4
        rw [d0] at c0; rw [d1] at c1; rw [d2] at c2; rw [d3] at c3; rw [d4] at c4
        injection c0 with c0; injection c0 with _ c0
        injection c1 with c1; injection c1 with a1 a2 a3
        injection c2 with c2; injection c2 with _ c2
        injection c3 with c3; injection c3 with _ c3
        injection c4 with c4; injection c4 with b1 b2 b3
        subst c0; subst a1; subst a2; subst a3; subst c2; subst c3; subst b1; subst b2; subst b3
        exact hin2
      have hcm := rowCode_mono fs q (show j + 1 ≤ nk by omega)
      have hcl : (rowCode fs (j + 1) q).length = (rowCode fs j q).length + (fs j (q + (rowCode fs j q).length)).length := by rw [rowCode, List.length_append]
      have HC := Lib.hid (HTr.out j hlt _ hin0 (wr.alloc (.cells #[.int .i64 op, .slice A' ns cs, .int .i64 mn, .int .i64 mx, .slice D' nk' ck'] 52)) P' (q + (rowCode fs j q).length) pc' xs' (hbr.alloc (by have := hbr.size; have := HB.out.2; omega) _) (H.out.1.below ((Below.refl _ _).alloc (Nat.le_refl _) _)) (by have := HQ.out; omega))
      have HCM := Lib.hid hcl
      have HBR := Lib.hid hbr
      clear hin hin0 hkw e hbr hcm hcl
      go_wp2_with (go_at_call 37; (with_reducible refine HC.out.mono ?_); rintro e w2 hv; have HV := Lib.hid hv; obtain ⟨rfl, -⟩ := hv)
      obtain ⟨_, P2, pc2, xs2, k1, kc, k2, k3⟩ := AddedX.behind (B := B) (by have := HBR.out.size; have := HB.out.2; omega) ((Below.refl wr.heap.size wr).alloc (Nat.le_refl _) _) HV.out
      have hcl := HCM.out
      rw [Nat.add_assoc, ← hcl] at k1 k3
      exact ⟨⟨j + 1, pc2, P2, xs2, rfl, hlt, Lib.hid ⟨k1, by rw [kc, H.out.2.1, List.append_assoc]; rfl, H.out.2.2.1.trans H.out.2.2.2 k2, H.out.2.2.2.trans H.out.2.2.1.2.1 k3⟩⟩, by show nk - ((j : Int) + 1).toNat < nk - (j : Int).toNat; omega⟩
    · obtain rfl : j = nk := by omega
      go_wp2
      go_end0
      exact ⟨rfl, P', pc', xs', H.out.1, H.out.2.1, H.out.2.2.1, H.out.2.2.2⟩
theorem codes_setIV (f : InstL → InstL) (i : Nat) (zs : List IV) : codes (setIV f i zs) = (codes zs).modify i f := by
  unfold codes setIV
  apply List.ext_getElem?
  intro j
  simp only [List.getElem?_map, List.getElem?_modify, Option.map_eq_map]
  cases zs[j]? with
  | none => rfl
  | some v => simp only [Option.map_some]; split <;> rfl
theorem modify_app (f : InstL → InstL) : ∀ (xs ys : List InstL) (i : Nat), xs.length ≤ i → (xs ++ ys).modify i f = xs ++ ys.modify (i - xs.length) f
  | [], ys, i, _ => rfl
  | x :: xs, ys, 0, h => by simp at h
  | x :: xs, ys, i + 1, h => by
    have := modify_app f xs ys i (by simpa using h)
    rw [List.cons_append, List.modify_succ_cons, this, List.length_cons, Nat.add_sub_add_right, List.cons_append]
theorem setIV_app (f : InstL → InstL) (i : Nat) (xs zs : List IV) (ys : List InstL) (h : codes zs = codes xs ++ ys) (hi : xs.length ≤ i) : codes (setIV f i zs) = codes xs ++ ys.modify (i - xs.length) f := by
  rw [codes_setIV, h, modify_app f _ _ _ (by rw [codes_len]; exact hi), codes_len]
theorem setIV_codes (f : InstL → InstL) (xs : List IV) (ys : List InstL) (zs : List IV) (x : InstL) (h : codes zs = codes xs ++ x :: ys) (i : Nat) (hi : i = xs.length) : codes (setIV f i zs) = codes xs ++ f x :: ys := by
  rw [setIV_app f i xs zs _ h (by omega), hi, Nat.sub_self]
  rfl
set_option maxHeartbeats 8000000 in
theorem loop_anyX {B g q pc : Nat} {w : World} {P : Option Addr} {xs : List IV} {v : Value} (f : Nat → List InstL) (h : WrS B g w P q pc xs) (hq : q + (f (q + 1)).length + 2 ≤ 20000) (HR : RowX B g w v f) :
    Calls Try.prog 92 #[.pointer (some ⟨g, 0, none⟩), v] w (AddedX B g w P q pc xs (loopCode f q)) := by
  obtain ⟨c, hc⟩ : ∃ c, c = (f (q + 1)).length := ⟨_, rfl⟩
  rw [← hc] at hq
  have HR : ∀ w1 P1 pc1 xs1, Below B w w1 → WrS B g w1 P1 (q + 1) pc1 xs1 → Calls Try.prog 66 #[.pointer (some ⟨g, 0, none⟩), v] w1 (fun e w' => e = .returned (.tuple #[]) ∧ ∃ P' pc' xs', WrS B g w' P' (q + 1 + c) pc' xs' ∧ codes xs' = codes xs1 ++ f (q + 1) ∧ Wk B g (.slice P1 (q + 1) pc1) w1 w' ∧ Vk w1 (.slice P1 (q + 1) pc1) (.slice P' (q + 1 + c) pc')) := fun w1 P1 pc1 xs1 hb h1 => by
    have := HR w1 P1 (q + 1) pc1 xs1 hb h1 (by omega)
    unfold AddedX at this
    rwa [← hc] at this
  have hxq := h.len
  have HXQ := Lib.hid (And.intro hxq hc)
  clear hxq hc
  have hgl := h.lt
  have HSp := Lib.hid (split_any h (by omega))
  have HRo := Lib.hid HR
  clear h HR
  go_enter Try.func92, Try.ntmps92
  go_wp2_with (first
    | (go_at_call 90; (with_reducible refine HSp.out.mono ?_); rintro e w1 ⟨bx, ix, rfl, hh, hbx, hix, P1, pc1, k1, k2, k3, k4, k5⟩; have HS1 := Lib.hid k1; have HH := Lib.hid (And.intro hh (And.intro hbx (And.intro hix (And.intro k2 (And.intro k3 (And.intro k4 k5)))))); have HC := Lib.hid (HRo.out w1 P1 pc1 _ k2.1 k1); have g1 : w1.cell? ⟨g, 0, none⟩ = some (.slice P1 (q + 1) pc1) := cell_of_row w1 g 0 _ _ (0, 0) k1.hg; clear hh hbx hix k1 k2 k3 k4 k5)
    | (go_at_call 66; (with_reducible refine HC.out.mono ?_); rintro e w2 ⟨rfl, P2, pc2, xs2, k1, kc, k2, k3⟩; have HS2 := Lib.hid k1; have HCO := Lib.hid kc; have HH2 := Lib.hid (And.intro k2 k3); have g2 : w2.cell? ⟨g, 0, none⟩ = some (.slice P2 (q + 1 + c) pc2) := cell_of_row w2 g 0 _ _ (0, 0) k1.hg; clear k1 kc k2 k3))
  have HPu : Hid (∀ (X : World) (d : Nat), Below w2.heap.size w2 X → X.heap[d]? = some (.cells #[.int .i64 2, .slice none 0 0, .int .i64 ((q : Int) + 1), .int .i64 ((q : Int) + 1 + (c : Int) + 1)] 45 (0, 0)) → ∃ v' w', (Builtin.append_ #[23, 23] 23 #[.slice P2 (q + 1 + c) pc2, .slice (some ⟨d, 0, none⟩) 1 1]).run Try.prog X = .ok v' w' ∧ PutR B g P2 (q + 1 + c) pc2 xs2 ⟨⟨2, [], (q : Int) + 1, (q : Int) + 1 + (c : Int) + 1⟩, none, 0, 0⟩ w2 v' w') := Lib.hid fun X d hX hd => put_ex HS2.out (rowF_nil _ _) hX hd (by omega)
  have hw : IntKind.i64.wrap ((q : Int) + 1 + (c : Int) + 1) = (q : Int) + 1 + (c : Int) + 1 := by rw [IntKind.wrap_i64]; omega
  have g3 : ∀ o, (w2.alloc o).cell? ⟨g, 0, none⟩ = some (.slice P2 (q + 1 + c) pc2) := fun o => cell_of_row _ g 0 _ _ (0, 0) ((Below.heap_alloc w2 o g HS2.out.lt).trans HS2.out.hg)
  clear g1
  go_region_law (first | (refine step_append_ex rfl (.tmp 20) (.tmp 29) 23 rfl rfl _ _ (by rfl) (by rfl) _ (HPu.out _ _ (by first | exact (Below.refl _ _).alloc (Nat.le_refl _) _ | exact ((Below.refl _ _).alloc (Nat.le_refl _) _).drew | exact (Below.refl _ _).drew.alloc (by simp) _) (by first | exact hp_new rfl | exact hp_drew (hp_new rfl) | exact hp_new (by simp) | exact hp_drew (hp_new (by simp)))) ?_; intro v' w' hR; obtain ⟨P3, pc3, rfl, hc1, hc2, hR1, hR2, hR3⟩ := hR))
  all_goals
    have HPR := Lib.hid (And.intro hR1 (And.intro hR2 hR3))
    obtain ⟨w4, hw4⟩ : ∃ w4, w4 = w'.setCell ⟨g, 0, none⟩ (.slice P3 (q + 1 + c + 1) pc3) := ⟨_, rfl⟩
    rw [← hw4] at HPR
    rw [← hw4]
    have hne := HH.out
    have hh2 := hne.1.keep HH2.out.1 (by omega) (by omega) hne.2.2.2.2.2.1 hne.2.2.2.2.2.2
    have n3 := HH2.out.2 bx hne.1.lt.1 hne.2.2.2.2.2.1
    have n4 := HH2.out.2 ix hne.1.lt.2 hne.2.2.2.2.2.2
    have hh4 := hh2.keep HPR.out.2.1 (by omega) (by omega) n3 n4
    have HHe := Lib.hid (here_any HPR.out.1 hh4 (i := q) (by omega) (by omega))
    clear hw4 hR1 hR2 hR3 hc1 hc2 hne hh2 n3 n4 hh4 g2 g3 hw
    go_wp2_with (go_at_call 101; (with_reducible refine HHe.out.mono ?_); rintro e w5 ⟨rfl, k1, k2⟩; have HF := Lib.hid (And.intro k1 k2); clear k1 k2)
    go_end0
    have hcl : (loopCode f q).length = c + 2 := by rw [loopCode_len, ← HXQ.out.2]
    refine ⟨rfl, P3, pc3, _, by rw [hcl, show q + (c + 2) = q + 1 + c + 1 by omega]; exact HF.out.1, ?_, ?_, ?_⟩
    · rw [setIV_codes _ xs (f (q + 1) ++ [⟨2, [], (q : Int) + 1, (q : Int) + 1 + (c : Int) + 1⟩]) _ ⟨2, [], (q : Int) + 1, 0⟩ (by rw [codes_app, HCO.out, codes_app]; simp [codes]) q HXQ.out.1.symm]
      unfold loopCode
      rw [← HXQ.out.2]
      simp only [List.cons_append]
      congr 3
    · exact ((HH.out.2.2.2.1.trans HH.out.2.2.2.2.1 HH2.out.1).trans (HH.out.2.2.2.2.1.trans HH.out.2.2.2.1.2.1 HH2.out.2) HPR.out.2.1).trans ((HH.out.2.2.2.2.1.trans HH.out.2.2.2.1.2.1 HH2.out.2).trans (HH.out.2.2.2.1.trans HH.out.2.2.2.2.1 HH2.out.1).2.1 HPR.out.2.2) HF.out.2
    · rw [hcl, show q + (c + 2) = q + 1 + c + 1 by omega]
      exact (HH.out.2.2.2.2.1.trans HH.out.2.2.2.1.2.1 HH2.out.2).trans (HH.out.2.2.2.1.trans HH.out.2.2.2.2.1 HH2.out.1).2.1 HPR.out.2.2
end Go.Proofs.Ytegcebgoiocakaa
/- The writer's loops, and its trees: which instructions. -/
namespace Go.Proofs.Ytegcebgoiocakaa
open Go Go.RowKit
set_option linter.unusedVariables false
set_option maxRecDepth 20000

theorem rowsame_len {f : Nat → List InstL} {c : Nat} (hf : ∀ q, (f q).length = c) : ∀ {j q : Nat}, (rowCode (fun _ => f) j q).length = j * c
  | 0, q => by simp [rowCode]
  | j + 1, q => by rw [rowCode, List.length_append, rowsame_len hf, hf, Nat.succ_mul]
/-- A piece so many times, and a loop over it. -/
def starCode (f : Nat → List InstL) (mn : Nat) (q : Nat) : List InstL := rowCode (fun _ => f) mn q ++ loopCode f (q + (rowCode (fun _ => f) mn q).length)
set_option maxHeartbeats 8000000 in
theorem often_starX {B g q pc c : Nat} {w : World} {P : Option Addr} {xs : List IV} (h : WrS B g w P q pc xs) {A D : Option Addr} {ns cs nk ck : Nat} {op : Int} (mn : Nat) (hmn : mn ≤ 1000) (f : Nat → List InstL) (hf : ∀ q, (f q).length = c) (hc : 1 ≤ c) (hq : q + (mn * c + (c + 2)) ≤ 20000) (HR : RowX B g w (.slice D nk ck) f) :
    Calls Try.prog 68 #[.pointer (some ⟨g, 0, none⟩), .agg #[.int .i64 op, .slice A ns cs, .int .i64 (mn : Int), .int .i64 (-1), .slice D nk ck]] w (AddedX B g w P q pc xs (starCode f mn q)) := by
  obtain ⟨mx, hmx⟩ : ∃ mx : Int, mx = -1 := ⟨_, rfl⟩
  rw [← hmx]
  have hgl := h.lt
  have hBw : B ≤ w.heap.size := by have := h.hB; omega
  have HCo := Lib.hid fun w' => counts_exact (A := A) (D := D) (ns := ns) (cs := cs) (nk := nk) (ck := ck) (op := op) (mx := mx) mn hmn (by omega) (by omega) w'
  have HRo := Lib.hid HR
  have HS := Lib.hid h
  have HB := Lib.hid hBw
  have HX := Lib.hid hmx
  have HFl := Lib.hid hf
  have HQ := Lib.hid (And.intro hq hc)
  clear h HR hq hBw hf hmx
  go_enter Try.func68, Try.ntmps68
  go_wp2_with (go_at_call 62; (with_reducible refine (HCo.out _).mono ?_); rintro e w1 ⟨rfl, hb⟩; have HB1 := Lib.hid (((Below.refl w.heap.size w).alloc (Nat.le_refl _) (.cells #[.int .i64 op, .slice A ns cs, .int .i64 (mn : Int), .int .i64 mx, .slice D nk ck] 52)).trans (hb.mono (by simp))); have HBx := Lib.hid (show w1.heap[w.heap.size]? = some (.cells #[.int .i64 op, .slice A ns cs, .int .i64 (mn : Int), .int .i64 mx, .slice D nk ck] 52 (0, 0)) from (hb.block _ (by simp)).trans (heap_alloc_new w _)); clear hb)
  go_loopw [6, 16] (fun vb vi wr => ∃ (j pc' : Nat) (P' : Option Addr) (xs' : List IV), vi = .int .i64 (j : Int) ∧ j ≤ mn ∧ Hid (codes xs' = codes xs ++ rowCode (fun _ => f) j q ∧ WrS B g wr P' (q + j * c) pc' xs' ∧ Wk B g (.slice P q pc) w wr ∧ Vk w (.slice P q pc) (.slice P' (q + j * c) pc') ∧ wr.heap[w.heap.size]? = some (.cells #[.int .i64 op, .slice A ns cs, .int .i64 (mn : Int), .int .i64 mx, .slice D nk ck] 52 (0, 0)) ∧ (Value.slice P' (q + j * c) pc').ownBlock ≠ some w.heap.size)) (fun _ vi _ => mn - (match vi with | .int _ j => j.toNat | _ => 0))
  case atStart =>
    refine ⟨0, pc, P, xs, rfl, Nat.zero_le _, Lib.hid ?_⟩
    rw [Nat.zero_mul, Nat.add_zero]
    exact ⟨(List.append_nil _).symm, HS.out.below HB1.out, Wk.of_below HB.out HB1.out, Vk.refl _ _, HBx.out, fun e => by have := (row_lt HS.out.row e).2; omega⟩
  case round =>
    obtain ⟨j, pc', P', xs', rfl, hj, H0⟩ := hrel
    have H := Lib.hid H0.out.2
    have HK := Lib.hid H0.out.1
    clear H0
    obtain ⟨y0, y1, y2, y3, y4, yf⟩ := box_facts H.out.2.2.2.1
    have g1 : wr.cell? ⟨g, 0, none⟩ = some (.slice P' (q + j * c) pc') := cell_of_row wr g 0 _ _ (0, 0) H.out.1.hg
    by_cases hlt : j < mn
    · have hjc : j * c + c ≤ mn * c := by have := Nat.mul_le_mul_right c hlt; rw [Nat.succ_mul] at this; exact this
      have HJ := Lib.hid hjc
      obtain ⟨z, hz⟩ : ∃ z, z = q + j * c := ⟨_, rfl⟩
      rw [← hz] at g1
      have HZ := Lib.hid hz
      have HC := Lib.hid (show Calls Try.prog 66 #[.pointer (some ⟨g, 0, none⟩), .slice D nk ck] wr (fun e w' => e = .returned (.tuple #[]) ∧ ∃ P2 pc2 xs2, WrS B g w' P2 (z + c) pc2 xs2 ∧ codes xs2 = codes xs' ++ f z ∧ Wk B g (.slice P' z pc') wr w' ∧ Vk wr (.slice P' z pc') (.slice P2 (z + c) pc2)) from by
        have hq := HQ.out.1
        rw [hz]
        have := HRo.out wr P' (q + j * c) pc' xs' H.out.2.1.1 H.out.1 (by rw [HFl.out]; omega)
        unfold AddedX at this
        rwa [HFl.out] at this)
      have n1 : (((z + c : Nat) : Int) == (z : Int)) = false := by simp; omega
      have n2 : ((z : Int) + (c : Int) == (z : Int)) = false := by simp; omega
      have h00 : (j : Int) < (mn : Int) := by omega
      clear hz hjc y0 y1 y2 y3 yf
      go_wp2_with (go_at_call 66; (with_reducible refine HC.out.mono ?_); rintro e w2 ⟨rfl, P2, pc2, xs2, k1, kc, k2, k3⟩; have HV := Lib.hid (And.intro k1 (And.intro k2 k3)); have HKC := Lib.hid kc; have g2 : w2.cell? ⟨g, 0, none⟩ = some (.slice P2 (z + c) pc2) := cell_of_row w2 g 0 _ _ (0, 0) k1.hg; clear k1 kc k2 k3)
      have hz := HZ.out
      have hzq : q + (j + 1) * c = z + c := by rw [hz, Nat.succ_mul]; omega
      have hbl : w.heap.size < wr.heap.size := (Array.getElem?_eq_some_iff.1 H.out.2.2.2.1).1
      have hH := H.out
      rw [← hz] at hH
      refine ⟨⟨j + 1, pc2, P2, xs2, rfl, hlt, Lib.hid ?_⟩, by show mn - ((j : Int) + 1).toNat < mn - (j : Int).toNat; omega⟩
      rw [hzq]
      exact ⟨by rw [HKC.out, HK.out, List.append_assoc, rowCode, rowsame_len HFl.out, ← hz], HV.out.1, hH.2.1.trans hH.2.2.1 HV.out.2.1, hH.2.2.1.trans hH.2.1.2.1 HV.out.2.2, (HV.out.2.1.2.2 _ hbl (by omega) hH.2.2.2.2).trans hH.2.2.2.1, HV.out.2.2 _ hbl hH.2.2.2.2⟩
    · obtain rfl : j = mn := by omega
      obtain rfl := HX.out
      have HLo := Lib.hid (loop_anyX (v := .slice D nk ck) f H.out.1 (by rw [HFl.out]; have := HQ.out.1; omega) fun w1 P1 q1 pc1 xs1 hb1 h1 => HRo.out w1 P1 q1 pc1 xs1 (H.out.2.1.1.trans hb1) h1)
      clear HX HCo
      go_wp2_with (go_at_call 92; (with_reducible refine HLo.out.mono ?_); rintro e w2 ⟨rfl, P2, pc2, xs2, k1, kc, k2, k3⟩; have HV := Lib.hid (And.intro k1 (And.intro k2 (And.intro k3 kc))); clear k1 k2 k3 kc)
      first | go_end0 | go_ret | (refine bodyPost_ret (results_none rfl _ _ _) rfl ?_)
      have hl : (starCode f j q).length = j * c + (loopCode f (q + j * c)).length := by rw [starCode, List.length_append, rowsame_len HFl.out]
      exact ⟨rfl, P2, pc2, xs2, by rw [hl, ← Nat.add_assoc]; exact HV.out.1, by rw [HV.out.2.2.2, HK.out, List.append_assoc, starCode, rowsame_len HFl.out], H.out.2.1.trans H.out.2.2.1 HV.out.2.1, by rw [hl, ← Nat.add_assoc]; exact H.out.2.2.1.trans H.out.2.1.2.1 HV.out.2.2.1⟩
set_option maxHeartbeats 4000000 in
theorem tree_catX {B g : Nat} {w0 : World} {A D : Option Addr} {ns cs nk ck : Nat} {mn mx : Int} (hBw : B ≤ w0.heap.size)
    {f : Nat → List InstL} (HR : RowX B g w0 (.slice D nk ck) f) : TreeX B g w0 (.agg #[.int .i64 4, .slice A ns cs, .int .i64 mn, .int .i64 mx, .slice D nk ck]) f := by
  intro w P q pc xs hb0 h hq
  have hgl := h.lt
  have hB : B ≤ w.heap.size := by have := h.hB; omega
  have HC := Lib.hid (HR (w.alloc (.cells #[.int .i64 4, .slice A ns cs, .int .i64 mn, .int .i64 mx, .slice D nk ck] 52)) P q pc xs (hb0.alloc (by have := hb0.size; omega) _) (h.below ((Below.refl _ _).alloc (Nat.le_refl _) _)) hq)
  have HB := Lib.hid hB
  clear h HR hB
  go_enter Try.func37, Try.ntmps37
  go_wp2_with (go_at_call 66; (with_reducible refine HC.out.mono ?_); rintro e w2 hv; have HV := Lib.hid hv; obtain ⟨rfl, -⟩ := hv)
  go_end0
  exact AddedX.behind HB.out ((Below.refl _ _).alloc (Nat.le_refl _) _) HV.out
set_option maxHeartbeats 4000000 in
theorem tree_repX {B g : Nat} {w0 : World} {A D : Option Addr} {ns cs nk ck : Nat} {mn mx : Int} (hBw : B ≤ w0.heap.size)
    {f : Nat → List InstL} (HR : ∀ w P q pc xs, Below B w0 w → WrS B g w P q pc xs → q + (f q).length ≤ 20000 → Calls Try.prog 68 #[.pointer (some ⟨g, 0, none⟩), .agg #[.int .i64 6, .slice A ns cs, .int .i64 mn, .int .i64 mx, .slice D nk ck]] w (AddedX B g w P q pc xs (f q))) : TreeX B g w0 (.agg #[.int .i64 6, .slice A ns cs, .int .i64 mn, .int .i64 mx, .slice D nk ck]) f := by
  intro w P q pc xs hb0 h hq
  have hgl := h.lt
  have hB : B ≤ w.heap.size := by have := h.hB; omega
  have HC := Lib.hid (HR (w.alloc (.cells #[.int .i64 6, .slice A ns cs, .int .i64 mn, .int .i64 mx, .slice D nk ck] 52)) P q pc xs (hb0.alloc (by have := hb0.size; omega) _) (h.below ((Below.refl _ _).alloc (Nat.le_refl _) _)) hq)
  have HB := Lib.hid hB
  clear h HR hB
  go_enter Try.func37, Try.ntmps37
  go_wp2_with (go_at_call 68; (with_reducible refine HC.out.mono ?_); rintro e w2 hv; have HV := Lib.hid hv; obtain ⟨rfl, -⟩ := hv)
  go_end0
  exact AddedX.behind HB.out ((Below.refl _ _).alloc (Nat.le_refl _) _) HV.out
end Go.Proofs.Ytegcebgoiocakaa
/- Programs of trees: Compile. -/
namespace Go.Proofs.Ytegcebgoiocakaa
open Go Go.RowKit
set_option linter.unusedVariables false
set_option maxRecDepth 20000

theorem WrS.insF {B g q pc : Nat} {w : World} {P : Option Addr} {xs : List IV} (h : WrS B g w P q pc xs) (hs : ∀ v ∈ codes xs, v.set.length ≤ 2000000) : InsF (fun b => B ≤ b ∧ b ≠ g) w P q xs := by
  refine ⟨h.len, fun hn => ?_, fun v hv => ⟨(h.sets v hv).move (Nat.le_refl _) fun b hF _ => ⟨⟨hF.1, hF.2.1⟩, rfl⟩, ?_⟩⟩
  · obtain ⟨b, x, hP, hB, hlt, hne, _⟩ := h.at hn
    refine ⟨b, 0, hP, ⟨hB, hne⟩, hlt, fun j v hv k u hu => ?_⟩
    have hj : j < q := by have := (List.getElem?_eq_some_iff.1 hv).1; rw [h.len] at this; exact this
    obtain ⟨b', x', hP', _, _, _, hx', hc, _⟩ := h.at hj
    rw [hP] at hP'
    injection hP' with e
    injection e with e _
    subst e
    rw [hv] at hx'
    injection hx' with e
    subst e
    rw [Nat.zero_add]
    exact hc k u hu
  · have := (h.sets v hv).1.1
    have := hs v.i (List.mem_map_of_mem hv)
    omega
/-- The writer as it was made. -/
theorem make_doneX {k : Nat} {w w1 w2 : World} {x : NV} (h1 : Below w.heap.size w w1) (hx : w1.heap[w.heap.size]? = some (.cells #[.int .i64 x.op, .slice x.A x.ns x.cs, .int .i64 x.mn, .int .i64 x.mx, .slice x.D x.nk x.ck] 52 (0, 0))) (hown : w2.ownsRow w.heap.size 45 4 (.slice (some ⟨w1.heap.size, 0, none⟩) 0 k) 0 []) (hg : w1.grownBy w2 none) :
    Below w.heap.size w (w2.alloc (.cells #[.slice (some ⟨w1.heap.size, 0, none⟩) 0 k] 77)) ∧ WrS w.heap.size w2.heap.size (w2.alloc (.cells #[.slice (some ⟨w1.heap.size, 0, none⟩) 0 k] 77)) (some ⟨w1.heap.size, 0, none⟩) 0 k [] ∧
    ((∀ o, (w2.alloc o).cell? ⟨w.heap.size, 0, none⟩ = some (.int .i64 x.op)) ∧ (∀ o, (w2.alloc o).cell? ⟨w.heap.size, 1, none⟩ = some (.slice x.A x.ns x.cs)) ∧ (∀ o, (w2.alloc o).cell? ⟨w.heap.size, 2, none⟩ = some (.int .i64 x.mn)) ∧ (∀ o, (w2.alloc o).cell? ⟨w.heap.size, 3, none⟩ = some (.int .i64 x.mx)) ∧ (∀ o, (w2.alloc o).cell? ⟨w.heap.size, 4, none⟩ = some (.slice x.D x.nk x.ck))) := by
  have hl := row_lt hown (k := w1.heap.size) rfl
  have hx2 : w2.heap[w.heap.size]? = some (.cells #[.int .i64 x.op, .slice x.A x.ns x.cs, .int .i64 x.mn, .int .i64 x.mx, .slice x.D x.nk x.ck] 52 (0, 0)) := (hg.block _ (Array.getElem?_eq_some_iff.1 hx).1 (by simp)).trans hx
  have hb2 : Below w.heap.size w w2 := h1.grown hg h1.size (by intro k hk; cases hk)
  have F := fun o => box_facts (NodeAl hx2 o)
  refine ⟨hb2.alloc hb2.size _, ⟨heap_alloc_new w2 _, hb2.size, ownN_old hown, fun e => ?_, fun x hx => by cases hx⟩, fun o => (F o).1, fun o => (F o).2.1, fun o => (F o).2.2.1, fun o => (F o).2.2.2.1, fun o => (F o).2.2.2.2.1⟩
  have e : some w1.heap.size = some w2.heap.size := e
  injection e with e
  omega
set_option maxHeartbeats 4000000 in
theorem compile_X {w : World} {x : NV} {c : Nat} {f : Nat → List InstL} (hcl : (f 0).length = c) (hc : c ≤ 1000) (hset : ∀ v ∈ f 0, v.set.length ≤ 2000000) (hL : LenC w.heap.size w x.val c) (hT : ∀ g, TreeX w.heap.size g w x.val f) : Calls Try.prog 24 #[.agg #[.int .i64 x.op, .slice x.A x.ns x.cs, .int .i64 x.mn, .int .i64 x.mx, .slice x.D x.nk x.ck]] w fun e w' => ∃ P pc l, e = .returned (.tuple #[.slice P (c + 1) pc, .int .i64 0]) ∧ InsF (fun b => w.heap.size ≤ b) w' P (c + 1) l ∧ codes l = f 0 ++ [⟨0, [], 0, 0⟩] ∧ Below w.heap.size w w' := by
  have HL := Lib.hid (show ∀ w1, Below w.heap.size w w1 → w.heap.size ≤ w1.heap.size → Calls Try.prog 36 #[.agg #[.int .i64 x.op, .slice x.A x.ns x.cs, .int .i64 x.mn, .int .i64 x.mx, .slice x.D x.nk x.ck]] w1 fun e w' => e = .returned (.int .i64 (c : Int)) ∧ Below w1.heap.size w1 w' from hL)
  have HT := Lib.hid (show ∀ g w1 P pc xs, Below w.heap.size w w1 → WrS w.heap.size g w1 P 0 pc xs → Calls Try.prog 37 #[.pointer (some ⟨g, 0, none⟩), .agg #[.int .i64 x.op, .slice x.A x.ns x.cs, .int .i64 x.mn, .int .i64 x.mx, .slice x.D x.nk x.ck]] w1 (fun e w' => e = .returned (.tuple #[]) ∧ ∃ P' pc' xs', WrS w.heap.size g w' P' c pc' xs' ∧ codes xs' = codes xs ++ f 0 ∧ Wk w.heap.size g (.slice P 0 pc) w1 w' ∧ Vk w1 (.slice P 0 pc) (.slice P' c pc')) from fun g w1 P pc xs hb h => by
    have := hT g w1 P 0 pc xs hb h (by omega)
    unfold AddedX at this
    rwa [hcl, Nat.zero_add] at this)
  have HF := Lib.hid (And.intro hcl hset)
  obtain ⟨i0, hi, hz0, hz1, hz2⟩ := info_parts info_inst
  have hc0 : ¬ (c : Int) ≥ 2000 := by omega
  have hcw : IntKind.i64.wrap ((c : Int) + 1) = (c : Int) + 1 := by rw [IntKind.wrap_i64]; omega
  clear hL hT hcl hset
  go_enter Try.func24, Try.ntmps24
  go_wp2_with (first
    | (go_at_call 36; (with_reducible refine (HL.out _ ((Below.refl _ _).alloc (Nat.le_refl _) _) (by simp)).mono ?_); rintro e w1 ⟨rfl, hb1⟩; have HX := Lib.hid (show w1.heap[w.heap.size]? = some (.cells #[.int .i64 x.op, .slice x.A x.ns x.cs, .int .i64 x.mn, .int .i64 x.mx, .slice x.D x.nk x.ck] 52 (0, 0)) from (hb1.block _ (by simp)).trans (heap_alloc_new w _)); have H1 := Lib.hid (((Below.refl w.heap.size w).alloc (Nat.le_refl _) (.cells #[.int .i64 x.op, .slice x.A x.ns x.cs, .int .i64 x.mn, .int .i64 x.mx, .slice x.D x.nk x.ck] 52)).trans (hb1.mono (by simp))); clear hb1)
    | (at_make; refine wpList_make_own _ rfl _ _ 23 rfl w.heap.size 45 i0 _ 4 Try.underlying23 hi hz0 hz1 .i64 .i64 (c + 1) (c + 1) rfl rfl rfl (by rw [hz2]; omega) (by unfold maxLen; omega) H1.out.size ?_; intro w2 hown hgrow; have H2 := Lib.hid (make_doneX H1.out HX.out hown hgrow); obtain ⟨y0, y1, y2, y3, y4⟩ := H2.out.2.2; clear hown hgrow)
    | (go_at_call 37; (with_reducible refine (HT.out _ _ _ _ _ H2.out.1 H2.out.2.1).mono ?_); rintro e w4 ⟨rfl, P', pc', xs', k1, kc, k2, k3⟩; have HS := Lib.hid k1; have HB := Lib.hid (H2.out.1.trans k2.1); have g1 : w4.cell? ⟨w2.heap.size, 0, none⟩ = some (.slice P' c pc') := cell_of_row w4 _ 0 _ _ (0, 0) k1.hg; obtain ⟨P5, pc5, w5, ha, _, _, _, _, hwr5, _, _, hk5⟩ := (HS.out.below ((Below.refl w4.heap.size w4).alloc (Nat.le_refl _) (.cells #[.int .i64 0, .slice none 0 0, .int .i64 0, .int .i64 0] 45))).push (x := ⟨⟨0, [], 0, 0⟩, none, 0, 0⟩) (d := w4.heap.size) (heap_alloc_new w4 _) (rowF_nil _ _) (by omega); have HA := Lib.hid (show (Builtin.append_ #[23, 23] 23 #[.slice P' c pc', .slice (some ⟨w4.heap.size, 0, none⟩) 1 1]).run Try.prog (w4.alloc (.cells #[.int .i64 0, .slice none 0 0, .int .i64 0, .int .i64 0] 45)) = .ok (.slice P5 (c + 1) pc5) w5 from ha); have HK5 := Lib.hid ((HB.out.alloc HB.out.size (.cells #[.int .i64 0, .slice none 0 0, .int .i64 0, .int .i64 0] 45)).trans hk5); have HI5 := Lib.hid (And.intro hwr5 kc); clear k1 kc k2 k3 ha hk5 hwr5)
    | (at_builtin; refine wpList_append_run rfl _ _ 23 rfl rfl _ _ _ _ rfl rfl HA.out ?_))
  go_ret2
  have hcod : codes (xs' ++ [⟨⟨0, [], 0, 0⟩, none, 0, 0⟩]) = f 0 ++ [⟨0, [], 0, 0⟩] := by rw [codes_app, HI5.out.2]; rfl
  refine ⟨P5, pc5, _, rfl, ?_, hcod, HK5.out⟩
  have := (HI5.out.1.insF (fun v hv => by
    rw [hcod] at hv
    rcases List.mem_append.1 hv with hv | hv
    · exact HF.out.2 v hv
    · rw [List.mem_singleton] at hv; subst hv; decide)).keep (w' := w5) (by simp) fun b hF _ => (Below.heap_setCell _ _ _ _ hF.2).symm
  exact this.mono fun b hF _ => hF.1
/-- The tree of a letter any number of times. -/
def starT : Wood := .cons 6 [] 0 (-1) (leaf 1 [(97, 97)]) .nil
def charF (s : List (Int × Int)) (q : Nat) : List InstL := [⟨1, s, (q : Int) + 1, 0⟩]
theorem kid_charX {B g : Nat} {w0 : World} (hBw : B ≤ w0.heap.size) {s : List (Int × Int)} (hs : s.length ≤ 1000) {v : Value} (h : NodeIn (fun b => b < B) w0 v (leaf 1 s)) : TreeX B g w0 v (charF s) := by
  obtain ⟨op, s', mn, mx, k, A, D, ns, cs, nk, ck, e, rfl, hr, hk⟩ := h
  injection e with e1 e2 e3 e4 e5 _
  subst e1; subst e2
  exact tree_charX hr.1 (by have := hr.1.1.1; omega) hBw
theorem star_tree {B g : Nat} {w0 : World} (hBw : B ≤ w0.heap.size) {x : NV} (h : NodesIn (fun b => b < B) w0 [x] starT) : TreeX B g w0 x.val (starCode (rowCode (fun _ => charF [(97, 97)]) 1) 0) ∧ LenC B w0 x.val 3 := by
  obtain ⟨op, s', mn', mx', k, A, D, ns, cs, nk, ck, e, hx, hr, hk⟩ := h.one
  rw [hx]
  unfold starT at e
  injection e with e1 e2 e3 e4 e5 _
  subst e1; subst e2; subst e3; subst e4; subst e5
  have hnk : nk = 1 := hk.1.symm
  subst hnk
  have hrow : RowX B g w0 (.slice D 1 ck) (rowCode (fun _ => charF [(97, 97)]) 1) := row_addsX hk (by omega) hBw (fun _ => charF [(97, 97)]) fun j hj v hv => by
    obtain rfl : j = 0 := by omega
    exact kid_charX hBw (by decide) hv
  have hfl : ∀ q, (rowCode (fun _ => charF [(97, 97)]) 1 q).length = 1 := fun q => rfl
  refine ⟨tree_repX hBw fun w P q pc xs hb h hq => ?_, len_star (kid_row (g := g) hBw (by decide) (ck := ck) hk).2⟩
  exact often_starX h (op := 6) (c := 1) 0 (by omega) _ hfl (by omega) (by simp [starCode, rowCode, loopCode, charF] at hq; omega) fun w1 P1 q1 pc1 xs1 hb1 h1 hq1 => hrow w1 P1 q1 pc1 xs1 (hb.trans hb1) h1 hq1
/-- Its program. -/
def starP : List InstL := [⟨2, [], 1, 3⟩, ⟨1, [(97, 97)], 2, 0⟩, ⟨2, [], 1, 3⟩, ⟨0, [], 0, 0⟩]
theorem star_compile {w : World} {x : NV} (h : NodesIn (fun b => b < w.heap.size) w [x] starT) : Calls Try.prog 24 #[.agg #[.int .i64 x.op, .slice x.A x.ns x.cs, .int .i64 x.mn, .int .i64 x.mx, .slice x.D x.nk x.ck]] w fun e w' => ∃ P pc l, e = .returned (.tuple #[.slice P 4 pc, .int .i64 0]) ∧ InsF (fun b => w.heap.size ≤ b) w' P 4 l ∧ codes l = starP ∧ Below w.heap.size w w' := by
  have ht := fun g => (star_tree (g := g) (Nat.le_refl _) h).1
  exact compile_X (c := 3) (f := starCode (rowCode (fun _ => charF [(97, 97)]) 1) 0) rfl (by omega) (by decide) (star_tree (g := 0) (Nat.le_refl _) h).2 ht
end Go.Proofs.Ytegcebgoiocakaa
/- What a small program's matches are, by looking. -/
namespace Go.Proofs.Ytegcebgoiocakaa
open Go Go.RowKit
set_option linter.unusedVariables false
set_option maxRecDepth 20000

/-- What is reached by so many rounds. -/
def reachN (p : List InstL) (rs : List Int) : Nat → List (Nat × Nat) → List (Nat × Nat)
  | 0, S => S
  | n + 1, S => reachN p rs n (S ++ (S.flatMap fun x => succL p rs x.1 x.2).filter fun y => !S.contains y)
theorem rch_succ {p : List InstL} {rs : List Int} {a i k j k' : Nat} (h : Rch p rs 0 a i k) (hs : (j, k') ∈ succL p rs i k) : Rch p rs 0 a j k' := by
  rcases mem_succL.1 hs with ⟨h1, rfl⟩ | ⟨r, h1, h2, rfl⟩
  · exact .eps h h1
  · exact .chr h h1 h2
theorem reachN_sound {p : List InstL} {rs : List Int} {a : Nat} : ∀ (n : Nat) (S : List (Nat × Nat)), (∀ x ∈ S, Rch p rs 0 a x.1 x.2) → ∀ x ∈ reachN p rs n S, Rch p rs 0 a x.1 x.2
  | 0, S, h, x, hx => h x hx
  | n + 1, S, h, x, hx => by
    refine reachN_sound n _ (fun y hy => ?_) x hx
    rcases List.mem_append.1 hy with hy | hy
    · exact h y hy
    · obtain ⟨z, hz, hyz⟩ := List.mem_flatMap.1 (List.mem_filter.1 hy).1
      exact rch_succ (h z hz) hyz
theorem closed_all {p : List InstL} {rs : List Int} {a : Nat} {S : List (Nat × Nat)} (h0 : (0, a) ∈ S) (hc : ∀ x ∈ S, ∀ y ∈ succL p rs x.1 x.2, y ∈ S) {j b : Nat} (h : Rch p rs 0 a j b) : (j, b) ∈ S := by
  induction h with
  | refl => exact h0
  | eps _ e ih => exact hc _ ih _ (mem_succL.2 (.inl ⟨e, rfl⟩))
  | chr _ hr e ih => exact hc _ ih _ (mem_succL.2 (.inr ⟨_, hr, e, rfl⟩))
def endsB (p : List InstL) (i : Nat) : Bool := match p[i]? with | some v => v.op == 0 | none => false
theorem endsB_iff {p : List InstL} {i : Nat} : endsB p i = true ↔ IsEnd p i := by
  unfold endsB IsEnd
  cases h : p[i]? with
  | none => simp
  | some v => simp
def longB (p : List InstL) (rs : List Int) (n a : Nat) (o : Option Nat) : Bool :=
  let S := reachN p rs n [(0, a)]
  S.all (fun x => (succL p rs x.1 x.2).all fun y => S.contains y) && S.contains (0, a) && match o with
    | none => S.all fun x => !endsB p x.1
    | some e => (S.any fun x => endsB p x.1 && x.2 == e) && S.all fun x => !endsB p x.1 || decide (x.2 ≤ e)
theorem longB_long {p : List InstL} {rs : List Int} {n a : Nat} {o : Option Nat} (h : longB p rs n a o = true) : Long p rs a o := by
  unfold longB at h
  simp only [Bool.and_eq_true] at h
  obtain ⟨⟨hc, h0⟩, ho⟩ := h
  have h0 : (0, a) ∈ reachN p rs n [(0, a)] := by simpa using h0
  have hcl : ∀ {j b}, Rch p rs 0 a j b → (j, b) ∈ reachN p rs n [(0, a)] := closed_all h0 fun x hx y hy => by
    have := List.all_eq_true.1 (List.all_eq_true.1 hc x hx) y hy
    simpa using this
  have hsd := reachN_sound (p := p) (rs := rs) (a := a) n [(0, a)] fun x hx => by
    rw [List.mem_singleton] at hx; subst hx; exact .refl
  cases o with
  | none =>
    rintro b ⟨i, hi, he⟩
    have := List.all_eq_true.1 ho _ (hcl hi)
    rw [endsB_iff.2 he] at this
    cases this
  | some e =>
    simp only [Bool.and_eq_true] at ho
    obtain ⟨⟨i, k⟩, hx, hk⟩ := List.any_eq_true.1 ho.1
    simp only [Bool.and_eq_true, beq_iff_eq] at hk
    obtain ⟨hk, rfl⟩ := hk
    refine ⟨⟨i, hsd _ hx, endsB_iff.1 hk⟩, ?_⟩
    rintro b ⟨i', hi, he⟩
    have := List.all_eq_true.1 ho.2 _ (hcl hi)
    rw [endsB_iff.2 he] at this
    simpa using this
/-- The example's matches. -/
theorem star_all : AllR starP [98, 97, 97, 99] 0 none [(0, 0), (1, 3), (4, 4)] := by
  have l0 : Long starP [98, 97, 97, 99] 0 (some 0) := longB_long (n := 20) (by kernel_rfl)
  have l1 : Long starP [98, 97, 97, 99] 1 (some 3) := longB_long (n := 20) (by kernel_rfl)
  have l3 : Long starP [98, 97, 97, 99] 3 (some 3) := longB_long (n := 20) (by kernel_rfl)
  have l4 : Long starP [98, 97, 97, 99] 4 (some 4) := longB_long (n := 20) (by kernel_rfl)
  exact .take (by decide) l0 (by decide) (.skip (by decide) (.inr ⟨l0, rfl⟩) (.take (by decide) l1 (by decide) (.skip (by decide) (.inr ⟨l3, rfl⟩) (.take (by decide) l4 (by decide) (.skip (by decide) (.inr ⟨l4, rfl⟩) (.stop (by decide)))))))
end Go.Proofs.Ytegcebgoiocakaa
/- The document's Length of trees. -/
namespace Go.Proofs.Ytegcebgoiocakaa
open Go Go.RowKit
set_option linter.unusedVariables false
set_option maxRecDepth 20000

def bigL : Int := 1099511627776
/-- A node's length, by its kids' together. -/
def opLen (op mn mx n S : Int) : Int :=
  if op = 0 then 0 else if op = 1 ∨ op = 2 ∨ op = 3 then 1 else min (if op = 5 then S + (2 * n - 2) else if op = 6 then mn * S + (if mx < 0 then S + 2 else (mx - mn) * (S + 1)) else S) bigL
/-- Of a row of nodes, together. -/
def rowLen : Wood → Int
  | .nil => 0
  | .cons op _ mn mx k x => opLen op mn mx (k.len : Int) (rowLen k) + rowLen x
/-- Trees whose lengths can be told. -/
def LenOk : Wood → Prop
  | .nil => True
  | .cons op _ mn mx k x => k.len ≤ 1000 ∧ (op = 5 → 1 ≤ k.len) ∧ (op = 6 → 0 ≤ mn ∧ mn ≤ 1000 ∧ (mx = -1 ∨ mn ≤ mx ∧ mx ≤ 1000)) ∧ LenOk k ∧ LenOk x
theorem opLen_le (op mn mx n S : Int) : opLen op mn mx n S ≤ bigL := by
  unfold opLen bigL
  split
  · omega
  · split <;> omega
theorem mul_bd {a b A B : Int} (ha : 0 ≤ a) (hb : 0 ≤ b) (hA : a ≤ A) (hB : b ≤ B) : 0 ≤ a * b ∧ a * b ≤ A * B := ⟨Int.mul_nonneg ha hb, Int.mul_le_mul hA hB hb (by omega)⟩
theorem opLen_ge {op mn mx n S : Int} (hS : 0 ≤ S) (h5 : op = 5 → 1 ≤ n) (h6 : op = 6 → 0 ≤ mn ∧ mn ≤ 1000 ∧ (mx = -1 ∨ mn ≤ mx ∧ mx ≤ 1000)) : 0 ≤ opLen op mn mx n S := by
  unfold opLen bigL
  split
  · omega
  · split
    · omega
    · split
      · next h => have := h5 h; omega
      · split
        · next h =>
          obtain ⟨a1, a2, a3⟩ := h6 h
          have h1 := (mul_bd a1 hS a2 (Int.le_refl S)).1
          split
          · omega
          · have := (mul_bd (a := mx - mn) (b := S + 1) (by omega) (by omega) (Int.le_refl _) (Int.le_refl _)).1
            omega
        · omega
theorem rowLen_ge : ∀ (T : Wood), LenOk T → 0 ≤ rowLen T
  | .nil, _ => Int.le_refl _
  | .cons op s mn mx k x, ⟨_, h5, h6, hk, hx⟩ => by
    have := opLen_ge (n := (k.len : Int)) (rowLen_ge k hk) (fun h => by have := h5 h; omega) h6
    have := rowLen_ge x hx
    simp only [rowLen]; omega
theorem rowLen_le : ∀ (T : Wood), rowLen T ≤ T.len * bigL
  | .nil => by simp [rowLen, Wood.len]
  | .cons op s mn mx k x => by
    have h1 := opLen_le op mn mx (k.len : Int) (rowLen k)
    have h2 := rowLen_le x
    simp only [rowLen, Wood.len]
    unfold bigL at *
    omega
theorem rowLen_take : ∀ (T : Wood) (j : Nat), j < T.len → rowLen (T.take (j + 1)) = rowLen (T.take j) + rowLen (T.nth j)
  | .nil, j, h => by simp [Wood.len] at h
  | .cons op s mn mx k x, 0, _ => by
    cases x <;> simp [Wood.take, Wood.nth, rowLen]
  | .cons op s mn mx k x, j + 1, h => by
    have := rowLen_take x j (by simp only [Wood.len] at h; omega)
    simp only [Wood.take, Wood.nth, rowLen] at *
    omega
theorem lenOk_nth : ∀ (T : Wood) (j : Nat), j < T.len → LenOk T → LenOk (T.nth j)
  | .nil, _, h, _ => by simp [Wood.len] at h
  | .cons op s mn mx k x, 0, _, h => ⟨h.1, h.2.1, h.2.2.1, h.2.2.2.1, trivial⟩
  | .cons op s mn mx k x, j + 1, h, hk => lenOk_nth x j (by simp only [Wood.len] at h; omega) hk.2.2.2.2
theorem lenOk_take : ∀ (T : Wood) (j : Nat), LenOk T → LenOk (T.take j)
  | .nil, j, _ => by cases j <;> exact trivial
  | .cons op s mn mx k x, 0, _ => trivial
  | .cons op s mn mx k x, j + 1, h => ⟨h.1, h.2.1, h.2.2.1, h.2.2.2.1, lenOk_take x j h.2.2.2.2⟩
theorem take_len_le : ∀ (T : Wood) (j : Nat), (T.take j).len ≤ T.len
  | .nil, j => by cases j <;> exact Nat.le_refl _
  | .cons .., 0 => by simp [Wood.take, Wood.len]
  | .cons _ _ _ _ _ x, j + 1 => by have := take_len_le x j; simp only [Wood.take, Wood.len]; omega
theorem wrap_ok {x : Int} (h0 : 0 ≤ x) (h1 : x ≤ 9000000000000000000) : IntKind.i64.wrap x = x := by rw [IntKind.wrap_i64]; omega
theorem wrapz {x : Int} (h0 : -9000000000000000000 ≤ x) (h1 : x ≤ 9000000000000000000) : IntKind.i64.wrap x = x := by rw [IntKind.wrap_i64]; omega
theorem prod_bd {a S : Int} (ha : -1001 ≤ a) (ha2 : a ≤ 1000) (h0 : 0 ≤ S) (h1 : S ≤ 1000 * 1099511627776) : -2000000000000000000 ≤ a * (S + 1) ∧ a * (S + 1) ≤ 2000000000000000000 := by
  have h2 : (a + 1001) * (S + 1) ≥ 0 := Int.mul_nonneg (by omega) (by omega)
  have h3 : (1000 - a) * (S + 1) ≥ 0 := Int.mul_nonneg (by omega) (by omega)
  rw [Int.add_mul] at h2
  rw [Int.sub_mul] at h3
  omega
theorem prod_bd0 {a S : Int} (ha : 0 ≤ a) (ha2 : a ≤ 1000) (h0 : 0 ≤ S) (h1 : S ≤ 1000 * 1099511627776) : 0 ≤ a * S ∧ a * S ≤ 2000000000000000000 := by
  have h2 : a * S ≥ 0 := Int.mul_nonneg ha h0
  have h3 : (1000 - a) * S ≥ 0 := Int.mul_nonneg (by omega) h0
  rw [Int.sub_mul] at h3
  omega
set_option maxHeartbeats 4000000 in
theorem rlen_any (N : Nat) : ∀ (T : Wood), T.size ≤ N → ∀ (F : Nat → Prop) (W : World) (v : Value), NodeIn F W v T → LenOk T →
    Calls Try.prog 23 #[v] W fun e w' => e = .returned (.int .i64 (rowLen T)) ∧ Below W.heap.size W w' := by
  induction N with
  | zero =>
    intro T hN F W v hv hs
    obtain ⟨op, s, mn, mx, k, A, D, ns, cs, nk, ck, rfl, _⟩ := hv
    simp [Wood.size] at hN
  | succ N ih =>
    intro T hN F W v hv hok
    obtain ⟨op, s, mn, mx, k, A, D, ns, cs, nk, ck, rfl, rfl, hr, hk⟩ := hv
    have hsz : (Wood.cons op s mn mx k .nil).size = 1 + k.size := by simp [Wood.size]
    rw [hsz] at hN
    have hkl := hk.1
    have hrl : rowLen (.cons op s mn mx k .nil) = opLen op mn mx (nk : Int) (rowLen k) := by simp [rowLen, hkl]
    rw [hrl]
    have HK := Lib.hid hk
    have IH := Lib.hid ih
    have hnk : nk ≤ 1000 := by have := hok.1; omega
    have HOK := Lib.hid (And.intro hok.2.2.2.1 (And.intro hok.2.1 hok.2.2.1))
    have HKN := Lib.hid (And.intro hkl hN)
    obtain ⟨R, hR⟩ : ∃ R, R = opLen op mn mx (nk : Int) (rowLen k) := ⟨_, rfl⟩
    rw [← hR]
    have HR := Lib.hid hR
    clear ih hsz hk hr hok hrl hkl hN hR
    go_enter Try.func23, Try.ntmps23
    obtain ⟨W1, g, hW1, hg, _, _, hbox⟩ := box_world W #[.int .i64 op, .slice A ns cs, .int .i64 mn, .int .i64 mx, .slice D nk ck] 52
    have HBOX := Lib.hid hbox
    clear hbox
    go_wp2
    rw [← hW1, ← hg]
    clear hW1 hg
    go_loopw [3, 4] (fun vs vi wr => ∃ (j : Nat) (S : Int), vs = .int .i64 S ∧ vi = .int .i64 (j : Int) ∧ j ≤ nk ∧ Hid (S = rowLen (k.take j) ∧ Below W1.heap.size W1 wr)) (fun _ vi _ => nk - (intOf vi).toNat)
    case atStart => exact ⟨0, 0, rfl, rfl, Nat.zero_le _, Lib.hid ⟨by rw [Wood.take_zero]; rfl, Below.refl _ _⟩⟩
    case round =>
      obtain ⟨j, S, rfl, rfl, hj, HO⟩ := hrel
      obtain ⟨hbx, hbW⟩ := HBOX.out wr HO.out.2
      have b0 := hbx 0
      have b2 := hbx 2
      have b3 := hbx 3
      have b4 := hbx 4
      simp only [List.getElem?_toArray, List.getElem?_cons_succ, List.getElem?_cons_zero] at b0 b2 b3 b4
      clear hbx
      have hS0 := rowLen_ge _ (lenOk_take k j HOK.out.1)
      have hS1 := rowLen_le (k.take j)
      have hS2 := take_len_le k j
      rw [← HO.out.1] at hS0 hS1
      rw [HKN.out.1] at hS2
      have hS3 : S ≤ 1000 * bigL := Int.le_trans hS1 (by unfold bigL; omega)
      unfold bigL at hS3
      have HS := Lib.hid (And.intro hS0 hS3)
      clear hS0 hS1 hS2 hS3
      by_cases hlt : j < nk
      · obtain ⟨b, o, op', s', mn', mx', k', A', D', ns', cs', nk', ck', rfl, _, _, c0, c1, c2, c3, c4, hin⟩ := (HK.out.below hbW).kid hlt
        have hjl : j < k.len := by have := HKN.out; omega
        have hst := rowLen_take k j hjl
        have hsl := size_nth k j hjl
        have hokn := lenOk_nth k j hjl HOK.out.1
        have hz0 := rowLen_ge _ hokn
        have hz1 := rowLen_le (k.nth j)
        have hz2 : (k.nth j).len = 1 := by
          obtain ⟨_, _, _, _, _, _, _, _, _, _, _, e, _⟩ := hin
          rw [e]; rfl
        rw [hz2] at hz1
        have HC := Lib.hid (IH.out (k.nth j) (by have := HKN.out; omega) F wr _ hin hokn)
        obtain ⟨Z, hZ⟩ : ∃ Z, Z = rowLen (k.nth j) := ⟨_, rfl⟩
        rw [← hZ] at HC hst hz0 hz1
        have hS2 : S + Z = rowLen (k.take (j + 1)) := by have := HO.out.1; omega
        have hw : IntKind.i64.wrap (S + Z) = S + Z := wrap_ok (by have := HS.out; omega) (by have := HS.out; unfold bigL at hz1; omega)
        have HS2 := Lib.hid hS2
        clear hin hst hsl hokn hz0 hz1 hz2 hjl hZ hS2 hbW b0 b2 b3
        go_wp2_with (go_at_call 23; refine HC.out.mono ?_; rintro e w1 ⟨rfl, hb1⟩; have HB1 := Lib.hid (HO.out.2.trans (hb1.mono HO.out.2.size)); clear hb1)
        exact ⟨⟨j + 1, S + Z, by go_num, by go_num, by omega, Lib.hid ⟨HS2.out, HB1.out⟩⟩, by simp [intOf]; omega⟩
      · have hjn : j = nk := by omega
        subst hjn
        have hSk : S = rowLen k := by rw [HO.out.1, ← HKN.out.1, Wood.take_all]
        have HBW := Lib.hid hbW
        have hRR := HR.out
        rw [← hSk] at hRR
        have H5 := HOK.out.2.1
        have H6 := HOK.out.2.2
        rw [HKN.out.1] at H5
        obtain ⟨hS0, hS1⟩ := HS.out
        have HF5 := Lib.hid H5
        have HF6 := Lib.hid H6
        have H01 := Lib.hid (And.intro hS0 hS1)
        have hnj : (j : Int) ≤ 1000 := by omega
        clear hbW hSk H5 H6 hS0 hS1
        by_cases p0 : op = 0
        · subst p0
          have hR0 : R = 0 := by rw [hRR]; simp [opLen]
          subst hR0
          clear hRR
          go_wp2
          go_ret
          exact ⟨rfl, HBW.out⟩
        by_cases p1 : op = 1 ∨ op = 2 ∨ op = 3
        · have hR0 : R = 1 := by rw [hRR]; unfold opLen; rw [if_neg p0, if_pos p1]
          subst hR0
          clear hRR
          rcases p1 with rfl | rfl | rfl
          all_goals
            go_wp2
            go_ret
            exact ⟨rfl, HBW.out⟩
        have HP1 := Lib.hid p1
        have q1 : op ≠ 1 := fun h => p1 (.inl h)
        have q2 : op ≠ 2 := fun h => p1 (.inr (.inl h))
        have q3 : op ≠ 3 := fun h => p1 (.inr (.inr h))
        clear p1
        by_cases p5 : op = 5
        · subst p5
          obtain ⟨X, hX⟩ : ∃ X, X = S + 2 * (j : Int) - 2 := ⟨_, rfl⟩
          have hj1 := HF5.out rfl
          have hw1 : IntKind.i64.wrap (2 * (j : Int)) = 2 * (j : Int) := wrapz (by omega) (by omega)
          have hw2 : IntKind.i64.wrap (S + 2 * (j : Int)) = S + 2 * (j : Int) := wrapz (by have := H01.out; omega) (by have := H01.out; omega)
          have hw3 : IntKind.i64.wrap (S + 2 * (j : Int) - 2) = X := by rw [hX]; exact wrapz (by have := H01.out; omega) (by have := H01.out; omega)
          have hRX : R = min X bigL := by rw [hRR, hX]; unfold opLen; rw [if_neg (by decide), if_neg (by decide), if_pos rfl]; congr 1; omega
          have HRX := Lib.hid hRX
          clear hX hRX hRR hj1
          by_cases hgt : 1099511627776 < X
          · have hr : R = 1099511627776 := by rw [HRX.out]; unfold bigL; omega
            subst hr
            go_wp2
            go_ret
            exact ⟨rfl, HBW.out⟩
          · have hr : R = X := by rw [HRX.out]; unfold bigL; omega
            subst hr
            go_wp2
            go_ret
            exact ⟨rfl, HBW.out⟩
        by_cases p6 : op = 6
        · subst p6
          obtain ⟨m1, m2, m3⟩ := HF6.out rfl
          have hpb := prod_bd (a := mx - mn) (S := S) (by omega) (by omega) H01.out.1 H01.out.2
          have hpc := prod_bd0 (a := mn) (S := S) (by omega) (by omega) H01.out.1 H01.out.2
          obtain ⟨M, hM⟩ : ∃ M, M = (mx - mn) * (S + 1) := ⟨_, rfl⟩
          obtain ⟨N0, hN0⟩ : ∃ N0, N0 = mn * S := ⟨_, rfl⟩
          rw [← hM] at hpb
          rw [← hN0] at hpc
          have hw1 : IntKind.i64.wrap (mx - mn) = mx - mn := wrapz (by omega) (by omega)
          have hw2 : IntKind.i64.wrap (S + 1) = S + 1 := wrapz (by have := H01.out; omega) (by have := H01.out; omega)
          have hw3 : IntKind.i64.wrap ((mx - mn) * (S + 1)) = M := by rw [← hM]; exact wrapz (by omega) (by omega)
          have hw4 : IntKind.i64.wrap (S + 2) = S + 2 := wrapz (by have := H01.out; omega) (by have := H01.out; omega)
          have hw5 : IntKind.i64.wrap (mn * S) = N0 := by rw [← hN0]; exact wrapz (by omega) (by omega)
          have HM := Lib.hid (And.intro hM hN0)
          have HPB := Lib.hid (And.intro hpb hpc)
          clear hM hN0 hpb hpc
          by_cases hmx : mx < 0
          · have hw6 : IntKind.i64.wrap (N0 + (S + 2)) = N0 + (S + 2) := wrapz (by have := H01.out; have := HPB.out; omega) (by have := H01.out; have := HPB.out; omega)
            have HRX := Lib.hid (show R = min (N0 + (S + 2)) bigL by rw [hRR, HM.out.2]; unfold opLen; rw [if_neg (by decide), if_neg (by decide), if_neg (by decide), if_pos rfl, if_pos hmx])
            clear hRR m1 m2 m3
            by_cases hgt : 1099511627776 < N0 + (S + 2)
            · have hr : R = 1099511627776 := by rw [HRX.out]; unfold bigL; omega
              subst hr
              go_wp2
              go_ret
              exact ⟨rfl, HBW.out⟩
            · have hr : R = N0 + (S + 2) := by rw [HRX.out]; unfold bigL; omega
              subst hr
              go_wp2
              go_ret
              exact ⟨rfl, HBW.out⟩
          · have hw6 : IntKind.i64.wrap (N0 + M) = N0 + M := wrapz (by have := H01.out; have := HPB.out; omega) (by have := H01.out; have := HPB.out; omega)
            have HRX := Lib.hid (show R = min (N0 + M) bigL by rw [hRR, HM.out.2, HM.out.1]; unfold opLen; rw [if_neg (by decide), if_neg (by decide), if_neg (by decide), if_pos rfl, if_neg hmx])
            clear hRR m1 m2 m3
            by_cases hgt : 1099511627776 < N0 + M
            · have hr : R = 1099511627776 := by rw [HRX.out]; unfold bigL; omega
              subst hr
              go_wp2
              go_ret
              exact ⟨rfl, HBW.out⟩
            · have hr : R = N0 + M := by rw [HRX.out]; unfold bigL; omega
              subst hr
              go_wp2
              go_ret
              exact ⟨rfl, HBW.out⟩
        have HRX := Lib.hid (show R = min S bigL by rw [hRR]; unfold opLen; rw [if_neg p0, if_neg HP1.out, if_neg p5, if_neg p6])
        clear hRR
        by_cases hgt : 1099511627776 < S
        · have hr : R = 1099511627776 := by rw [HRX.out]; unfold bigL; omega
          subst hr
          go_wp2
          go_ret
          exact ⟨rfl, HBW.out⟩
        · have hr : R = S := by rw [HRX.out]; unfold bigL; omega
          subst hr
          go_wp2
          go_ret
          exact ⟨rfl, HBW.out⟩
end Go.Proofs.Ytegcebgoiocakaa
/- Are two rows of hits the same? -/
namespace Go.Proofs.Ytegcebgoiocakaa
open Go Go.RowKit
set_option linter.unusedVariables false
set_option maxRecDepth 20000

/-- A row of hits. -/
def RowH (w : World) (A : Option Addr) (n : Nat) (xs : List (Int × Int)) : Prop :=
  xs.length = n ∧ (0 < n → ∃ b, A = some ⟨b, 0, none⟩ ∧ b < w.heap.size ∧ ∀ j x, xs[j]? = some x → w.cell? ⟨b, j * 2, none⟩ = some (.int .i64 x.1) ∧ w.cell? ⟨b, j * 2 + 1, none⟩ = some (.int .i64 x.2))
theorem rowH_own {w : World} {B : Nat} {A : Option Addr} {n c : Nat} {xs : List (Int × Int)} (h : w.ownsRow B 35 2 (.slice A n c) n (cellsG xs)) : RowH w A n xs := by
  refine ⟨pairs_len h, fun hn => ?_⟩
  obtain ⟨x, hx⟩ : ∃ x, xs[0]? = some x := ⟨_, List.getElem?_eq_getElem (by rw [pairs_len h]; exact hn)⟩
  obtain ⟨b, hb, _, _, hlt, _, _⟩ := pair_at h hx
  refine ⟨b, hb, hlt, fun j y hy => ?_⟩
  obtain ⟨b', hb', _, _, _, h1, h2⟩ := pair_at h hy
  rw [hb] at hb'
  injection hb' with e
  injection e with e _
  subst e
  exact ⟨h1, h2⟩
theorem RowH.below {w w' : World} {A : Option Addr} {n : Nat} {xs : List (Int × Int)} (h : RowH w A n xs) (hb : Below w.heap.size w w') : RowH w' A n xs := by
  refine ⟨h.1, fun hn => ?_⟩
  obtain ⟨b, hA, hlt, hc⟩ := h.2 hn
  exact ⟨b, hA, Nat.lt_of_lt_of_le hlt hb.size, fun j x hx => ⟨(hb.cell (p := ⟨b, j * 2, none⟩) hlt).trans (hc j x hx).1, (hb.cell (p := ⟨b, j * 2 + 1, none⟩) hlt).trans (hc j x hx).2⟩⟩
theorem rowH_made {w : World} {b n : Nat} {xs : List (Int × Int)} (hl : xs.length = n) (h : w.heap[b]? = some (.cells (cellsG xs).toArray 35 (0, 0))) : RowH w (some ⟨b, 0, none⟩) n xs := by
  refine ⟨hl, fun hn => ⟨b, rfl, (Array.getElem?_eq_some_iff.1 h).1, fun j x hx => ?_⟩⟩
  obtain ⟨e0, e1⟩ := cellsG_get xs hx
  constructor
  · rw [cell_of_row w b _ _ _ (0, 0) h, ← e0]; simp
  · rw [cell_of_row w b _ _ _ (0, 0) h, ← e1]; simp
theorem hit_cells : Try.prog.cellsOf 35 = 2 := by kernel_rfl
set_option maxHeartbeats 2000000 in
theorem hsame_any (xs : List (Int × Int)) (A D : Option Addr) (n c d : Nat) (W : World) (ha : RowH W A n xs) (hb : RowH W D n xs) (hn : n ≤ 1000000) :
    Calls Try.prog 18 #[.slice A n c, .slice D n d] W fun e w' => e = .returned (.bool true) ∧ ∃ q, w' = W.drewN q := by
  have HA := Lib.hid ha; clear ha
  have HB := Lib.hid hb; clear hb
  go_enter Try.func18, Try.ntmps18
  go_wp2
  go_loopw [5] (fun i wr => ∃ k q : Nat, k ≤ n ∧ i = .int .i64 k ∧ wr = W.drewN q) (fun i _ => n - (intOf i).toNat)
  case atStart => exact ⟨0, 0, Nat.zero_le _, rfl, rfl⟩
  case round =>
    obtain ⟨k, q, hk, rfl, rfl⟩ := hrel
    by_cases hlt : k < n
    · obtain ⟨b, rfl, _, hc⟩ := HA.out.2 (by omega)
      obtain ⟨b', rfl, _, hc'⟩ := HB.out.2 (by omega)
      obtain ⟨x, hx⟩ : ∃ x, xs[k]? = some x := ⟨_, List.getElem?_eq_getElem (by rw [HA.out.1]; exact hlt)⟩
      obtain ⟨c0, c1⟩ := hc k x hx
      obtain ⟨e0, e1⟩ := hc' k x hx
      clear hc hc' hx
      have hcl := hit_cells
      go_wp2
      go_quiet (fail)
      go_wp2
      refine ⟨⟨k + 1, q + nq, by omega, by go_num, rfl⟩, by simp [intOf]; omega⟩
    · go_wp2
      go_ret
      exact ⟨rfl, _, rfl⟩
end Go.Proofs.Ytegcebgoiocakaa
