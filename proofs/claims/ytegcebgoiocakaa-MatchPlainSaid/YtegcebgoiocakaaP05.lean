/- What jump's answer does. -/
import Derived.Test.YtegcebgoiocakaaM13
import Derived.Test.YtegcebgoiocakaaM14
import Derived.Test.YtegcebgoiocakaaO01
import Derived.Test.YtegcebgoiocakaaP02
import Derived.Test.YtegcebgoiocakaaP04
namespace Go.Proofs.Ytegcebgoiocakaa
open Go Go.RowKit
set_option linter.unusedVariables false
set_option maxRecDepth 20000
set_option maxHeartbeats 4000000 in
theorem there_any {B g q pc bx ix i : Nat} {w : World} {P : Option Addr} {xs : List IV} (h : WrS B g w P q pc xs) (hh : HereAt w bx ix g i) (hi : i < q) (hq : q ≤ 50000) :
    Calls Try.prog 102 #[.pointer (some ⟨bx, 0, none⟩), .pointer (some ⟨ix, 0, none⟩)] w fun e w' => e = .returned (.tuple #[]) ∧ WrS B g w' P q pc (setIV (fun v => { v with y := (q : Int) }) i (setIV (fun v => { v with x := (q : Int) }) i xs)) ∧ Wk B g (.slice P q pc) w w' := by
  obtain ⟨b, x, rfl, hB, hbl, hbg, hx, hc, hf⟩ := h.at hi
  have HS := Lib.hid h
  have c0 : w.cell? ⟨bx, 0, none⟩ = some (.pointer (some ⟨g, 0, none⟩)) := cell_of_row w bx 0 _ _ (0, 0) hh.1
  have c1 : w.cell? ⟨ix, 0, none⟩ = some (.int .i64 (i : Int)) := cell_of_row w ix 0 _ _ (0, 0) hh.2
  have c2 : w.cell? ⟨g, 0, none⟩ = some (.slice (some ⟨b, 0, none⟩) q pc) := cell_of_row w g 0 _ _ (0, 0) h.hg
  have c3 := hc 3 _ rfl
  have c4 := hc 2 _ rfl
  have hi1 : (0 : Int) ≤ (i : Int) := by omega
  have hi2 : (i : Int) < (q : Int) := by omega
  have f3 := hf (i * 4 + 3)
  have f2 := hf (i * 4 + 2)
  obtain ⟨k1, k2⟩ := h.turn hB hbl hbg (fun v => { v with x := (q : Int) }) (k := 2) (by omega) (.int .i64 (q : Int)) hi (fun x => rfl) (fun v => rfl)
  obtain ⟨k3, k4⟩ := k1.turn hB (by simpa using hbl) hbg (fun v => { v with y := (q : Int) }) (k := 3) (by omega) (.int .i64 (q : Int)) hi (fun x => rfl) (fun v => rfl)
  have HK := Lib.hid (And.intro k3 (k2.trans (Vk.refl _ _) k4))
  obtain ⟨cur, cap, hrb⟩ : ∃ cur cap, w.heap[b]? = some (.cells cur 45 cap) := by
    rcases h.row.2 with ⟨e, h0⟩ | ⟨b', cap, cur, e, hB', hb', _⟩
    · omega
    · injection e with e1 _ _
      injection e1 with e1
      injection e1 with e1
      subst e1
      exact ⟨_, _, hb'⟩
  have nbx : bx ≠ b := fun e => by
    have h1 := hh.1
    rw [e, hrb] at h1
    injection h1 with h1
    injection h1 with _ h1 _
    exact absurd h1 (by decide)
  have nix : ix ≠ b := fun e => by
    have h1 := hh.2
    rw [e, hrb] at h1
    injection h1 with h1
    injection h1 with _ h1 _
    exact absurd h1 (by decide)
  have HS0 : Hid (∀ (w' : World) (k : Nat) (v : Value), (w'.cell? ⟨bx, 0, none⟩ = some (.pointer (some ⟨g, 0, none⟩)) ∧ w'.cell? ⟨ix, 0, none⟩ = some (.int .i64 (i : Int)) ∧ w'.cell? ⟨g, 0, none⟩ = some (.slice (some ⟨b, 0, none⟩) q pc)) → ((w'.setCell ⟨b, k, none⟩ v).cell? ⟨bx, 0, none⟩ = some (.pointer (some ⟨g, 0, none⟩)) ∧ (w'.setCell ⟨b, k, none⟩ v).cell? ⟨ix, 0, none⟩ = some (.int .i64 (i : Int)) ∧ (w'.setCell ⟨b, k, none⟩ v).cell? ⟨g, 0, none⟩ = some (.slice (some ⟨b, 0, none⟩) q pc))) := Lib.hid fun w' k v hs => by
    have o : ∀ c, c ≠ b → (w'.setCell ⟨b, k, none⟩ v).cell? ⟨c, 0, none⟩ = w'.cell? ⟨c, 0, none⟩ := fun c hc => by
      unfold World.cell?
      rw [Below.heap_setCell _ _ _ _ hc]
    rw [o bx nbx, o ix nix, o g (Ne.symm hbg)]
    exact hs
  have hs0 := And.intro c0 (And.intro c1 c2)
  clear h hh hc hx hf k1 k2 k3 k4 hrb nbx nix
  go_enter Try.func102, Try.ntmps102
  go_wp2_with fail
  go_region_held (fun w' => w'.cell? ⟨bx, 0, none⟩ = some (.pointer (some ⟨g, 0, none⟩)) ∧ w'.cell? ⟨ix, 0, none⟩ = some (.int .i64 (i : Int)) ∧ w'.cell? ⟨g, 0, none⟩ = some (.slice (some ⟨b, 0, none⟩) q pc)) (first | assumption | (refine HS0.out _ _ _ ?_; assumption) | (refine HS0.out _ _ _ (HS0.out _ _ _ ?_); assumption)) (fail)
  all_goals
    go_end0
    exact ⟨rfl, HK.out.1.drew, HK.out.2.drew⟩
end Go.Proofs.Ytegcebgoiocakaa
/- The writer's alternatives. -/
namespace Go.Proofs.Ytegcebgoiocakaa
open Go Go.RowKit
set_option linter.unusedVariables false
set_option maxRecDepth 20000

/-- So many together. -/
def sumC (cf : Nat → Nat) : Nat → Nat
  | 0 => 0
  | n + 1 => sumC cf n + cf n
theorem sumC_mono (cf : Nat → Nat) (j : Nat) : sumC cf j ≤ sumC cf (j + 1) := Nat.le_add_right _ _
theorem sumC_tail (cf : Nat → Nat) : ∀ n, sumC cf (n + 1) = cf 0 + sumC (fun j => cf (j + 1)) n
  | 0 => by simp [sumC]
  | n + 1 => by
    have := sumC_tail cf n
    rw [sumC, this, sumC, Nat.add_assoc]
def tailW : Wood → Wood
  | .nil => .nil
  | .cons _ _ _ _ _ x => x
theorem tail_nth : ∀ (K : Wood) (j : Nat), 0 < K.len → (tailW K).nth j = K.nth (j + 1)
  | .nil, _, h => by simp [Wood.len] at h
  | .cons _ _ _ _ _ x, j, _ => rfl
theorem kids_tail {F : Nat → Prop} {w : World} {b o nk : Nat} {K : Wood} (h : KidsAt F w (some ⟨b, o, none⟩) (nk + 1) K) : KidsAt F w (some ⟨b, o + 5, none⟩) nk (tailW K) := by
  obtain ⟨b', o', hD, hF, hlt, hw⟩ := h.2 (Nat.succ_pos _)
  injection hD with hD
  injection hD with e1 e2
  subst e1; subst e2
  match K, h.1, hw with
  | .cons op s mn mx k x, hl, hw => exact ⟨by simp only [Wood.len] at hl; simp only [tailW]; omega, fun _ => ⟨b, o + 5, rfl, hF, hlt, hw.2⟩⟩
theorem StY.turn2 {B g q pc c pc' i : Nat} {w w' w'' : World} {P P' : Option Addr} {xs xs' : List IV} {f1 f2 : InstL → InstL} (h : StY B g w P q pc xs c w' P' pc' xs') (hi : q ≤ i) (hx : xs.length = q) (hf1 : ∀ v, OkI (q + c) v → OkI (q + c) (f1 v)) (hf2 : ∀ v, OkI (q + c) v → OkI (q + c) (f2 v)) (h1 : WrS B g w'' P' (q + c) pc' (setIV f2 i (setIV f1 i xs'))) (h2 : Wk B g (.slice P' (q + c) pc') w' w'') : StY B g w P q pc xs c w'' P' pc' (setIV f2 i (setIV f1 i xs')) := by
  obtain ⟨k1, ⟨ys, k2, k3, k4, k7⟩, k5, k6⟩ := h
  have e1 := setIV_app f1 i xs xs' ys k2 (by omega)
  have e2 := setIV_app f2 i xs (setIV f1 i xs') _ e1 (by omega)
  exact ⟨h1, ⟨_, e2, by rw [List.length_modify, List.length_modify]; exact k3, (k4.modify hf1).modify hf2, k7.trans k5.2.1 ((NewS.turned w' _ _ _).trans (Nat.le_refl _) (NewS.turned w' _ _ _))⟩, k5.trans k6 h2, k6⟩
theorem OkI.x {b q : Nat} {v : InstL} (h : OkI b v) (hq : q ≤ b) : OkI b { v with x := (q : Int) } := ⟨h.1, by show (0 : Int) ≤ (q : Int); omega, by show (q : Int) ≤ (b : Int); omega, h.2.2.2.1, h.2.2.2.2.1, h.2.2.2.2.2⟩
theorem node_elem : Try.prog.elem 50 = 52 := by kernel_rfl
theorem node_size (w : World) : (sizeOf 52).run Try.prog w = .ok 5 w := by kernel_rfl
theorem node_slice : Try.prog.underlying 50 = some (.slice (Try.prog.elem 50)) := by rw [node_elem]; exact Try.underlying50
theorem slice_one (b o n c : Nat) (hk : 1 ≤ n) (hkc : 1 < c) (w : World) :
    (Instr.slice 50 (.slice (some ⟨b, o, none⟩) n c) (some (.int .i64 1)) none none).run Try.prog w = .ok (.slice (some ⟨b, o + 5, none⟩) (n - 1) (c - 1)) w := by
  have hr := run_slice_l (P := Try.prog) (w := w) (t := 50) (a := some ⟨b, o, none⟩) (len := n) (cap := c) (ht := node_slice) (kl := .i64) (l := 1) (h0 := by omega) (h1 := by omega)
  rw [hr, node_elem, node_size]
  simp [Result.andThen, sliced]
  rw [if_neg (by omega)]
  simp [Addr.add]
def AltY (B g : Nat) (w0 : World) (v : Value) (c : Nat) : Prop :=
  ∀ w P q pc xs, Below B w0 w → WrS B g w P q pc xs → q + c ≤ 20000 → Calls Try.prog 67 #[.pointer (some ⟨g, 0, none⟩), v] w (AddedY B g w P q pc xs c)
set_option maxHeartbeats 8000000 in
theorem alt_anyY {B g : Nat} {w0 : World} (hBw : B ≤ w0.heap.size) (N : Nat) : ∀ (K : Wood) (D : Option Addr) (nk ck : Nat) (cf : Nat → Nat), nk ≤ N → KidsAt (fun b => b < B) w0 D nk K → nk ≤ ck → nk ≤ 1000 → (∀ j, j < nk → ∀ v, NodeIn (fun b => b < B) w0 v (K.nth j) → TreeY B g w0 v (cf j)) → AltY B g w0 (.slice D nk ck) (sumC cf nk + 2 * (nk - 1)) := by
  induction N with
  | zero =>
    intro K D nk ck cf hN hk hck hnk HT w P q pc xs hb0 h hq
    obtain rfl : nk = 0 := by omega
    have HR := Lib.hid (row_addsY (ck := ck) hk hnk hBw (sumC cf) (sumC_mono cf) rfl (fun j hj => absurd hj (Nat.not_lt_zero _)) w P q pc xs hb0 h hq)
    clear h HT hk
    go_enter Try.func67, Try.ntmps67
    go_wp2_with (go_at_call 66; (with_reducible refine HR.out.mono ?_); rintro e w2 hv; have HV := Lib.hid hv; obtain ⟨rfl, -⟩ := hv)
    first | go_end0 | (refine bodyPost_ret (results_none rfl _ _ _) rfl ?_)
    exact HV.out
  | succ N ih =>
    intro K D nk ck cf hN hk hck hnk HT w P q pc xs hb0 h hq
    by_cases h2 : nk < 2
    · have hI : (nk : Int) < 2 := by omega
      have HR := Lib.hid (row_addsY (ck := ck) hk hnk hBw (sumC cf) (sumC_mono cf) rfl (fun j hj v hv => by
        have := HT j hj v hv
        rwa [show sumC cf (j + 1) - sumC cf j = cf j by rw [sumC]; omega]) w P q pc xs hb0 h (by omega))
      have e0 : sumC cf nk + 2 * (nk - 1) = sumC cf nk := by omega
      rw [e0]
      clear h HT hk e0 ih
      go_enter Try.func67, Try.ntmps67
      go_wp2_with (go_at_call 66; (with_reducible refine HR.out.mono ?_); rintro e w2 hv; have HV := Lib.hid hv; obtain ⟨rfl, -⟩ := hv)
      first | go_end0 | (refine bodyPost_ret (results_none rfl _ _ _) rfl ?_)
      exact HV.out
    · obtain ⟨m, rfl⟩ : ∃ m, nk = m + 1 := ⟨nk - 1, by omega⟩
      have hI : ¬ ((m : Int) + 1 < 2) := by omega
      have hm0 : (0 : Int) < (m : Int) + 1 := by omega
      have hm1 : (1 : Int) ≤ (m : Int) + 1 := by omega
      obtain ⟨c', hc'⟩ : ∃ c', c' = sumC (fun j => cf (j + 1)) m + 2 * (m - 1) := ⟨_, rfl⟩
      have hcc : sumC cf (m + 1) + 2 * (m + 1 - 1) = 1 + cf 0 + 1 + c' := by rw [sumC_tail, hc']; omega
      rw [hcc] at hq ⊢
      have hgl := h.lt
      have HXQ := Lib.hid h.len
      have HGB := Lib.hid h.hB
      have HSp := Lib.hid (split_any h (by omega))
      obtain ⟨b, o, op, mn, mx, A', D', ns, cs, nk', ck', rfl, hbB, -⟩ := kid_then hk (Below.refl B w0) (Nat.succ_pos m)
      have HK := Lib.hid hk
      have HT0 := Lib.hid (HT 0 (Nat.succ_pos m))
      have HIH := Lib.hid (show AltY B g w0 (.slice (some ⟨b, o + 5, none⟩) m (ck - 1)) c' from by
        rw [hc']
        exact ih (tailW K) _ m (ck - 1) (fun j => cf (j + 1)) (by omega) (kids_tail hk) (by omega) (by omega) fun j hj v hv => HT (j + 1) (by omega) v (by rw [tail_nth K j (by rw [hk.1]; omega)] at hv; exact hv))
      have HB := Lib.hid (And.intro hb0 hbB)
      have HSl := Lib.hid (slice_one b o (m + 1) ck (by omega) (by omega))
      have hsl := slice_one b o (m + 1) ck (by omega) (by omega)
      rw [Nat.add_sub_cancel] at hsl
      clear h HT hk ih hc' hcc hb0 hbB h2 hN
      go_enter Try.func67, Try.ntmps67
      have hB0 : B ≤ w.heap.size := by have := HXQ.out; have := hgl; have h9 := HGB.out; omega
      have HB0 := Lib.hid hB0
      clear hB0
      go_wp2_with (first
        | (go_at_call 90; (with_reducible refine HSp.out.mono ?_); rintro e w1 ⟨bx, ix, rfl, hh, hbx, hix, P1, pc1, k1, k2, k3, k4, k5⟩; have HS1 := Lib.hid (split_st k1 k2 k3); have HH := Lib.hid (And.intro hh (And.intro hbx (And.intro hix (And.intro k4 k5)))); clear hh hbx hix k1 k2 k3 k4 k5; obtain ⟨b2, o2, op2, mn2, mx2, A2, D2, ns2, cs2, nk2, ck2, hD2, _, _, c0, c1, c2, c3, c4, hin⟩ := kid_then HK.out (HB.out.1.trans HS1.out.2.2.1.1) (Nat.succ_pos m); injection hD2 with hD2; injection hD2 with e1 e2; subst e1; subst e2; simp only [Nat.zero_mul, Nat.add_zero] at c0 c1 c2 c3 c4; have hs1 := HS1.out.2.2.1.2.1; have HC := Lib.hid (HT0.out _ hin w1 P1 (q + 1) pc1 _ (HB.out.1.trans HS1.out.2.2.1.1) HS1.out.1 (by omega)); clear hin hs1)
        | (go_at_call 37; (with_reducible refine HC.out.mono ?_); rintro e w2 ⟨rfl, P2, pc2, xs2, k1⟩; have HS2 := Lib.hid k1; have HJ := Lib.hid (jump_any HS2.out.1 (by omega)); clear k1)
        | (go_at_call 91; (with_reducible refine HJ.out.mono ?_); rintro e w3 ⟨by_, iy, rfl, hh, hbx, hix, P3, pc3, k1, k2, k3, k4, k5⟩; have HS3 := Lib.hid (split_st k1 k2 k3); have HH3 := Lib.hid (And.intro hh (And.intro hbx (And.intro hix (And.intro k4 k5)))); clear hh hbx hix k1 k2 k3 k4 k5; have hne := HH.out; have n1 := HS2.out.2.2.2 bx hne.1.lt.1 hne.2.2.2.1; have n2 := HS2.out.2.2.2 ix hne.1.lt.2 hne.2.2.2.2; have hh2 := hne.1.keep HS2.out.2.2.1 (by omega) (by omega) hne.2.2.2.1 hne.2.2.2.2; have n3 := HS3.out.2.2.2 bx hh2.lt.1 n1; have n4 := HS3.out.2.2.2 ix hh2.lt.2 n2; have hh3 := hh2.keep HS3.out.2.2.1 (by omega) (by omega) n1 n2; have HHe := Lib.hid (here_any HS3.out.1 hh3 (i := q) (by omega) (by omega)); clear hne n1 n2 hh2 n3 n4 hh3)
        | (go_at_call 101; (with_reducible refine HHe.out.mono ?_); rintro e w4 ⟨rfl, k1, k2⟩; have HS4 := Lib.hid (And.intro k1 k2); have hb4 := ((HB.out.1.trans HS1.out.2.2.1.1).trans HS2.out.2.2.1.1).trans (HS3.out.2.2.1.1.trans k2.1); have HI := Lib.hid (HIH.out w4 P3 (q + 1 + cf 0 + 1) pc3 _ hb4 k1 (by omega)); clear hb4 k1 k2)
        | (go_at_call 67; (with_reducible refine HI.out.mono ?_); rintro e w5 ⟨rfl, P5, pc5, xs5, k1⟩; have HS5 := Lib.hid k1; have hne := HH3.out; have hs12 := HS1.out.2.2.1.2.1; have hs22 := HS2.out.2.2.1.2.1; have h4 := hne.1.keep HS4.out.2 (by omega) (by omega) hne.2.2.2.1 hne.2.2.2.2; have h5 := h4.keep k1.2.2.1 (by omega) (by omega) hne.2.2.2.1 hne.2.2.2.2; have HT5 := Lib.hid (there_any k1.1 h5 (i := q + 1 + cf 0) (by omega) (by omega)); clear hne h4 h5 k1 hs12 hs22)
        | (go_at_call 102; (with_reducible refine HT5.out.mono ?_); rintro e w6 ⟨rfl, k1, k2⟩; have HS6 := Lib.hid (And.intro k1 k2); clear k1 k2))
      go_end0
      have hs123 := (HS1.out.trans HS2.out).trans (by rw [← Nat.add_assoc]; exact HS3.out)
      have hs4 := hs123.turn (f := fun v => { v with y := ((q + 1 + cf 0 + 1 : Nat) : Int) }) (Nat.le_refl q) HXQ.out (fun v hv => hv.y (by omega)) (by rw [show q + (1 + cf 0 + 1) = q + 1 + cf 0 + 1 by omega]; exact HS4.out.1) (by rw [show q + (1 + cf 0 + 1) = q + 1 + cf 0 + 1 by omega]; exact HS4.out.2)
      have hs5 := hs4.trans (by rw [show q + (1 + cf 0 + 1) = q + 1 + cf 0 + 1 by omega]; exact HS5.out)
      exact ⟨rfl, P5, pc5, _, hs5.turn2 (i := q + 1 + cf 0) (f1 := fun v => { v with x := ((q + 1 + cf 0 + 1 + c' : Nat) : Int) }) (f2 := fun v => { v with y := ((q + 1 + cf 0 + 1 + c' : Nat) : Int) }) (by omega) HXQ.out (fun v hv => hv.x (by omega)) (fun v hv => hv.y (by omega)) (by rw [show q + (1 + cf 0 + 1 + c') = q + 1 + cf 0 + 1 + c' by omega]; exact HS6.out.1) (by rw [show q + (1 + cf 0 + 1 + c') = q + 1 + cf 0 + 1 + c' by omega]; exact HS6.out.2)⟩
end Go.Proofs.Ytegcebgoiocakaa
/- What a pattern's tree is. -/
namespace Go.Proofs.Ytegcebgoiocakaa
open Go Go.RowKit
set_option linter.unusedVariables false

/-- Trees that a pattern comes to. -/
def TreeOk : Wood → Prop
  | .nil => True
  | .cons op s mn mx k x => (op = 0 ∨ op = 1 ∨ op = 2 ∨ op = 3 ∨ op = 4 ∨ op = 5 ∨ op = 6) ∧ s.length ≤ 1000000 ∧ TreeOk k ∧ TreeOk x
theorem treeOk_nth : ∀ (T : Wood) (j : Nat), j < T.len → TreeOk T → TreeOk (T.nth j)
  | .nil, _, h, _ => by simp [Wood.len] at h
  | .cons op s mn mx k x, 0, _, h => ⟨h.1, h.2.1, h.2.2.1, trivial⟩
  | .cons op s mn mx k x, j + 1, h, hk => treeOk_nth x j (by simp only [Wood.len] at h; omega) hk.2.2.2
end Go.Proofs.Ytegcebgoiocakaa
/- The writer's trees, all of them: right instructions, so many. -/
namespace Go.Proofs.Ytegcebgoiocakaa
open Go Go.RowKit
set_option linter.unusedVariables false
set_option maxRecDepth 20000

/-- How many instructions a node comes to, by its kids' together. -/
def opCnt (op mn mx : Int) (n S : Nat) : Nat :=
  if op = 1 ∨ op = 2 ∨ op = 3 then 1 else if op = 4 then S else if op = 5 then S + 2 * (n - 1) else if op = 6 then oftC mn.toNat (max mx mn - mn).toNat S mx else 0
def cntW : Wood → Nat
  | .nil => 0
  | .cons op _ mn mx k x => opCnt op mn mx k.len (cntW k) + cntW x
theorem cnt_sum : ∀ (K : Wood), sumC (fun j => cntW (K.nth j)) K.len = cntW K
  | .nil => rfl
  | .cons op s mn mx k x => by
    rw [show (Wood.cons op s mn mx k x).len = x.len + 1 from by simp [Wood.len, Nat.add_comm], sumC_tail]
    have := cnt_sum x
    show cntW (.cons op s mn mx k .nil) + sumC (fun j => cntW (x.nth j)) x.len = _
    rw [this]
    simp only [cntW]
    omega
set_option maxHeartbeats 4000000 in
theorem tree_altY {B g c : Nat} {w0 : World} {A D : Option Addr} {ns cs nk ck : Nat} {mn mx : Int} (hBw : B ≤ w0.heap.size)
    (HR : AltY B g w0 (.slice D nk ck) c) : TreeY B g w0 (.agg #[.int .i64 5, .slice A ns cs, .int .i64 mn, .int .i64 mx, .slice D nk ck]) c := by
  intro w P q pc xs hb0 h hq
  have hgl := h.lt
  have hB : B ≤ w.heap.size := by have := h.hB; omega
  have HC := Lib.hid (HR (w.alloc (.cells #[.int .i64 5, .slice A ns cs, .int .i64 mn, .int .i64 mx, .slice D nk ck] 52)) P q pc xs (hb0.alloc (by have := hb0.size; omega) _) (h.below ((Below.refl _ _).alloc (Nat.le_refl _) _)) hq)
  have HB := Lib.hid hB
  clear h HR hB
  go_enter Try.func37, Try.ntmps37
  go_wp2_with (go_at_call 67; (with_reducible refine HC.out.mono ?_); rintro e w2 hv; have HV := Lib.hid hv; obtain ⟨rfl, -⟩ := hv)
  go_end0
  exact AddedY.behind HB.out ((Below.refl _ _).alloc (Nat.le_refl _) _) HV.out
set_option maxHeartbeats 4000000 in
theorem tree_repY {B g c : Nat} {w0 : World} {A D : Option Addr} {ns cs nk ck : Nat} {mn mx : Int} (hBw : B ≤ w0.heap.size)
    (HR : ∀ w P q pc xs, Below B w0 w → WrS B g w P q pc xs → q + c ≤ 20000 → Calls Try.prog 68 #[.pointer (some ⟨g, 0, none⟩), .agg #[.int .i64 6, .slice A ns cs, .int .i64 mn, .int .i64 mx, .slice D nk ck]] w (AddedY B g w P q pc xs c)) : TreeY B g w0 (.agg #[.int .i64 6, .slice A ns cs, .int .i64 mn, .int .i64 mx, .slice D nk ck]) c := by
  intro w P q pc xs hb0 h hq
  have hgl := h.lt
  have hB : B ≤ w.heap.size := by have := h.hB; omega
  have HC := Lib.hid (HR (w.alloc (.cells #[.int .i64 6, .slice A ns cs, .int .i64 mn, .int .i64 mx, .slice D nk ck] 52)) P q pc xs (hb0.alloc (by have := hb0.size; omega) _) (h.below ((Below.refl _ _).alloc (Nat.le_refl _) _)) hq)
  have HB := Lib.hid hB
  clear h HR hB
  go_enter Try.func37, Try.ntmps37
  go_wp2_with (go_at_call 68; (with_reducible refine HC.out.mono ?_); rintro e w2 hv; have HV := Lib.hid hv; obtain ⟨rfl, -⟩ := hv)
  go_end0
  exact AddedY.behind HB.out ((Below.refl _ _).alloc (Nat.le_refl _) _) HV.out
theorem tree_anyY {B g : Nat} {w0 : World} (hBw : B ≤ w0.heap.size) (N : Nat) : ∀ (T : Wood), T.size ≤ N → ∀ v, NodeIn (fun b => b < B) w0 v T → TreeOk T → LenOk T → TreeY B g w0 v (cntW T) := by
  induction N with
  | zero =>
    intro T hN v hv
    obtain ⟨op, s, mn, mx, k, A, D, ns, cs, nk, ck, rfl, _⟩ := hv
    simp [Wood.size] at hN
  | succ N ih =>
    intro T hN v hv hok hlo
    obtain ⟨op, s, mn, mx, k, A, D, ns, cs, nk, ck, rfl, rfl, hr, hk⟩ := hv
    have hsz : (Wood.cons op s mn mx k .nil).size = 1 + k.size := by simp [Wood.size]
    rw [hsz] at hN
    have hc : cntW (.cons op s mn mx k .nil) = opCnt op mn mx nk (cntW k) := by simp [cntW, hk.1]
    rw [hc]
    have hnk : nk ≤ 1000 := by have := hlo.1; have := hk.1; omega
    have kids : ∀ j, j < nk → ∀ v, NodeIn (fun b => b < B) w0 v (k.nth j) → TreeY B g w0 v (cntW (k.nth j)) := fun j hj v hv => by
      have hjl : j < k.len := by rw [hk.1]; exact hj
      exact ih (k.nth j) (by have := size_nth k j hjl; omega) v hv (treeOk_nth k j hjl hok.2.2.1) (lenOk_nth k j hjl hlo.2.2.2.1)
    have hsum : sumC (fun j => cntW (k.nth j)) nk = cntW k := by rw [← hk.1]; exact cnt_sum k
    have hrow : RowY B g w0 (.slice D nk ck) (cntW k) := by
      have := row_addsY (g := g) (ck := ck) hk hnk hBw (sumC fun j => cntW (k.nth j)) (sumC_mono _) rfl fun j hj v hv => by
        rw [show sumC (fun j => cntW (k.nth j)) (j + 1) - sumC (fun j => cntW (k.nth j)) j = cntW (k.nth j) by rw [sumC]; omega]
        exact kids j hj v hv
      rwa [hsum] at this
    rcases hok.1 with rfl | rfl | rfl | rfl | rfl | rfl | rfl
    · exact tree_emptyY hBw
    · exact tree_charY hr.1 (by have := hr.1.1.1; have := hok.2.1; omega) hBw
    · exact tree_beginY hBw
    · exact tree_endY hBw
    · exact tree_catY hBw hrow
    · have := alt_anyY hBw nk k D nk ck (fun j => cntW (k.nth j)) (Nat.le_refl _) hk hr.2 hnk kids
      rw [hsum] at this
      exact tree_altY hBw this
    · obtain ⟨h1, h2, h3⟩ := hlo.2.2.1 rfl
      obtain ⟨m, rfl⟩ : ∃ m : Nat, mn = (m : Int) := ⟨mn.toNat, by omega⟩
      obtain ⟨mo, hmo⟩ : ∃ mo : Nat, (mo : Int) = max mx (m : Int) - (m : Int) := ⟨(max mx (m : Int) - (m : Int)).toNat, by omega⟩
      have e : opCnt 6 (m : Int) mx nk (cntW k) = oftC m mo (cntW k) mx := by
        unfold opCnt
        rw [if_neg (by decide), if_neg (by decide), if_neg (by decide), if_pos rfl, ← hmo]
        rfl
      rw [e]
      exact tree_repY hBw fun w P q pc xs hb h hq => often_gen h m mo (by omega) (by omega) (by omega) hmo hq fun _ => fun w1 P1 q1 pc1 xs1 hb1 h1 hq1 => hrow w1 P1 q1 pc1 xs1 (hb.trans hb1) h1 hq1
end Go.Proofs.Ytegcebgoiocakaa
/- The program's lengths of trees. -/
namespace Go.Proofs.Ytegcebgoiocakaa
open Go Go.RowKit
set_option linter.unusedVariables false
set_option maxRecDepth 20000

def bigN : Nat := 1099511627776
theorem bigN_is : (bigN : Int) = 1099511627776 := rfl
set_option maxHeartbeats 4000000 in
theorem together_gen {B : Nat} {w0 : World} {D : Option Addr} {nk ck : Nat} {K : Wood} (hk : KidsAt (fun b => b < B) w0 D nk K) (hnk : nk ≤ 1000) (cf : Nat → Nat)
    (HT : ∀ j, j < nk → ∀ v, NodeIn (fun b => b < B) w0 v (K.nth j) → LenC B w0 v (min (cf j) bigN)) :
    ∀ w, Below B w0 w → B ≤ w.heap.size → Calls Try.prog 61 #[.slice D nk ck] w fun e w' => e = .returned (.int .i64 ((min (sumC cf nk) bigN : Nat) : Int)) ∧ Below w.heap.size w w' := by
  intro w hb0 hBw
  have HK := Lib.hid hk
  have HTr := Lib.hid HT
  have HB := Lib.hid (And.intro hb0 hBw)
  clear hk HT hb0 hBw
  go_enter Try.func61, Try.ntmps61
  go_wp2_with fail
  go_loopw [3, 8] (fun vs vi wr => ∃ (j S : Nat), vs = .int .i64 (S : Int) ∧ vi = .int .i64 (j : Int) ∧ j ≤ nk ∧ S ≤ 1099511627776 ∧ Hid (S = min (sumC cf j) bigN ∧ Below w.heap.size w wr)) (fun _ vi _ => nk - (match vi with | .int _ j => j.toNat | _ => 0))
  case atStart => exact ⟨0, 0, rfl, rfl, Nat.zero_le _, by omega, Lib.hid ⟨by simp [sumC], Below.refl _ _⟩⟩
  case round =>
    obtain ⟨j, S, rfl, rfl, hj, hS, H⟩ := hrel
    by_cases hlt : j < nk
    · have hbr : Below B w0 wr := HB.out.1.trans (H.out.2.mono HB.out.2)
      have hBr : B ≤ wr.heap.size := Nat.le_trans HB.out.2 H.out.2.size
      obtain ⟨b, o, op, mn, mx, A', D', ns, cs, nk', ck', rfl, hbB, hbl, c0, c1, c2, c3, c4, hin⟩ := kid_then HK.out hbr hlt
      obtain ⟨d, hd⟩ : ∃ d, d = min (cf j) bigN := ⟨_, rfl⟩
      have HC := HTr.out j hlt _ hin (wr.alloc (.cells #[.int .i64 op, .slice A' ns cs, .int .i64 mn, .int .i64 mx, .slice D' nk' ck'] 52)) (hbr.alloc hBr _) (by simp; omega)
      rw [← hd] at HC
      have HCH := Lib.hid HC
      have hd1 : d ≤ 1099511627776 := by rw [hd]; exact Nat.min_le_right _ _
      obtain ⟨Z, hZ⟩ : ∃ Z, Z = min (S + d) 1099511627776 := ⟨_, rfl⟩
      have hZ1 : Z ≤ 1099511627776 := by omega
      have hm1 : min ((S : Int) + (d : Int)) 1099511627776 = (Z : Int) := by omega
      have HCM := Lib.hid (show Z = min (sumC cf (j + 1)) bigN by have := H.out.1; unfold bigN at *; rw [sumC]; omega)
      have hw1 : IntKind.i64.wrap ((S : Int) + (d : Int)) = (S : Int) + (d : Int) := by rw [IntKind.wrap_i64]; omega
      clear hin HC hd hBr hbr hZ hbB
      go_wp2_with (go_at_call 36; (with_reducible refine HCH.out.mono ?_); rintro e w2 ⟨rfl, hb⟩; have HV := Lib.hid hb; clear hb)
      exact ⟨⟨j + 1, Z, rfl, rfl, hlt, hZ1, Lib.hid ⟨HCM.out, (H.out.2.alloc H.out.2.size _).trans (HV.out.mono (Nat.le_trans H.out.2.size (by simp)))⟩⟩, by show nk - ((j : Int) + 1).toNat < nk - (j : Int).toNat; omega⟩
    · obtain rfl : nk = j := by omega
      go_wp2
      go_ret
      rw [← H.out.1]
      exact ⟨rfl, H.out.2⟩
theorem over_iff {n L : Nat} (hL : 0 < L) : (1099511627776 / L < n) ↔ 1099511627776 < n * L := by
  rw [Nat.div_lt_iff_lt_mul hL]
theorem times_any (n L : Nat) (hn : n ≤ 2000) (hL : L ≤ 1099511627777) (w : World) : Calls Try.prog 63 #[.int .i64 (n : Int), .int .i64 (L : Int)] w fun e w' => e = .returned (.int .i64 ((min (n * L) bigN : Nat) : Int)) ∧ w = w' := by
  obtain ⟨R, hR⟩ : ∃ R, R = min (n * L) bigN := ⟨_, rfl⟩
  rw [← hR]
  by_cases h0 : 0 < L
  · have h0I : (0 : Int) < (L : Int) := by omega
    obtain ⟨Q, hQ⟩ : ∃ Q, Q = 1099511627776 / L := ⟨_, rfl⟩
    have hQI : (1099511627776 : Int).tdiv (L : Int) = (Q : Int) := by rw [hQ]; exact (Int.ofNat_tdiv 1099511627776 L).symm
    have hov := over_iff (n := n) h0
    rw [← hQ] at hov
    have hL0 : ((L : Int) == 0) = false := by simp; omega
    have hQb : (Q : Int) ≤ 1099511627776 := by have : Q ≤ 1099511627776 := by rw [hQ]; exact Nat.div_le_self _ _
                                               omega
    have hLn : (L : Int) ≠ 0 := by omega
    by_cases hgt : Q < n
    · have h1 : (Q : Int) < (n : Int) := by omega
      have hRb : R = 1099511627776 := by have := hov.1 hgt; rw [hR]; unfold bigN; omega
      subst hRb
      clear hR hov hQ hgt
      go_enter Try.func63, Try.ntmps63
      go_wp2_with fail
      go_ret
      exact ⟨rfl, rfl⟩
    · have h1 : ¬ (Q : Int) < (n : Int) := by omega
      have hnl : n * L ≤ 1099511627776 := by
        rcases Nat.lt_or_ge 1099511627776 (n * L) with h2 | h2
        · exact absurd (hov.2 h2) hgt
        · exact h2
      have hRb : R = n * L := by rw [hR]; unfold bigN; omega
      have hw : IntKind.i64.wrap ((n : Int) * (L : Int)) = (R : Int) := by
        rw [hRb, ← Int.natCast_mul, IntKind.wrap_i64]; omega
      have HRB := Lib.hid hRb
      clear hR hov hQ hgt hnl hRb
      go_enter Try.func63, Try.ntmps63
      go_wp2_with fail
      go_ret
      exact ⟨rfl, rfl⟩
  · have h0I : ¬ (0 : Int) < (L : Int) := by omega
    obtain rfl : L = 0 := by omega
    have hRb : R = 0 := by rw [hR]; simp
    subst hRb
    clear hR
    go_enter Try.func63, Try.ntmps63
    go_wp2_with fail
    go_ret
    exact ⟨rfl, rfl⟩
theorem len_op {B : Nat} {w0 : World} {op mn mx : Int} {A D : Option Addr} {ns cs nk ck : Nat} (h : op = 0 ∨ op = 2 ∨ op = 3) : LenC B w0 (.agg #[.int .i64 op, .slice A ns cs, .int .i64 mn, .int .i64 mx, .slice D nk ck]) (if op = 0 then 0 else 1) := by
  intro w hb hBw
  rcases h with rfl | rfl | rfl
  all_goals
    go_enter Try.func36, Try.ntmps36
    go_wp2
    go_ret
    exact ⟨rfl, (Below.refl _ _).alloc (Nat.le_refl _) _⟩
set_option maxHeartbeats 4000000 in
theorem len_alt {B S : Nat} {w0 : World} {A D : Option Addr} {ns cs nk ck : Nat} {mn mx : Int} (hnk : nk ≤ 1000) (hS : S ≤ 1099511627776) (hT : ∀ w, Below B w0 w → B ≤ w.heap.size → Calls Try.prog 61 #[.slice D nk ck] w fun e w' => e = .returned (.int .i64 (S : Int)) ∧ Below w.heap.size w w') : LenC B w0 (.agg #[.int .i64 5, .slice A ns cs, .int .i64 mn, .int .i64 mx, .slice D nk ck]) (min (S + 2 * (nk - 1)) bigN) := by
  intro w hb hBw
  have HT := Lib.hid (fun w2 (h2 : Below (w.alloc (.cells #[.int .i64 5, .slice A ns cs, .int .i64 mn, .int .i64 mx, .slice D nk ck] 52)).heap.size (w.alloc (.cells #[.int .i64 5, .slice A ns cs, .int .i64 mn, .int .i64 mx, .slice D nk ck] 52)) w2) => hT w2 ((hb.alloc hBw _).trans (h2.mono (by simp; omega))) (by have := h2.size; simp at this; omega))
  obtain ⟨R, hR⟩ : ∃ R, R = min (S + 2 * (nk - 1)) bigN := ⟨_, rfl⟩
  rw [← hR]
  obtain ⟨m, hm⟩ : ∃ m, m = nk - 1 := ⟨_, rfl⟩
  have hmm : max ((nk : Int) - 1) 0 = (m : Int) := by omega
  have hm1 : (m : Int) ≤ 1000 := by omega
  have hw0 : IntKind.i64.wrap ((nk : Int) - 1) = (nk : Int) - 1 := by rw [IntKind.wrap_i64]; omega
  have hw1 : IntKind.i64.wrap (2 * (m : Int)) = 2 * (m : Int) := by rw [IntKind.wrap_i64]; omega
  have hw2 : IntKind.i64.wrap ((S : Int) + 2 * (m : Int)) = (S : Int) + 2 * (m : Int) := by rw [IntKind.wrap_i64]; omega
  have hmin : min ((S : Int) + 2 * (m : Int)) 1099511627776 = (R : Int) := by rw [hR, ← hm]; unfold bigN; omega
  clear hT hR hm
  obtain ⟨X, hX⟩ : ∃ X, X = w.alloc (.cells #[.int .i64 5, .slice A ns cs, .int .i64 mn, .int .i64 mx, .slice D nk ck] 52) := ⟨_, rfl⟩
  rw [← hX] at HT
  have HT2 := Lib.hid fun w2 (h2 : Below X.heap.size X w2) => (HT.out w2 h2).mono (R' := fun e w' => e = .returned (.int .i64 (S : Int)) ∧ Below X.heap.size X w') fun e w' h => ⟨h.1, h2.trans (h.2.mono h2.size)⟩
  have hbx : X.heap[w.heap.size]? = some (.cells #[.int .i64 5, .slice A ns cs, .int .i64 mn, .int .i64 mx, .slice D nk ck] 52 (0, 0)) := by rw [hX]; exact heap_alloc_new w _
  have hbX : Below w.heap.size w X := by rw [hX]; exact (Below.refl _ _).alloc (Nat.le_refl _) _
  have HX := Lib.hid (And.intro hbX hX)
  have HY := Lib.hid fun v (h : Below X.heap.size X v) => box_facts ((h.block w.heap.size (Array.getElem?_eq_some_iff.1 hbx).1).trans hbx)
  obtain ⟨y0, y1, y2, y3, y4, -⟩ := box_facts hbx
  clear hbX hbx hX
  go_enter Try.func36, Try.ntmps36
  go_wp2_with fail
  rw [← HX.out.2]
  clear y0 y1 y2 y3 y4
  have z4 : ∀ v, Below X.heap.size X v → v.cell? ⟨w.heap.size, 4, none⟩ = some (.slice D nk ck) := fun v h => (HY.out v h).2.2.2.2.1
  have hr0 : Below X.heap.size X X.drew := (Below.refl _ _).drew
  go_region_held (fun w' => Below X.heap.size X w') (assumption) (first
    | (go_at_call 61; (with_reducible refine (HT2.out _ (by assumption)).mono ?_); rintro e w5 ⟨rfl, hb5⟩))
  all_goals
    (try go_wp2)
    go_ret
    exact ⟨rfl, HX.out.1.trans (Below.mono (by assumption) HX.out.1.size)⟩
theorem min_rep (C mn mo : Nat) : min (min (mn * min C bigN) bigN + min (mo * (min C bigN + 1)) bigN) bigN = min (mn * C + mo * (C + 1)) bigN := by
  rcases Nat.lt_or_ge bigN C with h | h
  · rw [Nat.min_eq_right (Nat.le_of_lt h)]
    rcases Nat.eq_zero_or_pos mn with rfl | hm
    · rcases Nat.eq_zero_or_pos mo with rfl | ho
      · simp
      · have h1 : 1 * (bigN + 1) ≤ mo * (bigN + 1) := Nat.mul_le_mul_right _ ho
        have h2 : 1 * (C + 1) ≤ mo * (C + 1) := Nat.mul_le_mul_right _ ho
        omega
    · have h1 : 1 * bigN ≤ mn * bigN := Nat.mul_le_mul_right _ hm
      have h2 : 1 * C ≤ mn * C := Nat.mul_le_mul_right _ hm
      omega
  · rw [Nat.min_eq_left h]; omega
theorem min_rep2 (C mn : Nat) : min (min (mn * min C bigN) bigN + min C bigN + 2) bigN = min (mn * C + (C + 2)) bigN := by
  rcases Nat.lt_or_ge bigN C with h | h
  · rw [Nat.min_eq_right (Nat.le_of_lt h)]; omega
  · rw [Nat.min_eq_left h]; omega
theorem castm (a L : Nat) : min (a : Int) (L : Int) = ((min a L : Nat) : Int) := by omega
theorem cast_min (a R : Nat) (h : R = min a 1099511627776) : min (a : Int) 1099511627776 = (R : Int) := by
  subst h
  exact castm a 1099511627776
set_option maxHeartbeats 4000000 in
theorem len_rep {B C mn mo : Nat} {w0 : World} {A D : Option Addr} {ns cs nk ck : Nat} {mx : Int} (hmn : mn ≤ 1000) (hmx : -1 ≤ mx) (hmx2 : mx ≤ 1000) (hmo : (mo : Int) = max mx (mn : Int) - (mn : Int)) (hT : ∀ w, Below B w0 w → B ≤ w.heap.size → Calls Try.prog 61 #[.slice D nk ck] w fun e w' => e = .returned (.int .i64 ((min C bigN : Nat) : Int)) ∧ Below w.heap.size w w') : LenC B w0 (.agg #[.int .i64 6, .slice A ns cs, .int .i64 (mn : Int), .int .i64 mx, .slice D nk ck]) (min (oftC mn mo C mx) bigN) := by
  intro w hb hBw
  have HT := Lib.hid (hT (w.alloc (.cells #[.int .i64 6, .slice A ns cs, .int .i64 (mn : Int), .int .i64 mx, .slice D nk ck] 52)) (hb.alloc hBw _) (by simp; omega))
  have HC := Lib.hid fun w' => counts_gen (A := A) (D := D) (ns := ns) (cs := cs) (nk := nk) (ck := ck) (op := 6) (mx := mx) mn mo hmn hmx hmx2 hmo w'
  obtain ⟨S, hS⟩ : ∃ S, S = min C bigN := ⟨_, rfl⟩
  rw [← hS] at HT
  have hS1 : S ≤ 1099511627776 := by rw [hS]; exact Nat.min_le_right _ _
  have hmo1 : mo ≤ 1000 := by omega
  obtain ⟨t1, ht1⟩ : ∃ t1, t1 = min (mn * S) bigN := ⟨_, rfl⟩
  obtain ⟨t2, ht2⟩ : ∃ t2, t2 = min (mo * (S + 1)) bigN := ⟨_, rfl⟩
  have b1 : t1 ≤ 1099511627776 := by rw [ht1]; exact Nat.min_le_right _ _
  have b2 : t2 ≤ 1099511627776 := by rw [ht2]; exact Nat.min_le_right _ _
  have T1 := Lib.hid fun w' => times_any mn S (by omega) (by omega) w'
  have T2 := Lib.hid fun w' => times_any mo (S + 1) (by omega) (by omega) w'
  rw [show ((S + 1 : Nat) : Int) = (S : Int) + 1 from rfl] at T2
  rw [← ht1] at T1
  rw [← ht2] at T2
  obtain ⟨R, hR⟩ : ∃ R, R = min (oftC mn mo C mx) bigN := ⟨_, rfl⟩
  rw [← hR]
  have hw0 : IntKind.i64.wrap ((S : Int) + 1) = (S : Int) + 1 := by rw [IntKind.wrap_i64]; omega
  by_cases hm0 : mx < 0
  · have hw1 : IntKind.i64.wrap ((t1 : Int) + (S : Int)) = (t1 : Int) + (S : Int) := by rw [IntKind.wrap_i64]; omega
    have hw2 : IntKind.i64.wrap ((t1 : Int) + (S : Int) + 2) = (t1 : Int) + (S : Int) + 2 := by rw [IntKind.wrap_i64]; omega
    have hmin : min ((t1 : Int) + (S : Int) + 2) 1099511627776 = (R : Int) := by
      have h7 := min_rep2 C mn
      rw [← hS, ← ht1] at h7
      have h8 : R = min (t1 + S + 2) bigN := by rw [hR, oftC, if_pos hm0]; exact h7.symm
      have h9 : bigN = 1099511627776 := rfl
      rw [h9] at h8
      exact cast_min (t1 + S + 2) R h8
    clear hT hS ht1 ht2 hR hmo hmx hmx2 hmn hw0
    go_enter Try.func36, Try.ntmps36
    go_wp2_with (first
      | (go_at_call 61; (with_reducible refine HT.out.mono ?_); rintro e w1 ⟨rfl, hb1⟩; have H1 := Lib.hid (((Below.refl w.heap.size w).alloc (Nat.le_refl _) (.cells #[.int .i64 6, .slice A ns cs, .int .i64 (mn : Int), .int .i64 mx, .slice D nk ck] 52)).trans (hb1.mono (by simp))); have HBx := Lib.hid (show w1.heap[w.heap.size]? = some (.cells #[.int .i64 6, .slice A ns cs, .int .i64 (mn : Int), .int .i64 mx, .slice D nk ck] 52 (0, 0)) from (hb1.block _ (by simp)).trans (heap_alloc_new w _)); obtain ⟨y0, y1, y2, y3, y4, yf⟩ := box_facts HBx.out; clear hb1)
      | (go_at_call 62; (with_reducible refine (HC.out _).mono ?_); rintro e w2 ⟨rfl, hb2⟩; have H2 := Lib.hid hb2; have z3 := ((hb2.cell (p := ⟨w.heap.size, 3, none⟩) (Array.getElem?_eq_some_iff.1 HBx.out).1).trans y3); clear hb2)
      | (go_at_call 63; first | ((with_reducible refine (T1.out _).mono ?_); rintro e w3 ⟨rfl, rfl⟩) | ((with_reducible refine (T2.out _).mono ?_); rintro e w3 ⟨rfl, rfl⟩)))
    all_goals
      go_ret
      exact ⟨rfl, H1.out.trans (H2.out.mono H1.out.size)⟩
  · have hw2 : IntKind.i64.wrap ((t1 : Int) + (t2 : Int)) = (t1 : Int) + (t2 : Int) := by rw [IntKind.wrap_i64]; omega
    have hmin : min ((t1 : Int) + (t2 : Int)) 1099511627776 = (R : Int) := by
      have h7 := min_rep C mn mo
      rw [← hS, ← ht1, ← ht2] at h7
      have h8 : R = min (t1 + t2) bigN := by rw [hR, oftC, if_neg hm0]; exact h7.symm
      have h9 : bigN = 1099511627776 := rfl
      rw [h9] at h8
      exact cast_min (t1 + t2) R h8
    clear hT hS ht1 ht2 hR hmo hmx hmx2 hmn
    go_enter Try.func36, Try.ntmps36
    go_wp2_with (first
      | (go_at_call 61; (with_reducible refine HT.out.mono ?_); rintro e w1 ⟨rfl, hb1⟩; have H1 := Lib.hid (((Below.refl w.heap.size w).alloc (Nat.le_refl _) (.cells #[.int .i64 6, .slice A ns cs, .int .i64 (mn : Int), .int .i64 mx, .slice D nk ck] 52)).trans (hb1.mono (by simp))); have HBx := Lib.hid (show w1.heap[w.heap.size]? = some (.cells #[.int .i64 6, .slice A ns cs, .int .i64 (mn : Int), .int .i64 mx, .slice D nk ck] 52 (0, 0)) from (hb1.block _ (by simp)).trans (heap_alloc_new w _)); obtain ⟨y0, y1, y2, y3, y4, yf⟩ := box_facts HBx.out; clear hb1)
      | (go_at_call 62; (with_reducible refine (HC.out _).mono ?_); rintro e w2 ⟨rfl, hb2⟩; have H2 := Lib.hid hb2; have z3 := ((hb2.cell (p := ⟨w.heap.size, 3, none⟩) (Array.getElem?_eq_some_iff.1 HBx.out).1).trans y3); clear hb2)
      | (go_at_call 63; first | ((with_reducible refine (T1.out _).mono ?_); rintro e w3 ⟨rfl, rfl⟩) | ((with_reducible refine (T2.out _).mono ?_); rintro e w3 ⟨rfl, rfl⟩)))
    all_goals
      go_ret
      exact ⟨rfl, H1.out.trans (H2.out.mono H1.out.size)⟩
/-- The program's length of any tree. -/
theorem len_anyP {B : Nat} {w0 : World} (N : Nat) : ∀ (T : Wood), T.size ≤ N → ∀ v, NodeIn (fun b => b < B) w0 v T → TreeOk T → LenOk T → LenC B w0 v (min (cntW T) bigN) := by
  induction N with
  | zero =>
    intro T hN v hv
    obtain ⟨op, s, mn, mx, k, A, D, ns, cs, nk, ck, rfl, _⟩ := hv
    simp [Wood.size] at hN
  | succ N ih =>
    intro T hN v hv hok hlo
    obtain ⟨op, s, mn, mx, k, A, D, ns, cs, nk, ck, rfl, rfl, hr, hk⟩ := hv
    have hsz : (Wood.cons op s mn mx k .nil).size = 1 + k.size := by simp [Wood.size]
    rw [hsz] at hN
    have hc : cntW (.cons op s mn mx k .nil) = opCnt op mn mx nk (cntW k) := by simp [cntW, hk.1]
    rw [hc]
    have hnk : nk ≤ 1000 := by have := hlo.1; have := hk.1; omega
    have hsum : sumC (fun j => cntW (k.nth j)) nk = cntW k := by rw [← hk.1]; exact cnt_sum k
    have hrow := together_gen (ck := ck) hk hnk (fun j => cntW (k.nth j)) fun j hj v hv => by
      have hjl : j < k.len := by rw [hk.1]; exact hj
      exact ih (k.nth j) (by have := size_nth k j hjl; omega) v hv (treeOk_nth k j hjl hok.2.2.1) (lenOk_nth k j hjl hlo.2.2.2.1)
    rw [hsum] at hrow
    rcases hok.1 with rfl | rfl | rfl | rfl | rfl | rfl | rfl
    · exact len_op (.inl rfl)
    · exact len_char _ _ _ _ _ _ _ _ _ _
    · exact len_op (.inr (.inl rfl))
    · exact len_op (.inr (.inr rfl))
    · exact len_cat hrow
    · have e : min (opCnt 5 mn mx nk (cntW k)) bigN = min (min (cntW k) bigN + 2 * (nk - 1)) bigN := by
        unfold opCnt
        rw [if_neg (by decide), if_neg (by decide), if_pos rfl]
        omega
      rw [e]
      exact len_alt hnk (Nat.min_le_right _ _) hrow
    · obtain ⟨h1, h2, h3⟩ := hlo.2.2.1 rfl
      obtain ⟨m, rfl⟩ : ∃ m : Nat, mn = (m : Int) := ⟨mn.toNat, by omega⟩
      obtain ⟨mo, hmo⟩ : ∃ mo : Nat, (mo : Int) = max mx (m : Int) - (m : Int) := ⟨(max mx (m : Int) - (m : Int)).toNat, by omega⟩
      have e : opCnt 6 (m : Int) mx nk (cntW k) = oftC m mo (cntW k) mx := by
        unfold opCnt
        rw [if_neg (by decide), if_neg (by decide), if_neg (by decide), if_pos rfl, ← hmo]
        rfl
      rw [e]
      exact len_rep (by omega) (by omega) (by omega) hmo hrow
end Go.Proofs.Ytegcebgoiocakaa
