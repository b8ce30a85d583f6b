/- Texts. -/
import Derived.Test.YtaapbmdojkjphaaGreatZ03
import Derived.Test.YtaapbmdojkjphaaGreatZ04
import Derived.Test.YtaapbmdojkjphaaGreatZ06
import Derived.Test.YtaapbmdojkjphaaGreatZ07
import Derived.Test.YtaapbmdojkjphaaGreatZ11
import Derived.OwnWalk
import Derived.LoopN
import Derived.Laws.ResultCell
import Derived.BigQuiet
namespace Go.Proofs.YtaapbmdojkjphaaGreat
open Go Go.RowKit
set_option linter.unusedVariables false
set_option maxRecDepth 20000
theorem rowsame_len {f : Nat → List InstL} {c : Nat} (hf : ∀ q, (f q).length = c) : ∀ {j q : Nat}, (rowCode (fun _ => f) j q).length = j * c
  | 0, q => by simp [rowCode]
  | j + 1, q => by rw [rowCode, List.length_append, rowsame_len hf, hf, Nat.succ_mul]
def starCode (f : Nat → List InstL) (mn : Nat) (q : Nat) : List InstL := rowCode (fun _ => f) mn q ++ loopCode f (q + (rowCode (fun _ => f) mn q).length)
set_option maxHeartbeats 8000000 in
theorem often_starX {B g q pc c : Nat} {w : World} {P : Option Addr} {xs : List IV} (h : WrS B g w P q pc xs) {A D : Option Addr} {ns cs nk ck : Nat} {op : Int} (mn : Nat) (hmn : mn ≤ 1000) (f : Nat → List InstL) (hf : ∀ q, (f q).length = c) (hc : 1 ≤ c) (hq : q + (mn * c + (c + 2)) ≤ 20000) (HR : RowX B g w (.slice D nk ck) f) :
    Calls Tryz.prog 70 #[.pointer (some ⟨g, 0, none⟩), .agg #[.int .i64 op, .slice A ns cs, .int .i64 (mn : Int), .int .i64 (-1), .slice D nk ck]] w (AddedX B g w P q pc xs (starCode f mn q)) := by
  obtain ⟨mx, hmx⟩ : ∃ mx : Int, mx = -1 := ⟨_, rfl⟩
  rw [← hmx]
  have hgl := h.lt
  have hBw : B ≤ w.heap.size := by have := h.hB; omega
  have HCo := Lib.hid fun w' => counts_exact (A := A) (D := D) (ns := ns) (cs := cs) (nk := nk) (ck := ck) (op := op) (mx := mx) mn hmn (by omega) (by omega) w'
  have HRo := Lib.hid HR
  have HS := Lib.hid h
  have HB := Lib.hid hBw
  have HX := Lib.hid hmx
  have HFl := Lib.hid hf
  have HQ := Lib.hid (And.intro hq hc)
  clear h HR hq hBw hf hmx
  go_enter Tryz.func70, Tryz.ntmps70
  go_wp2_with (go_at_call 64; (with_reducible refine (HCo.out _).mono ?_); rintro e w1 ⟨rfl, hb⟩; have HB1 := Lib.hid (((Below.refl w.heap.size w).alloc (Nat.le_refl _) (.cells #[.int .i64 op, .slice A ns cs, .int .i64 (mn : Int), .int .i64 mx, .slice D nk ck] 27)).trans (hb.mono (by simp))); have HBx := Lib.hid (show w1.heap[w.heap.size]? = some (.cells #[.int .i64 op, .slice A ns cs, .int .i64 (mn : Int), .int .i64 mx, .slice D nk ck] 27 (0, 0)) from (hb.block _ (by simp)).trans (heap_alloc_new w _)); clear hb)
  go_loopw [6, 16] (fun vb vi wr => ∃ (j pc' : Nat) (P' : Option Addr) (xs' : List IV), vi = .int .i64 (j : Int) ∧ j ≤ mn ∧ Hid (codes xs' = codes xs ++ rowCode (fun _ => f) j q ∧ WrS B g wr P' (q + j * c) pc' xs' ∧ Wk B g (.slice P q pc) w wr ∧ Vk w (.slice P q pc) (.slice P' (q + j * c) pc') ∧ wr.heap[w.heap.size]? = some (.cells #[.int .i64 op, .slice A ns cs, .int .i64 (mn : Int), .int .i64 mx, .slice D nk ck] 27 (0, 0)) ∧ (Value.slice P' (q + j * c) pc').ownBlock ≠ some w.heap.size)) (fun _ vi _ => mn - (match vi with | .int _ j => j.toNat | _ => 0))
  case atStart =>
    refine ⟨0, pc, P, xs, rfl, Nat.zero_le _, Lib.hid ?_⟩
    rw [Nat.zero_mul, Nat.add_zero]
    exact ⟨(List.append_nil _).symm, HS.out.below HB1.out, Wk.of_below HB.out HB1.out, Vk.refl _ _, HBx.out, fun e => by have := (row_lt HS.out.row e).2; omega⟩
  case round =>
    obtain ⟨j, pc', P', xs', rfl, hj, H0⟩ := hrel
    have H := Lib.hid H0.out.2
    have HK := Lib.hid H0.out.1
    clear H0
    obtain ⟨y0, y1, y2, y3, y4, yf⟩ := box_facts H.out.2.2.2.1
    have g1 : wr.cell? ⟨g, 0, none⟩ = some (.slice P' (q + j * c) pc') := cell_of_row wr g 0 _ _ (0, 0) H.out.1.hg
    by_cases hlt : j < mn
    · have hjc : j * c + c ≤ mn * c := by have := Nat.mul_le_mul_right c hlt; rw [Nat.succ_mul] at this; exact this
      have HJ := Lib.hid hjc
      obtain ⟨z, hz⟩ : ∃ z, z = q + j * c := ⟨_, rfl⟩
      rw [← hz] at g1
      have HZ := Lib.hid hz
      have HC := Lib.hid (show Calls Tryz.prog 68 #[.pointer (some ⟨g, 0, none⟩), .slice D nk ck] wr (fun e w' => e = .returned (.tuple #[]) ∧ ∃ P2 pc2 xs2, WrS B g w' P2 (z + c) pc2 xs2 ∧ codes xs2 = codes xs' ++ f z ∧ Wk B g (.slice P' z pc') wr w' ∧ Vk wr (.slice P' z pc') (.slice P2 (z + c) pc2)) from by
        have hq := HQ.out.1
        rw [hz]
        have := HRo.out wr P' (q + j * c) pc' xs' H.out.2.1.1 H.out.1 (by rw [HFl.out]; omega)
        unfold AddedX at this
        rwa [HFl.out] at this)
      have n1 : (((z + c : Nat) : Int) == (z : Int)) = false := by simp; omega
      have n2 : ((z : Int) + (c : Int) == (z : Int)) = false := by simp; omega
      have h00 : (j : Int) < (mn : Int) := by omega
      clear hz hjc y0 y1 y2 y3 yf
      go_wp2_with (go_at_call 68; (with_reducible refine HC.out.mono ?_); rintro e w2 ⟨rfl, P2, pc2, xs2, k1, kc, k2, k3⟩; have HV := Lib.hid (And.intro k1 (And.intro k2 k3)); have HKC := Lib.hid kc; have g2 : w2.cell? ⟨g, 0, none⟩ = some (.slice P2 (z + c) pc2) := cell_of_row w2 g 0 _ _ (0, 0) k1.hg; clear k1 kc k2 k3)
      have hz := HZ.out
      have hzq : q + (j + 1) * c = z + c := by rw [hz, Nat.succ_mul]; omega
      have hbl : w.heap.size < wr.heap.size := (Array.getElem?_eq_some_iff.1 H.out.2.2.2.1).1
      have hH := H.out
      rw [← hz] at hH
      refine ⟨⟨j + 1, pc2, P2, xs2, rfl, hlt, Lib.hid ?_⟩, by show mn - ((j : Int) + 1).toNat < mn - (j : Int).toNat; omega⟩
      rw [hzq]
      exact ⟨by rw [HKC.out, HK.out, List.append_assoc, rowCode, rowsame_len HFl.out, ← hz], HV.out.1, hH.2.1.trans hH.2.2.1 HV.out.2.1, hH.2.2.1.trans hH.2.1.2.1 HV.out.2.2, (HV.out.2.1.2.2 _ hbl (by omega) hH.2.2.2.2).trans hH.2.2.2.1, HV.out.2.2 _ hbl hH.2.2.2.2⟩
    · obtain rfl : j = mn := by omega
      obtain rfl := HX.out
      have HLo := Lib.hid (loop_anyX (v := .slice D nk ck) f H.out.1 (by rw [HFl.out]; have := HQ.out.1; omega) fun w1 P1 q1 pc1 xs1 hb1 h1 => HRo.out w1 P1 q1 pc1 xs1 (H.out.2.1.1.trans hb1) h1)
      clear HX HCo
      go_wp2_with (go_at_call 106; (with_reducible refine HLo.out.mono ?_); rintro e w2 ⟨rfl, P2, pc2, xs2, k1, kc, k2, k3⟩; have HV := Lib.hid (And.intro k1 (And.intro k2 (And.intro k3 kc))); clear k1 k2 k3 kc)
      first | go_end0 | go_ret | (refine bodyPost_ret (results_none rfl _ _ _) rfl ?_)
      have hl : (starCode f j q).length = j * c + (loopCode f (q + j * c)).length := by rw [starCode, List.length_append, rowsame_len HFl.out]
      exact ⟨rfl, P2, pc2, xs2, by rw [hl, ← Nat.add_assoc]; exact HV.out.1, by rw [HV.out.2.2.2, HK.out, List.append_assoc, starCode, rowsame_len HFl.out], H.out.2.1.trans H.out.2.2.1 HV.out.2.1, by rw [hl, ← Nat.add_assoc]; exact H.out.2.2.1.trans H.out.2.1.2.1 HV.out.2.2.1⟩
set_option maxHeartbeats 4000000 in
theorem tree_catX {B g : Nat} {w0 : World} {A D : Option Addr} {ns cs nk ck : Nat} {mn mx : Int} (hBw : B ≤ w0.heap.size)
    {f : Nat → List InstL} (HR : RowX B g w0 (.slice D nk ck) f) : TreeX B g w0 (.agg #[.int .i64 4, .slice A ns cs, .int .i64 mn, .int .i64 mx, .slice D nk ck]) f := by
  intro w P q pc xs hb0 h hq
  have hgl := h.lt
  have hB : B ≤ w.heap.size := by have := h.hB; omega
  have HC := Lib.hid (HR (w.alloc (.cells #[.int .i64 4, .slice A ns cs, .int .i64 mn, .int .i64 mx, .slice D nk ck] 27)) P q pc xs (hb0.alloc (by have := hb0.size; omega) _) (h.below ((Below.refl _ _).alloc (Nat.le_refl _) _)) hq)
  have HB := Lib.hid hB
  clear h HR hB
  go_enter Tryz.func40, Tryz.ntmps40
  go_wp2_with (go_at_call 68; (with_reducible refine HC.out.mono ?_); rintro e w2 hv; have HV := Lib.hid hv; obtain ⟨rfl, -⟩ := hv)
  go_end0
  exact AddedX.behind HB.out ((Below.refl _ _).alloc (Nat.le_refl _) _) HV.out
set_option maxHeartbeats 4000000 in
theorem tree_repX {B g : Nat} {w0 : World} {A D : Option Addr} {ns cs nk ck : Nat} {mn mx : Int} (hBw : B ≤ w0.heap.size)
    {f : Nat → List InstL} (HR : ∀ w P q pc xs, Below B w0 w → WrS B g w P q pc xs → q + (f q).length ≤ 20000 → Calls Tryz.prog 70 #[.pointer (some ⟨g, 0, none⟩), .agg #[.int .i64 6, .slice A ns cs, .int .i64 mn, .int .i64 mx, .slice D nk ck]] w (AddedX B g w P q pc xs (f q))) : TreeX B g w0 (.agg #[.int .i64 6, .slice A ns cs, .int .i64 mn, .int .i64 mx, .slice D nk ck]) f := by
  intro w P q pc xs hb0 h hq
  have hgl := h.lt
  have hB : B ≤ w.heap.size := by have := h.hB; omega
  have HC := Lib.hid (HR (w.alloc (.cells #[.int .i64 6, .slice A ns cs, .int .i64 mn, .int .i64 mx, .slice D nk ck] 27)) P q pc xs (hb0.alloc (by have := hb0.size; omega) _) (h.below ((Below.refl _ _).alloc (Nat.le_refl _) _)) hq)
  have HB := Lib.hid hB
  clear h HR hB
  go_enter Tryz.func40, Tryz.ntmps40
  go_wp2_with (go_at_call 70; (with_reducible refine HC.out.mono ?_); rintro e w2 hv; have HV := Lib.hid hv; obtain ⟨rfl, -⟩ := hv)
  go_end0
  exact AddedX.behind HB.out ((Below.refl _ _).alloc (Nat.le_refl _) _) HV.out
end Go.Proofs.YtaapbmdojkjphaaGreat
namespace Go.Proofs.YtaapbmdojkjphaaGreat
open Go Go.RowKit
set_option linter.unusedVariables false
set_option maxRecDepth 20000
theorem WrS.insF {B g q pc : Nat} {w : World} {P : Option Addr} {xs : List IV} (h : WrS B g w P q pc xs) (hs : ∀ v ∈ codes xs, v.set.length ≤ 2000000) : InsF (fun b => B ≤ b ∧ b ≠ g) w P q xs := by
  refine ⟨h.len, fun hn => ?_, fun v hv => ⟨(h.sets v hv).move (Nat.le_refl _) fun b hF _ => ⟨⟨hF.1, hF.2.1⟩, rfl⟩, ?_⟩⟩
  · obtain ⟨b, x, hP, hB, hlt, hne, _⟩ := h.at hn
    refine ⟨b, 0, hP, ⟨hB, hne⟩, hlt, fun j v hv k u hu => ?_⟩
    have hj : j < q := by have := (List.getElem?_eq_some_iff.1 hv).1; rw [h.len] at this; exact this
    obtain ⟨b', x', hP', _, _, _, hx', hc, _⟩ := h.at hj
    rw [hP] at hP'
    injection hP' with e
    injection e with e _
    subst e
    rw [hv] at hx'
    injection hx' with e
    subst e
    rw [Nat.zero_add]
    exact hc k u hu
  · have := (h.sets v hv).1.1
    have := hs v.i (List.mem_map_of_mem hv)
    omega
theorem make_doneX {k : Nat} {w w1 w2 : World} {x : NV} (h1 : Below w.heap.size w w1) (hx : w1.heap[w.heap.size]? = some (.cells #[.int .i64 x.op, .slice x.A x.ns x.cs, .int .i64 x.mn, .int .i64 x.mx, .slice x.D x.nk x.ck] 27 (0, 0))) (hown : w2.ownsRow w.heap.size 89 4 (.slice (some ⟨w1.heap.size, 0, none⟩) 0 k) 0 []) (hg : w1.grownBy w2 none) :
    Below w.heap.size w (w2.alloc (.cells #[.slice (some ⟨w1.heap.size, 0, none⟩) 0 k] 86)) ∧ WrS w.heap.size w2.heap.size (w2.alloc (.cells #[.slice (some ⟨w1.heap.size, 0, none⟩) 0 k] 86)) (some ⟨w1.heap.size, 0, none⟩) 0 k [] ∧
    ((∀ o, (w2.alloc o).cell? ⟨w.heap.size, 0, none⟩ = some (.int .i64 x.op)) ∧ (∀ o, (w2.alloc o).cell? ⟨w.heap.size, 1, none⟩ = some (.slice x.A x.ns x.cs)) ∧ (∀ o, (w2.alloc o).cell? ⟨w.heap.size, 2, none⟩ = some (.int .i64 x.mn)) ∧ (∀ o, (w2.alloc o).cell? ⟨w.heap.size, 3, none⟩ = some (.int .i64 x.mx)) ∧ (∀ o, (w2.alloc o).cell? ⟨w.heap.size, 4, none⟩ = some (.slice x.D x.nk x.ck))) := by
  have hl := row_lt hown (k := w1.heap.size) rfl
  have hx2 : w2.heap[w.heap.size]? = some (.cells #[.int .i64 x.op, .slice x.A x.ns x.cs, .int .i64 x.mn, .int .i64 x.mx, .slice x.D x.nk x.ck] 27 (0, 0)) := (hg.block _ (Array.getElem?_eq_some_iff.1 hx).1 (by simp)).trans hx
  have hb2 : Below w.heap.size w w2 := h1.grown hg h1.size (by intro k hk; cases hk)
  have F := fun o => box_facts (NodeAl hx2 o)
  refine ⟨hb2.alloc hb2.size _, ⟨heap_alloc_new w2 _, hb2.size, ownN_old hown, fun e => ?_, fun x hx => by cases hx⟩, fun o => (F o).1, fun o => (F o).2.1, fun o => (F o).2.2.1, fun o => (F o).2.2.2.1, fun o => (F o).2.2.2.2.1⟩
  have e : some w1.heap.size = some w2.heap.size := e
  injection e with e
  omega
set_option maxHeartbeats 4000000 in
theorem compile_X {w : World} {x : NV} {c : Nat} {f : Nat → List InstL} (hcl : (f 0).length = c) (hc : c ≤ 1000) (hset : ∀ v ∈ f 0, v.set.length ≤ 2000000) (hL : LenC w.heap.size w x.val c) (hT : ∀ g, TreeX w.heap.size g w x.val f) : Calls Tryz.prog 20 #[.agg #[.int .i64 x.op, .slice x.A x.ns x.cs, .int .i64 x.mn, .int .i64 x.mx, .slice x.D x.nk x.ck]] w fun e w' => ∃ P pc l, e = .returned (.tuple #[.slice P (c + 1) pc, .int .i64 0]) ∧ InsF (fun b => w.heap.size ≤ b) w' P (c + 1) l ∧ codes l = f 0 ++ [⟨0, [], 0, 0⟩] ∧ Below w.heap.size w w' := by
  have HL := Lib.hid (show ∀ w1, Below w.heap.size w w1 → w.heap.size ≤ w1.heap.size → Calls Tryz.prog 39 #[.agg #[.int .i64 x.op, .slice x.A x.ns x.cs, .int .i64 x.mn, .int .i64 x.mx, .slice x.D x.nk x.ck]] w1 fun e w' => e = .returned (.int .i64 (c : Int)) ∧ Below w1.heap.size w1 w' from hL)
  have HT := Lib.hid (show ∀ g w1 P pc xs, Below w.heap.size w w1 → WrS w.heap.size g w1 P 0 pc xs → Calls Tryz.prog 40 #[.pointer (some ⟨g, 0, none⟩), .agg #[.int .i64 x.op, .slice x.A x.ns x.cs, .int .i64 x.mn, .int .i64 x.mx, .slice x.D x.nk x.ck]] w1 (fun e w' => e = .returned (.tuple #[]) ∧ ∃ P' pc' xs', WrS w.heap.size g w' P' c pc' xs' ∧ codes xs' = codes xs ++ f 0 ∧ Wk w.heap.size g (.slice P 0 pc) w1 w' ∧ Vk w1 (.slice P 0 pc) (.slice P' c pc')) from fun g w1 P pc xs hb h => by
    have := hT g w1 P 0 pc xs hb h (by omega)
    unfold AddedX at this
    rwa [hcl, Nat.zero_add] at this)
  have HF := Lib.hid (And.intro hcl hset)
  obtain ⟨i0, hi, hz0, hz1, hz2⟩ := info_parts info_inst
  have hc0 : ¬ (c : Int) ≥ 2000 := by omega
  have hcw : IntKind.i64.wrap ((c : Int) + 1) = (c : Int) + 1 := by rw [IntKind.wrap_i64]; omega
  clear hL hT hcl hset
  go_enter Tryz.func20, Tryz.ntmps20
  go_wp2_with (first
    | (go_at_call 39; (with_reducible refine (HL.out _ ((Below.refl _ _).alloc (Nat.le_refl _) _) (by simp)).mono ?_); rintro e w1 ⟨rfl, hb1⟩; have HX := Lib.hid (show w1.heap[w.heap.size]? = some (.cells #[.int .i64 x.op, .slice x.A x.ns x.cs, .int .i64 x.mn, .int .i64 x.mx, .slice x.D x.nk x.ck] 27 (0, 0)) from (hb1.block _ (by simp)).trans (heap_alloc_new w _)); have H1 := Lib.hid (((Below.refl w.heap.size w).alloc (Nat.le_refl _) (.cells #[.int .i64 x.op, .slice x.A x.ns x.cs, .int .i64 x.mn, .int .i64 x.mx, .slice x.D x.nk x.ck] 27)).trans (hb1.mono (by simp))); clear hb1)
    | (at_make; refine wpList_make_own _ rfl _ _ 58 rfl w.heap.size 89 i0 _ 4 Tryz.underlying58 hi hz0 hz1 .i64 .i64 (c + 1) (c + 1) rfl rfl rfl (by rw [hz2]; omega) (by unfold maxLen; omega) H1.out.size ?_; intro w2 hown hgrow; have H2 := Lib.hid (make_doneX H1.out HX.out hown hgrow); obtain ⟨y0, y1, y2, y3, y4⟩ := H2.out.2.2; clear hown hgrow)
    | (go_at_call 40; (with_reducible refine (HT.out _ _ _ _ _ H2.out.1 H2.out.2.1).mono ?_); rintro e w4 ⟨rfl, P', pc', xs', k1, kc, k2, k3⟩; have HS := Lib.hid k1; have HB := Lib.hid (H2.out.1.trans k2.1); have g1 : w4.cell? ⟨w2.heap.size, 0, none⟩ = some (.slice P' c pc') := cell_of_row w4 _ 0 _ _ (0, 0) k1.hg; obtain ⟨P5, pc5, w5, ha, _, _, _, _, hwr5, _, _, hk5⟩ := (HS.out.below ((Below.refl w4.heap.size w4).alloc (Nat.le_refl _) (.cells #[.int .i64 0, .slice none 0 0, .int .i64 0, .int .i64 0] 89))).push (x := ⟨⟨0, [], 0, 0⟩, none, 0, 0⟩) (d := w4.heap.size) (heap_alloc_new w4 _) (rowF_nil _ _) (by omega); have HA := Lib.hid (show (Builtin.append_ #[58, 58] 58 #[.slice P' c pc', .slice (some ⟨w4.heap.size, 0, none⟩) 1 1]).run Tryz.prog (w4.alloc (.cells #[.int .i64 0, .slice none 0 0, .int .i64 0, .int .i64 0] 89)) = .ok (.slice P5 (c + 1) pc5) w5 from ha); have HK5 := Lib.hid ((HB.out.alloc HB.out.size (.cells #[.int .i64 0, .slice none 0 0, .int .i64 0, .int .i64 0] 89)).trans hk5); have HI5 := Lib.hid (And.intro hwr5 kc); clear k1 kc k2 k3 ha hk5 hwr5)
    | (at_builtin; refine wpList_append_run rfl _ _ 58 rfl rfl _ _ _ _ rfl rfl HA.out ?_))
  go_ret2
  have hcod : codes (xs' ++ [⟨⟨0, [], 0, 0⟩, none, 0, 0⟩]) = f 0 ++ [⟨0, [], 0, 0⟩] := by rw [codes_app, HI5.out.2]; rfl
  refine ⟨P5, pc5, _, rfl, ?_, hcod, HK5.out⟩
  have := (HI5.out.1.insF (fun v hv => by
    rw [hcod] at hv
    rcases List.mem_append.1 hv with hv | hv
    · exact HF.out.2 v hv
    · rw [List.mem_singleton] at hv; subst hv; decide)).keep (w' := w5) (by simp) fun b hF _ => (Below.heap_setCell _ _ _ _ hF.2).symm
  exact this.mono fun b hF _ => hF.1
def charF (s : List (Int × Int)) (q : Nat) : List InstL := [⟨1, s, (q : Int) + 1, 0⟩]
theorem kid_charX {B g : Nat} {w0 : World} (hBw : B ≤ w0.heap.size) {s : List (Int × Int)} (hs : s.length ≤ 1000) {v : Value} (h : NodeIn (fun b => b < B) w0 v (leaf 1 s)) : TreeX B g w0 v (charF s) := by
  obtain ⟨op, s', mn, mx, k, A, D, ns, cs, nk, ck, e, rfl, hr, hk⟩ := h
  injection e with e1 e2 e3 e4 e5 _
  subst e1; subst e2
  exact tree_charX hr.1 (by have := hr.1.1.1; omega) hBw
end Go.Proofs.YtaapbmdojkjphaaGreat
namespace Go.Proofs.YtaapbmdojkjphaaGreat
open Go Go.RowKit
set_option linter.unusedVariables false
def plainI : Nat → List Int → List InstL
  | _, [] => []
  | q, c :: l => ⟨1, [(c, c)], (q : Int) + 1, 0⟩ :: plainI (q + 1) l
theorem plainI_len : ∀ (l : List Int) (q : Nat), (plainI q l).length = l.length
  | [], _ => rfl
  | c :: l, q => by simp [plainI, plainI_len l]
theorem plainI_app : ∀ (a b : List Int) (q : Nat), plainI q (a ++ b) = plainI q a ++ plainI (q + a.length) b
  | [], b, q => rfl
  | c :: a, b, q => by
    rw [List.cons_append, plainI, plainI_app a b (q + 1), plainI, List.cons_append, List.length_cons, show q + 1 + a.length = q + (a.length + 1) by omega]
theorem plainI_at : ∀ (l : List Int) (q i : Nat), (plainI q l)[i]? = (l[i]?).map fun c => ⟨1, [(c, c)], ((q + i : Nat) : Int) + 1, 0⟩
  | [], _, _ => by simp [plainI]
  | c :: l, q, 0 => by simp [plainI]
  | c :: l, q, i + 1 => by
    rw [plainI, List.getElem?_cons_succ, plainI_at l (q + 1) i, List.getElem?_cons_succ]
    congr 2
    funext x
    rw [show q + 1 + i = q + (i + 1) by omega]
def plainP (l : List Int) : List InstL := plainI 0 l ++ [⟨0, [], 0, 0⟩]
theorem row_plain (l : List Int) (q : Nat) : ∀ j, j ≤ l.length → rowCode (fun i => charF [(l.getD i 0, l.getD i 0)]) j q = plainI q (l.take j)
  | 0, _ => rfl
  | j + 1, h => by
    obtain ⟨c, hc⟩ : ∃ c, l[j]? = some c := ⟨_, List.getElem?_eq_getElem (by omega)⟩
    rw [rowCode, row_plain l q j (by omega), List.take_add_one, hc, plainI_app, plainI_len]
    have : l.getD j 0 = c := by rw [List.getD, hc]; rfl
    rw [this]
    rfl
def hitAt (cs rs : List Int) (k : Nat) : Bool := (rs.drop k).take cs.length == cs
theorem hit_iff {cs rs : List Int} {k : Nat} : hitAt cs rs k = true ↔ ∀ i, i < cs.length → rs[k + i]? = cs[i]? := by
  unfold hitAt
  rw [beq_iff_eq]
  constructor
  · intro h i hi
    have := congrArg (fun l => l[i]?) h
    simp only [List.getElem?_take_of_lt hi, List.getElem?_drop] at this
    exact this
  · intro h
    apply List.ext_getElem?
    intro i
    rcases Nat.lt_or_ge i cs.length with hi | hi
    · rw [List.getElem?_take_of_lt hi, List.getElem?_drop]; exact h i hi
    · rw [List.getElem?_eq_none (by simp; omega), List.getElem?_eq_none hi]
theorem plainP_at {cs : List Int} {i : Nat} {v : InstL} (h : (plainP cs)[i]? = some v) : (∃ c, cs[i]? = some c ∧ v = ⟨1, [(c, c)], (i : Int) + 1, 0⟩) ∨ (i = cs.length ∧ v = ⟨0, [], 0, 0⟩) := by
  unfold plainP at h
  rcases Nat.lt_or_ge i cs.length with hi | hi
  · rw [List.getElem?_append_left (by rw [plainI_len]; exact hi), plainI_at] at h
    obtain ⟨c, hc, e⟩ := Option.map_eq_some_iff.1 h
    exact .inl ⟨c, hc, by rw [← e, Nat.zero_add]⟩
  · rw [List.getElem?_append_right (by rw [plainI_len]; exact hi), plainI_len] at h
    have h0 : i - cs.length = 0 := by
      rcases Nat.eq_zero_or_pos (i - cs.length) with h0 | h0
      · exact h0
      · rw [List.getElem?_eq_none (by simp; omega)] at h; cases h
    rw [h0] at h
    injection h with h
    exact .inr ⟨by omega, h.symm⟩
theorem hasL_point {c r : Int} (hc : isI c = true) : hasL [(c, c)] r = true ↔ r = c := by
  rw [hasL_iff]
  constructor
  · rintro ⟨p, hp, h1, h2, _⟩
    rw [List.mem_singleton] at hp
    subst hp
    simp at h1 h2
    omega
  · rintro rfl
    refine ⟨(r, r), by simp, Int.le_refl _, Int.le_refl _, ?_⟩
    exact isI_cases hc
theorem plainP_lt {cs : List Int} {i : Nat} {c : Int} (h : cs[i]? = some c) : (plainP cs)[i]? = some ⟨1, [(c, c)], (i : Int) + 1, 0⟩ := by
  have hi := (List.getElem?_eq_some_iff.1 h).1
  unfold plainP
  rw [List.getElem?_append_left (by rw [plainI_len]; exact hi), plainI_at, h, Nat.zero_add]
  rfl
theorem plainP_end (cs : List Int) : (plainP cs)[cs.length]? = some ⟨0, [], 0, 0⟩ := by
  unfold plainP
  rw [List.getElem?_append_right (by rw [plainI_len]; exact Nat.le_refl _), plainI_len, Nat.sub_self]
  rfl
theorem rch_plain {cs rs : List Int} {a j b : Nat} (hcs : Points cs) (h : Rch (plainP cs) rs 0 a j b) : j ≤ cs.length ∧ b = a + j ∧ ∀ i, i < j → rs[a + i]? = cs[i]? := by
  induction h with
  | refl => exact ⟨Nat.zero_le _, rfl, fun i hi => absurd hi (Nat.not_lt_zero _)⟩
  | eps _ e ih =>
    obtain ⟨v, hv, hk, ho⟩ := e
    rcases plainP_at hv with ⟨c, _, rfl⟩ | ⟨_, rfl⟩
    · simp [openA] at ho
    · simp [outs] at hk
  | @chr j k b r _ hr e ih =>
    obtain ⟨h1, h2, h3⟩ := ih
    obtain ⟨v, hv, hk, ho, hs⟩ := e
    rcases plainP_at hv with ⟨c, hc, rfl⟩ | ⟨_, rfl⟩
    · have hj := (List.getElem?_eq_some_iff.1 hc).1
      have hrc := (hasL_point (hcs c (List.mem_of_getElem? hc))).1 hs
      have hk2 : k = j + 1 := by
        have : k ∈ [((j : Int) + 1).toNat] := hk
        rw [List.mem_singleton] at this
        omega
      subst hk2
      refine ⟨hj, by omega, fun i hi => ?_⟩
      rcases Nat.eq_or_lt_of_le (Nat.le_of_lt_succ hi) with rfl | hi
      · rw [← h2, hr, hrc, hc]
      · exact h3 i hi
    · exact absurd ho (by decide)
theorem rch_go {cs rs : List Int} {a : Nat} (hcs : Points cs) : ∀ j, j ≤ cs.length → (∀ i, i < j → rs[a + i]? = cs[i]?) → Rch (plainP cs) rs 0 a j (a + j)
  | 0, _, _ => .refl
  | j + 1, hj, h => by
    obtain ⟨c, hc⟩ : ∃ c, cs[j]? = some c := ⟨_, List.getElem?_eq_getElem (by omega)⟩
    have ih := rch_go hcs j (by omega) fun i hi => h i (by omega)
    exact .chr ih ((h j (by omega)).trans hc) ⟨_, plainP_lt hc, by show j + 1 ∈ [((j : Int) + 1).toNat]; rw [List.mem_singleton]; omega, rfl, (hasL_point (hcs c (List.mem_of_getElem? hc))).2 rfl⟩
theorem long_hit {cs rs : List Int} {a : Nat} (hcs : Points cs) (h : hitAt cs rs a = true) : Long (plainP cs) rs a (some (a + cs.length)) := by
  have h1 := hit_iff.1 h
  refine ⟨⟨cs.length, rch_go hcs _ (Nat.le_refl _) h1, _, plainP_end cs, rfl⟩, ?_⟩
  rintro b' ⟨i, hi, _⟩
  have := rch_plain hcs hi
  omega
theorem long_no {cs rs : List Int} {a : Nat} (hcs : Points cs) (h : hitAt cs rs a = false) : Long (plainP cs) rs a none := by
  rintro b' ⟨i, hi, v, hv, he⟩
  obtain ⟨h1, h2, h3⟩ := rch_plain hcs hi
  rcases plainP_at hv with ⟨c, _, rfl⟩ | ⟨h4, _⟩
  · have he : (1 : Int) = 0 := he
    exact absurd he (by decide)
  · subst h4
    rw [hit_iff.2 h3] at h
    cases h
end Go.Proofs.YtaapbmdojkjphaaGreat
namespace Go.Proofs.YtaapbmdojkjphaaGreat
open Go Go.RowKit
set_option linter.unusedVariables false
theorem tokL_ok {l r : List Int} {t : TokL} (h : tokL l = some (t, r)) : TokOk t := by
  rcases l with _ | ⟨x, l⟩
  · cases h
  unfold tokL at h
  try dsimp only at h
  unfold TokOk
  split at h
  · rename_i hx
    injection h with h; injection h with h _; subst h
    refine .inr (.inr ⟨rfl, ?_⟩)
    simp only [tokS]; omega
  split at h
  · injection h with h; injection h with h _; subst h; exact .inr (.inl rfl)
  split at h
  · injection h with h; injection h with h _; subst h; exact .inr (.inl rfl)
  split at h
  · injection h with h; injection h with h _; subst h; exact .inr (.inl rfl)
  split at h
  · exact .inr (.inl (braceL_kind h))
  split at h
  · injection h with h; injection h with h _; subst h; exact .inl rfl
  split at h
  · obtain ⟨⟨a, b⟩, h1, h⟩ := Option.map_eq_some_iff.1 h
    injection h with h _; subst h; exact .inl rfl
  split at h
  · rcases l with _ | ⟨e, l⟩
    · cases h
    · obtain ⟨p, _, h⟩ := Option.map_eq_some_iff.1 h
      injection h with h _; subst h; exact .inl rfl
  split at h
  · cases h
  · injection h with h; injection h with h _; subst h; exact .inl rfl
end Go.Proofs.YtaapbmdojkjphaaGreat
namespace Go.Proofs.YtaapbmdojkjphaaGreat
open Go Go.RowKit
set_option linter.unusedVariables false
set_option maxRecDepth 20000
def numV (l : List Int) : Int × Int :=
  match numL l with
  | some (a, rest) => (a, (l.length : Int) - (rest.length : Int))
  | none => (0, 0)
theorem isDig_iff (r : Int) : isDig r = true ↔ 48 ≤ r ∧ r ≤ 57 := by unfold isDig; simp
theorem numV_nil : numV [] = (0, 0) := rfl
theorem numV_no {a : Int} {l : List Int} (h : ¬ (48 ≤ a ∧ a ≤ 57)) : numV (a :: l) = (0, 0) := by
  have hd : isDig a = false := by rw [← Bool.not_eq_true, isDig_iff]; exact h
  unfold numV
  rcases l with _ | ⟨b, l⟩ <;> simp [numL, hd]
theorem numV_one {a : Int} (h : 48 ≤ a ∧ a ≤ 57) : numV [a] = (a - 48, 1) := by
  have hd : isDig a = true := (isDig_iff a).2 h
  simp [numV, numL, hd]
theorem numV_oneb {a b : Int} {l : List Int} (h : 48 ≤ a ∧ a ≤ 57) (hb : ¬ (48 ≤ b ∧ b ≤ 57)) : numV (a :: b :: l) = (a - 48, 1) := by
  have hd : isDig a = true := (isDig_iff a).2 h
  have hd2 : isDig b = false := by rw [← Bool.not_eq_true, isDig_iff]; exact hb
  simp [numV, numL, hd, hd2]
  omega
theorem numV_two {a b : Int} {l : List Int} (h : 48 ≤ a ∧ a ≤ 57) (hb : 48 ≤ b ∧ b ≤ 57) : numV (a :: b :: l) = if 10 * (a - 48) + (b - 48) > 50 then (0, 0) else (10 * (a - 48) + (b - 48), 2) := by
  have hd : isDig a = true := (isDig_iff a).2 h
  have hd2 : isDig b = true := (isDig_iff b).2 hb
  by_cases hv : 10 * (a - 48) + (b - 48) > 50
  · simp [numV, numL, hd, hd2, hv]
  · simp [numV, numL, hd, hd2, hv]
    omega
set_option maxHeartbeats 2000000 in
theorem rnum_any (l : List Int) (A : Option Addr) (n c : Nat) (W : World) (hr : RowI .i64 W A n l) (hn : n ≤ 1000) :
    Calls Tryz.prog 55 #[.slice A n c] W fun e w' => e = .returned (.tuple #[.int .i64 (numV l).1, .int .i64 (numV l).2]) ∧ W = w' := by
  have hl := hr.1
  rcases l with _ | ⟨a, l⟩
  · have h0 : n = 0 := by simpa using hl.symm
    subst h0
    rw [numV_nil]
    clear hr hl
    go_enter Tryz.func55, Tryz.ntmps55
    go_wp2
    go_rounds 3
    go_ret2
    exact ⟨rfl, rfl⟩
  · obtain ⟨g, o, rfl, hg, hc⟩ := hr.2 (by rw [List.length_cons] at hl; omega)
    have c0 := hc 0 (by rw [List.length_cons] at hl; omega)
    rw [show (a :: l).getD 0 0 = a from rfl, Nat.add_zero] at c0
    by_cases ha : 48 ≤ a ∧ a ≤ 57
    · obtain ⟨a1, a2⟩ := ha
      rcases l with _ | ⟨b, l⟩
      · have h1 : n = 1 := by simpa using hl.symm
        subst h1
        rw [numV_one ⟨a1, a2⟩]
        clear hr hl hc
        go_enter Tryz.func55, Tryz.ntmps55
        go_wp2
        go_rounds 3
        go_ret2
        exact ⟨rfl, rfl⟩
      · have hn2 : 2 ≤ n := by rw [List.length_cons, List.length_cons] at hl; omega
        have c1 := hc 1 (by omega)
        rw [show (a :: b :: l).getD 1 0 = b from rfl] at c1
        have i1 : (1 : Int) < (n : Int) := by omega
        have i0 : (0 : Int) < (n : Int) := by omega
        by_cases hb : 48 ≤ b ∧ b ≤ 57
        · obtain ⟨b1, b2⟩ := hb
          have w1 : IntKind.i64.wrap ((a - 48) * 10) = (a - 48) * 10 := by rw [IntKind.wrap_i64]; omega
          have w2 : IntKind.i64.wrap ((a - 48) * 10 + b) = (a - 48) * 10 + b := by rw [IntKind.wrap_i64]; omega
          have w3 : IntKind.i64.wrap ((a - 48) * 10 + b - 48) = (a - 48) * 10 + b - 48 := by rw [IntKind.wrap_i64]; omega
          rw [numV_two ⟨a1, a2⟩ ⟨b1, b2⟩]
          by_cases hv : 10 * (a - 48) + (b - 48) > 50
          · rw [if_pos hv]
            have v1 : 50 < (a - 48) * 10 + b - 48 := by omega
            clear hr hl hc hv
            go_enter Tryz.func55, Tryz.ntmps55
            go_wp2
            go_rounds 3
            go_ret2
            exact ⟨rfl, rfl⟩
          · rw [if_neg hv]
            have v1 : ¬ 50 < (a - 48) * 10 + b - 48 := by omega
            have HV := Lib.hid (show (a - 48) * 10 + b - 48 = 10 * (a - 48) + (b - 48) by omega)
            clear hr hl hc hv
            go_enter Tryz.func55, Tryz.ntmps55
            go_wp2
            go_rounds 3
            go_ret2
            exact ⟨by rw [← HV.out]; rfl, rfl⟩
        · rw [numV_oneb ⟨a1, a2⟩ hb]
          clear hr hl hc
          by_cases hb1 : 48 ≤ b
          · have hb2 : ¬ b ≤ 57 := fun h => hb ⟨hb1, h⟩
            clear hb
            go_enter Tryz.func55, Tryz.ntmps55
            go_wp2
            go_rounds 3
            go_ret2
            exact ⟨rfl, rfl⟩
          · clear hb
            go_enter Tryz.func55, Tryz.ntmps55
            go_wp2
            go_rounds 3
            go_ret2
            exact ⟨rfl, rfl⟩
    · rw [numV_no ha]
      have i0 : (0 : Int) < (n : Int) := by rw [List.length_cons] at hl; omega
      clear hr hl hc
      by_cases ha1 : 48 ≤ a
      · have ha2 : ¬ a ≤ 57 := fun h => ha ⟨ha1, h⟩
        clear ha
        go_enter Tryz.func55, Tryz.ntmps55
        go_wp2
        go_rounds 3
        go_ret2
        exact ⟨rfl, rfl⟩
      · clear ha
        go_enter Tryz.func55, Tryz.ntmps55
        go_wp2
        go_rounds 3
        go_ret2
        exact ⟨rfl, rfl⟩
end Go.Proofs.YtaapbmdojkjphaaGreat
namespace Go.Proofs.YtaapbmdojkjphaaGreat
open Go Go.RowKit
set_option linter.unusedVariables false
set_option maxRecDepth 20000
def tokV (t : TokL) (A : Option Addr) (n c : Nat) : Value := .agg #[.int .i64 t.kind, .int .i64 t.r, .slice A n c, .int .i64 t.mn, .int .i64 t.mx]
theorem numL_rest {l rest : List Int} {a : Int} (h : numL l = some (a, rest)) : ∃ k : Nat, 1 ≤ k ∧ k ≤ 2 ∧ rest = l.drop k ∧ k + rest.length = l.length ∧ 0 ≤ a ∧ a ≤ 50 ∧ numV l = (a, (k : Int)) := by
  rcases l with _ | ⟨x, _ | ⟨y, l⟩⟩
  · simp [numL] at h
  · by_cases hx : 48 ≤ x ∧ x ≤ 57
    · have hd := (isDig_iff x).2 hx
      simp [numL, hd] at h
      obtain ⟨rfl, rfl⟩ := h
      exact ⟨1, by omega, by omega, rfl, rfl, by omega, by omega, numV_one hx⟩
    · have hd : isDig x = false := by rw [← Bool.not_eq_true, isDig_iff]; exact hx
      simp [numL, hd] at h
  · by_cases hx : 48 ≤ x ∧ x ≤ 57
    · have hd := (isDig_iff x).2 hx
      by_cases hy : 48 ≤ y ∧ y ≤ 57
      · have hd2 := (isDig_iff y).2 hy
        by_cases hv : 10 * (x - 48) + (y - 48) > 50
        · simp [numL, hd, hd2, hv] at h
        · simp [numL, hd, hd2, hv] at h
          obtain ⟨rfl, rfl⟩ := h
          exact ⟨2, by omega, by omega, rfl, by simp; omega, by omega, by omega, by rw [numV_two hx hy, if_neg hv]; rfl⟩
      · have hd2 : isDig y = false := by rw [← Bool.not_eq_true, isDig_iff]; exact hy
        simp [numL, hd, hd2] at h
        obtain ⟨rfl, rfl⟩ := h
        exact ⟨1, by omega, by omega, rfl, by simp; omega, by omega, by omega, numV_oneb hx hy⟩
    · have hd : isDig x = false := by rw [← Bool.not_eq_true, isDig_iff]; exact hx
      simp [numL, hd] at h
theorem numL_none {l : List Int} (h : numL l = none) : numV l = (0, 0) := by unfold numV; rw [h]
def braceR (l : List Int) (e : Ending) : Prop :=
  match braceL l with
  | some (t, rest) => ∃ j : Nat, j + rest.length = l.length ∧ 1 ≤ j ∧ e = .returned (.tuple #[tokV t none 0 0, .int .i64 (j : Int)])
  | none => e = .returned (.tuple #[.agg #[.int .i64 0, .int .i64 0, .slice none 0 0, .int .i64 0, .int .i64 0], .int .i64 0])
set_option maxHeartbeats 2000000 in
theorem rbrace_none (l : List Int) (A : Option Addr) (n c : Nat) (W : World) (hr : RowI .i64 W A n l) (hn : n ≤ 1000) (hl : numL l = none) :
    Calls Tryz.prog 32 #[.slice A n c] W fun e w' => braceR l e ∧ Below W.heap.size W w' := by
  have HB := Lib.hid (show braceL l = none by unfold braceL; rw [hl])
  have hv := numL_none hl
  have hx : ∀ w, Below W.heap.size W w → Calls Tryz.prog 55 #[.slice A n c] w fun e w' => e = .returned (.tuple #[.int .i64 0, .int .i64 0]) ∧ w = w' := fun w h => by
    have := rnum_any l A n c w (hr.below h (Nat.le_refl _)) hn
    rw [hv] at this
    exact this
  have HX := Lib.hid hx
  clear hr hl hv hx
  go_enter Tryz.func32, Tryz.ntmps32
  go_wp2_with (go_at_call 55; refine (HX.out _ ((Below.refl _ _).alloc (Nat.le_refl _) _)).mono ?_; rintro e w1 ⟨rfl, rfl⟩)
  refine bodyPost_ret (v := .tuple #[.agg #[.int .i64 0, .int .i64 0, .slice none 0 0, .int .i64 0, .int .i64 0], .int .i64 0]) ?_ rfl ⟨?_, by go_grown⟩
  · rw [results_cell_tmp rfl]; go_simp
  · unfold braceR; rw [HB.out]
theorem rbrace_head {l rest : List Int} {a : Int} {A : Option Addr} {n c : Nat} {W : World} (hr : RowI .i64 W A n l) (hn : n ≤ 1000) (hl : numL l = some (a, rest)) :
    ∃ (k : Nat) (b o : Nat), 1 ≤ k ∧ k ≤ 2 ∧ A = some ⟨b, o, none⟩ ∧ b < W.heap.size ∧ k + rest.length = n ∧ 0 ≤ a ∧ a ≤ 50 ∧ rest = l.drop k ∧ (∀ j, k + j < n → W.cell? ⟨b, o + (k + j), none⟩ = some (.int .i64 (rest.getD j 0))) ∧
      Hid (∀ w, Below W.heap.size W w → Calls Tryz.prog 55 #[.slice A n c] w fun e w' => e = .returned (.tuple #[.int .i64 a, .int .i64 (k : Int)]) ∧ w = w') := by
  obtain ⟨k, k1, k2, h1, h2, a0, a1, hv⟩ := numL_rest hl
  obtain ⟨b, o, rfl, hb, hc⟩ := hr.2 (by have := hr.1; omega)
  refine ⟨k, b, o, k1, k2, rfl, hb, by rw [h2, hr.1], a0, a1, h1, fun j hj => ?_, Lib.hid fun w h => ?_⟩
  · rw [hc (k + j) hj, h1]
    simp [List.getD]
  · have := rnum_any l (some ⟨b, o, none⟩) n c w (hr.below h (Nat.le_refl _)) hn
    rw [hv] at this
    exact this
set_option maxHeartbeats 4000000 in
theorem rbrace_end (l : List Int) (a : Int) (A : Option Addr) (n c : Nat) (W : World) (hr : RowI .i64 W A n l) (hn : n ≤ 1000) (hl : numL l = some (a, [])) :
    Calls Tryz.prog 32 #[.slice A n c] W fun e w' => braceR l e ∧ Below W.heap.size W w' := by
  have HB := Lib.hid (show braceL l = none by unfold braceL; rw [hl])
  obtain ⟨k, b, o, k1, k2, rfl, hb, hkn, a0, a1, hdr, hc, HX⟩ := rbrace_head (c := c) hr hn hl
  clear hdr
  have hk : ¬ (k : Int) = 0 := by omega
  have kb : ((k : Int) == 0) = false := by simpa using hk
  have hkn2 : (n : Int) ≤ (k : Int) := by simp at hkn; omega
  clear hr hl hc
  go_enter Tryz.func32, Tryz.ntmps32
  go_wp2_with (go_at_call 55; refine (HX.out _ ((Below.refl _ _).alloc (Nat.le_refl _) _)).mono ?_; rintro e w1 ⟨rfl, rfl⟩)
  refine bodyPost_ret (v := .tuple #[.agg #[.int .i64 0, .int .i64 0, .slice none 0 0, .int .i64 0, .int .i64 0], .int .i64 0]) ?_ rfl ⟨?_, by go_grown⟩
  · rw [results_cell_tmp rfl]; go_simp
  · unfold braceR; rw [HB.out]
set_option maxHeartbeats 4000000 in
theorem rbrace_shut (l r' : List Int) (a : Int) (A : Option Addr) (n c : Nat) (W : World) (hr : RowI .i64 W A n l) (hn : n ≤ 1000) (hl : numL l = some (a, 125 :: r')) :
    Calls Tryz.prog 32 #[.slice A n c] W fun e w' => braceR l e ∧ Below W.heap.size W w' := by
  have HB := Lib.hid (show braceL l = some (tokN a a, r') by unfold braceL; rw [hl]; rfl)
  obtain ⟨k, b, o, k1, k2, rfl, hb, hkn, a0, a1, hdr, hc, HX⟩ := rbrace_head (c := c) hr hn hl
  clear hdr
  rw [List.length_cons] at hkn
  have hk : ¬ (k : Int) = 0 := by omega
  have kb : ((k : Int) == 0) = false := by simpa using hk
  have hkn2 : (k : Int) < (n : Int) := by omega
  have c0 := hc 0 (by omega)
  rw [Nat.add_zero, show (125 :: r').getD 0 0 = 125 from rfl] at c0
  have HLN := Lib.hid (show (k + 1) + r'.length = l.length by have := hr.1; omega)
  clear hr hl hc hkn
  go_enter Tryz.func32, Tryz.ntmps32
  go_wp2_with (go_at_call 55; refine (HX.out _ ((Below.refl _ _).alloc (Nat.le_refl _) _)).mono ?_; rintro e w1 ⟨rfl, rfl⟩)
  refine bodyPost_ret (v := .tuple #[.agg #[.int .i64 2, .int .i64 0, .slice none 0 0, .int .i64 a, .int .i64 a], .int .i64 ((k : Int) + 1)]) ?_ rfl ⟨?_, by go_grown⟩
  · rw [results_cell_tmp rfl]; go_simp
  · unfold braceR; rw [HB.out]; exact ⟨k + 1, HLN.out, by omega, by rw [show ((k + 1 : Nat) : Int) = (k : Int) + 1 by omega]; rfl⟩
set_option maxHeartbeats 4000000 in
theorem rbrace_other (l r' : List Int) (a : Int) (x : Int) (h1 : x ≠ 125) (h2 : x ≠ 44) (A : Option Addr) (n c : Nat) (W : World) (hr : RowI .i64 W A n l) (hn : n ≤ 1000) (hl : numL l = some (a, x :: r')) :
    Calls Tryz.prog 32 #[.slice A n c] W fun e w' => braceR l e ∧ Below W.heap.size W w' := by
  have HB := Lib.hid (show braceL l = none by unfold braceL; rw [hl]; simp [h1, h2])
  obtain ⟨k, b, o, k1, k2, rfl, hb, hkn, a0, a1, hdr, hc, HX⟩ := rbrace_head (c := c) hr hn hl
  clear hdr
  rw [List.length_cons] at hkn
  have hk : ¬ (k : Int) = 0 := by omega
  have kb : ((k : Int) == 0) = false := by simpa using hk
  have hkn2 : (k : Int) < (n : Int) := by omega
  have c0 := hc 0 (by omega)
  rw [Nat.add_zero, show (x :: r').getD 0 0 = x from rfl] at c0
  have e1 : (x == 125) = false := by simpa using h1
  have e2 : (x != 44) = true := by simpa using h2
  clear hr hl hc hkn
  go_enter Tryz.func32, Tryz.ntmps32
  go_wp2_with (go_at_call 55; refine (HX.out _ ((Below.refl _ _).alloc (Nat.le_refl _) _)).mono ?_; rintro e w1 ⟨rfl, rfl⟩)
  refine bodyPost_ret (v := .tuple #[.agg #[.int .i64 0, .int .i64 0, .slice none 0 0, .int .i64 0, .int .i64 0], .int .i64 0]) ?_ rfl ⟨?_, by go_grown⟩
  · rw [results_cell_tmp rfl]; go_simp
  · unfold braceR; rw [HB.out]
set_option maxHeartbeats 4000000 in
theorem rbrace_comma (l r' : List Int) (a : Int) (A : Option Addr) (n c : Nat) (W : World) (hr : RowI .i64 W A n l) (hn : n ≤ 1000) (hl : numL l = some (a, [44])) :
    Calls Tryz.prog 32 #[.slice A n c] W fun e w' => braceR l e ∧ Below W.heap.size W w' := by
  have HB := Lib.hid (show braceL l = none by unfold braceL; rw [hl]; rfl)
  obtain ⟨k, b, o, k1, k2, rfl, hb, hkn, a0, a1, hdr, hc, HX⟩ := rbrace_head (c := c) hr hn hl
  clear hdr
  rw [List.length_cons] at hkn
  have hk : ¬ (k : Int) = 0 := by omega
  have kb : ((k : Int) == 0) = false := by simpa using hk
  have hkn2 : (k : Int) < (n : Int) := by omega
  have c0 := hc 0 (by omega)
  rw [Nat.add_zero, show ([(44 : Int)]).getD 0 0 = 44 from rfl] at c0
  have hkn3 : (n : Int) ≤ (k : Int) + 1 := by simp at hkn; omega
  clear hr hl hc hkn
  go_enter Tryz.func32, Tryz.ntmps32
  go_wp2_with (go_at_call 55; refine (HX.out _ ((Below.refl _ _).alloc (Nat.le_refl _) _)).mono ?_; rintro e w1 ⟨rfl, rfl⟩)
  refine bodyPost_ret (v := .tuple #[.agg #[.int .i64 0, .int .i64 0, .slice none 0 0, .int .i64 0, .int .i64 0], .int .i64 0]) ?_ rfl ⟨?_, by go_grown⟩
  · rw [results_cell_tmp rfl]; go_simp
  · unfold braceR; rw [HB.out]
set_option maxHeartbeats 4000000 in
theorem rbrace_open (l r' : List Int) (a : Int) (A : Option Addr) (n c : Nat) (W : World) (hr : RowI .i64 W A n l) (hn : n ≤ 1000) (hl : numL l = some (a, 44 :: 125 :: r')) :
    Calls Tryz.prog 32 #[.slice A n c] W fun e w' => braceR l e ∧ Below W.heap.size W w' := by
  have HB := Lib.hid (show braceL l = some (tokN a (-1), r') by unfold braceL; rw [hl]; rfl)
  obtain ⟨k, b, o, k1, k2, rfl, hb, hkn, a0, a1, hdr, hc, HX⟩ := rbrace_head (c := c) hr hn hl
  clear hdr
  rw [List.length_cons] at hkn
  have hk : ¬ (k : Int) = 0 := by omega
  have kb : ((k : Int) == 0) = false := by simpa using hk
  have hkn2 : (k : Int) < (n : Int) := by omega
  have c0 := hc 0 (by omega)
  rw [Nat.add_zero, show (44 :: 125 :: r').getD 0 0 = 44 from rfl] at c0
  rw [List.length_cons] at hkn
  have c1 := hc 1 (by omega)
  rw [show (44 :: 125 :: r').getD 1 0 = 125 from rfl] at c1
  have c2 := c1
  rw [← Nat.add_assoc] at c2
  have hkn3 : (k : Int) + 1 < (n : Int) := by omega
  have HLN := Lib.hid (show (k + 2) + r'.length = l.length by have := hr.1; omega)
  clear hr hl hc hkn
  go_enter Tryz.func32, Tryz.ntmps32
  go_wp2_with (go_at_call 55; refine (HX.out _ ((Below.refl _ _).alloc (Nat.le_refl _) _)).mono ?_; rintro e w1 ⟨rfl, rfl⟩)
  refine bodyPost_ret (v := .tuple #[.agg #[.int .i64 2, .int .i64 0, .slice none 0 0, .int .i64 a, .int .i64 (-1)], .int .i64 ((k : Int) + 2)]) ?_ rfl ⟨?_, by go_grown⟩
  · rw [results_cell_tmp rfl]; go_simp
  · unfold braceR; rw [HB.out]; exact ⟨k + 2, HLN.out, by omega, by rw [show ((k + 2 : Nat) : Int) = (k : Int) + 2 by omega]; rfl⟩
end Go.Proofs.YtaapbmdojkjphaaGreat
