/- RingOrder, of any ring that answers so. -/
import Derived.Test.YtmpemcooianfiaaPutT
import Derived.Test.YtmpemcooianfiaaLawFull17
import Derived.Test.YtmpemcooianfiaaRowIn
namespace Go.Proofs.Ytmpemcooianfiaa
open Go Go.RowKit
set_option linter.unusedVariables false
set_option maxRecDepth 20000
theorem info_bool17 : (Try.prog.info? 4).map (fun i => (i.zero, i.size, i.bytes)) = some (some (.bool false), 1, 1) := by kernel_rfl
theorem boolsz17 : Try.prog.cellsOf 4 = 1 := by kernel_rfl
theorem u8sz17 : Try.prog.cellsOf 5 = 1 := by kernel_rfl
theorem tmod_lt64 (n : Int) : -64 < n.tmod 64 ∧ n.tmod 64 < 64 := by
  rcases Int.le_total 0 n with h | h
  · rw [Int.tmod_eq_emod_of_nonneg h]
    omega
  · have e : n = -(-n) := by omega
    rw [e, Int.neg_tmod, Int.tmod_eq_emod_of_nonneg (by omega)]
    omega
theorem small17 (t : Nat) (h : t ≤ 1000) : RowKit.wrap64 ((t : Int) + 7) = (t : Int) + 7 ∧ (-9223372036854775808 : Int) ≤ (bufIt t).n ∧ (bufIt t).n < 9223372036854775808 := by
  have e : (bufIt t).n = (t : Int) := rfl
  rw [e]
  refine ⟨?_, by omega, by omega⟩
  unfold RowKit.wrap64
  omega
theorem sum17 (a b : Nat) (x : Int) (hx : x = (b : Int)) (ha : a ≤ 1000) (hb : b ≤ 1000) : RowKit.wrap64 ((a : Int) + x) = ((a + b : Nat) : Int) := by
  subst hx
  unfold RowKit.wrap64
  omega
theorem le17 {a b c d : Nat} (h1 : a ≤ 100) (h2 : b < c) (h3 : c ≤ 64) (e : d = a + b) : d ≤ 1000 := by omega
theorem place17 (n : Int) : ∃ k : Nat, 1 ≤ k ∧ k ≤ 64 ∧ RowKit.wrap64 (1 + (RowKit.wrap64 (n.tmod 64 + 64)).tmod 64) = (k : Int) := by
  obtain ⟨h1, h2⟩ := tmod_lt64 n
  have e1 : RowKit.wrap64 (n.tmod 64 + 64) = n.tmod 64 + 64 := by unfold RowKit.wrap64; omega
  rw [e1, Int.tmod_eq_emod_of_nonneg (show 0 ≤ n.tmod 64 + 64 by omega)]
  refine ⟨((1 + (n.tmod 64 + 64) % 64) : Int).toNat, by omega, by omega, ?_⟩
  unfold RowKit.wrap64
  omega
section
variable {P : RP} (T : RinF P)
include T
set_option maxHeartbeats 4000000 in
theorem order17_many (n : Int) (A : Option Addr) (len cap : Nat) (h : 100 < len) (w : World) :
    Calls Try.prog 4 #[.int .i64 n, .slice A len cap] w fun e w' => e = .returned (.bool true) ∧ Below w.heap.size w w' := by
  have HA := Lib.hid fun (w1 : World) (hb : Below w.heap.size w w1) => awake17_any T w hb
  have hd : decide ((100 : Int) < (len : Int)) = true := by simp; omega
  clear h
  go_enter Try.func4, Try.ntmps4
  go_wp2_with fail
  refine (HA.out _ (Below.refl _ _)).mono ?_; rintro e w1 ⟨rfl, h1⟩
  have H1 := Lib.hid h1; clear h1
  go_wp2_with fail
  refine (HA.out _ H1.out).mono ?_; rintro e w2 ⟨rfl, h2⟩
  have H2 := Lib.hid h2; clear h2
  go_wp2_with fail
  go_ret
  exact ⟨rfl, H2.out⟩
set_option maxHeartbeats 8000000 in
theorem order17_good (n : Int) (A : Option Addr) (len cap : Nat) (xs : List Int) (w : World) (hr : RowI .u8 w A len xs) (hx : ∀ x ∈ xs, 0 ≤ x ∧ x < 256) (hl : len ≤ 100) :
    Calls Try.prog 4 #[.int .i64 n, .slice A len cap] w fun e w' => e = .returned (.bool true) ∧ Below w.heap.size w w' := by
  have HA := Lib.hid (awake17_any T w (Below.refl w.heap.size w))
  have HN := Lib.hid fun w2 (hb : Below w.heap.size w w2) k h1 h2 => rNew T k hb h1 h2
  have HR := Lib.hid hr
  have HX := Lib.hid hx
  have hd : decide ((100 : Int) < (len : Int)) = false := by simp; omega
  clear hr hx
  go_enter Try.func4, Try.ntmps4
  go_wp2_with fail
  refine HA.out.mono ?_; rintro e w1 ⟨rfl, h1⟩
  have H1 := Lib.hid h1; clear h1 HA
  go_wp2_with fail
  obtain ⟨k, hk1, hk2, ek⟩ := place17 n
  rw [ek]
  clear ek
  refine (HN.out _ H1.out k hk1 hk2).mono ?_; rintro e w2 ⟨g, rfl, h2, -⟩
  have H2 := Lib.hid (h2.sub (K' := fun _ => False) (fun _ h => h.elim)); clear h2 HN H1
  have esum : (200 : Int) + (k : Int) = ((200 + k : Nat) : Int) := by omega
  obtain ⟨m, hm⟩ : ∃ m, m = 200 + k := ⟨_, rfl⟩
  rw [← hm] at esum
  have hmk := run_make_row' (P := Try.prog) 49 4 (.bool false) 1 Try.underlying49 info_bool17 rfl .i64 .i64 m (by omega) (by omega)
  have HCB := Lib.hid (And.intro boolsz17 u8sz17)
  have HES := Lib.hid esum
  have HMM := Lib.hid hm
  clear hm esum
  go_wp2_with (fail)
  rw [HES.out, hmk w2]
  obtain ⟨bb, hbb⟩ : ∃ bb, bb = w2.heap.size := ⟨_, rfl⟩
  have hrow := World.rowIs_made w2 (.bool false) m 4
  have hm2 := H2.out.made T (.cells (madeCells #[.bool false] m) 4)
  have hlo : w.heap.size ≤ bb := by rw [hbb]; exact H2.out.to.size
  go_wp2_with fail
  rw [← hbb] at hrow hm2 ⊢
  have HLO := Lib.hid hlo
  have HROW := Lib.hid hrow
  have HM2 := Lib.hid (hm2.sub (K' := fun b => b = bb) (fun b h => .inr h))
  clear hrow hm2 hbb hlo H2 hmk
  go_loopw [8, 10] (fun v8 v10 wr => ∃ (i gv : Nat) (W : List (Option It)), v8 = .int .i64 (gv : Int) ∧ v10 = .int .i64 (i : Int) ∧ i ≤ len ∧ Hid (gv + cntW W ≤ i) ∧ Hid (Rin P w wr (fun b => b = bb) g gv W ∧ Bok gv W ∧ W.length = k ∧ wr.rowIs bb 4 m (fun j => .bool (pT gv W j)) ∧ (headW W).isSome = false)) (fun _ v10 _ => len - (intOf v10).toNat)
  case atStart =>
    refine ⟨0, 0, List.replicate k none, rfl, rfl, Nat.zero_le _, Lib.hid (by simp [cntW, List.countP_replicate]), Lib.hid ⟨HM2.out, fun i x hx => ?_, by simp, HROW.out.congr fun j hj => ?_, ?_⟩⟩
    · rw [List.getElem?_replicate] at hx
      split at hx <;> cases hx
    · unfold pT
      rw [List.getElem?_replicate]
      split <;> simp [isS]
    · rcases k with _ | k
      · rfl
      · rfl
  case round =>
    obtain ⟨i, gv, W, rfl, rfl, hi, HC, HO⟩ := hrel
    by_cases hli : i < len
    · obtain ⟨b, o, rfl, hbl, hc⟩ := HR.out.2 (by omega)
      have e0 := (HO.out.1.to.cell (p := ⟨b, o + i, none⟩) hbl).trans (hc i hli)
      obtain ⟨x, hxx⟩ : ∃ x, x = xs.getD i 0 := ⟨_, rfl⟩
      have hxr : 0 ≤ x ∧ x < 256 := by
        rw [hxx]
        refine HX.out _ ?_
        have : i < xs.length := by rw [HR.out.1]; exact hli
        simp [List.getD, List.getElem?_eq_getElem this]
      rw [← hxx] at e0
      obtain ⟨xn, rfl⟩ : ∃ xn : Nat, x = (xn : Int) := ⟨x.toNat, by omega⟩
      have hxn : xn < 256 := by omega
      obtain ⟨q, hq⟩ : ∃ q, q = xn % k := ⟨_, rfl⟩
      have hqk : q < k := by rw [hq]; exact Nat.mod_lt _ (by omega)
      have eq1 : (xn : Int) % (k : Int) = (q : Int) := by rw [hq]; exact (Int.natCast_emod xn k).symm
      have hgv : gv ≤ 100 := by have := HC.out; omega
      have HEQ := Lib.hid eq1
      have HQ := Lib.hid hq
      have hk0 : ¬ (k : Int) = 0 := by omega
      obtain ⟨hcb, hcu⟩ := HCB.out
      clear hc hxx hxr hq eq1 HM2 HROW
      go_wp2_with fail
      clear hcb hcu
      obtain ⟨t, ht⟩ : ∃ t, t = gv + q := ⟨_, rfl⟩
      have htm : t < m := by have := HMM.out; omega
      have ew1 : RowKit.wrap64 ((gv : Int) + (xn : Int) % (k : Int)) = (t : Int) := by rw [ht]; exact sum17 gv q _ HEQ.out (by omega) (by omega)
      obtain ⟨ew2, hlo2, hhi2⟩ := small17 t (le17 hgv hqk hk2 ht)
      rw [ew1, ew2]
      have hql : q < W.length := by rw [HO.out.2.2.1]; exact hqk
      have hput := rPut T HO.out.1 (bufIt t) (by omega) hlo2 hhi2
      rw [show (bufIt t).n = ((gv + q : Nat) : Int) by rw [ht]; rfl, putR_at hql, ← ht] at hput
      unfold It.val bufIt at hput
      have HP := Lib.hid hput
      clear hput
      have hpt := pT_put (next := gv) (W := W) hql
      have hbk := HO.out.2.1.put hql
      have hcn := cnt_put gv W (bufIt t)
      have hwl := putW_length gv W (bufIt t)
      rw [← ht] at hpt hbk
      obtain ⟨W3, hW3⟩ : ∃ W3, W3 = putW gv W (bufIt t) := ⟨_, rfl⟩
      rw [show (putW gv W { n := (t : Int), b := (t : Int) + 7, rn := 0, ra := 0, tx := ⟨#[]⟩, hA := none, hm := 0, hc := 0, hs := [], e := 0 }) = W3 from hW3.symm] at HP
      rw [← hW3] at hpt hbk hcn hwl
      have HF := Lib.hid (And.intro hpt (And.intro hbk (And.intro hcn hwl)))
      have HT := Lib.hid ht
      have hrow := HO.out.2.2.2.1
      clear hpt hbk hcn hwl hW3 ht ew1 ew2 hlo2 hhi2 hql e0 HEQ HQ
      obtain ⟨p, hp⟩ : ∃ p, p = pT gv W t := ⟨_, rfl⟩
      rw [← hp] at HP
      refine HP.out.mono ?_; rintro e w3 ⟨rfl, h3, k3⟩
      have hrow3 := hrow.of_block (k3 bb rfl)
      have c3 := hrow3.cell htm
      have f3 := hrow3.frozen t
      rw [← hp] at c3
      have HR3 := Lib.hid ((hrow3.set t (.bool true)).congr (g := fun j => .bool (pT gv W3 j)) fun j hj => by
        rw [HF.out.1 j]
        by_cases hjt : j = t
        · rw [if_pos hjt, if_pos hjt]
        · rw [if_neg hjt, if_neg hjt])
      have H3 := Lib.hid (h3.store T (b := bb) rfl HLO.out t (.bool true))
      have HIN : Hid (gv + cntW W3 ≤ i + 1) := Lib.hid (by have := HF.out.2.2.1; have := HC.out; omega)
      have HBW := Lib.hid (And.intro HF.out.2.1 (HF.out.2.2.2.trans HO.out.2.2.1))
      clear hrow hrow3 h3 k3 HP hp HF HO HC
      rcases p with _ | _
      all_goals
        obtain ⟨hcb, hcu⟩ := HCB.out
        go_wp2_with fail
        clear hcb hcu
        go_loopw [8] (fun v8 wi => ∃ (gv' : Nat) (W' : List (Option It)), v8 = .int .i64 (gv' : Int) ∧ Hid (gv' + cntW W' ≤ i + 1) ∧ Hid (Rin P w wi (fun b => b = bb) g gv' W' ∧ Bok gv' W' ∧ W'.length = k ∧ wi.rowIs bb 4 m (fun j => .bool (pT gv' W' j)))) (fun v8 _ => i + 1 - (intOf v8).toNat)
        case atStart => exact ⟨gv, W3, rfl, HIN, Lib.hid ⟨H3.out, HBW.out.1, HBW.out.2, HR3.out⟩⟩
        case round =>
          obtain ⟨gv', W', rfl, HC, HO⟩ := hrel
          have hgv' : gv' ≤ 101 := by have := HC.out; omega
          have hrow := HO.out.2.2.2
          have hgm : gv' < m := by have := HMM.out; omega
          have HRD := Lib.hid (rRdy T HO.out.1 (by omega))
          cases hr : (headW W').isSome with
          | true =>
            rw [hr] at HRD
            obtain ⟨x1, x2, x3, x4, x5, x6⟩ := give_at HO.out.2.1 hr
            have HX := Lib.hid fun w' (h : Rin P w w' (fun b => b = bb) g gv' W') => rNxt T h (by omega)
            rw [show nextX W' = bufIt gv' by unfold nextX; rw [x1]; rfl, hr, x2] at HX
            unfold It.val bufIt at HX
            have HG := Lib.hid (And.intro x3 (And.intro x4 (And.intro x5 x6)))
            clear x1 x2 x3 x4 x5 x6 hr
            go_wp2_with fail
            refine HRD.out.mono ?_; rintro e w4 ⟨rfl, h4, k4⟩
            have hrow4 := hrow.of_block (k4 bb rfl)
            have H4 := Lib.hid (HX.out _ h4)
            clear h4 k4 hrow HRD HX
            go_wp2_with fail
            refine H4.out.mono ?_; rintro e w5 ⟨rfl, h5, k5⟩
            have hrow5 := (hrow4.of_block (k5 bb rfl)).alloc (.cells #[.int .i64 (gv' : Int), .int .i64 ((gv' : Int) + 7), .int .i64 0, .int .i64 0, .string ⟨#[]⟩, .slice none 0 0, .int .i64 0] 36)
            have H5 := Lib.hid (h5.below T ((Below.refl w5.heap.size w5).alloc (Nat.le_refl _) (.cells #[.int .i64 (gv' : Int), .int .i64 ((gv' : Int) + 7), .int .i64 0, .int .i64 0, .string ⟨#[]⟩, .slice none 0 0, .int .i64 0] 36))).1
            have c5 := hrow5.cell hgm
            rw [HG.out.2.2.1] at c5
            have HR5 := Lib.hid (hrow5.congr (g := fun j => .bool (pT (gv' + 1) (tailW W') j)) fun j hj => by rw [HG.out.2.2.2 j])
            have HB5 := Lib.hid (And.intro HG.out.1 ((tailW_length W').trans HO.out.2.2.1))
            have HN5 : Hid ((gv' + 1) + cntW (tailW W') ≤ i + 1) := Lib.hid (by have := HG.out.2.1; have := HC.out; omega)
            have hg2 : gv' < i + 1 := by have := HG.out.2.1; have := HC.out; omega
            clear h5 k5 H4 hrow4 hrow5 HG HO HC
            obtain ⟨hcb, hcu⟩ := HCB.out
            go_wp2_with fail
            clear hcb hcu
            exact ⟨⟨gv' + 1, tailW W', by go_num, HN5, Lib.hid ⟨H5.out, HB5.out.1, HB5.out.2, HR5.out⟩⟩, by simp [intOf]; omega⟩
          | false =>
            rw [hr] at HRD
            have hnp := none_at (next := gv') hr
            have HTC := Lib.hid fun w' (h : Rin P w w' (fun b => b = bb) g gv' W') => rTic T h (by omega)
            have HHR := Lib.hid hr
            clear hr
            go_wp2_with fail
            refine HRD.out.mono ?_; rintro e w4 ⟨rfl, h4, k4⟩
            have hrow4 := hrow.of_block (k4 bb rfl)
            have c4 := hrow4.cell hgm
            rw [hnp] at c4
            have H4 := Lib.hid (HTC.out _ h4)
            clear h4 k4 hrow HRD HTC hnp
            obtain ⟨hcb, hcu⟩ := HCB.out
            go_wp2_with fail
            clear hcb hcu
            refine H4.out.mono ?_; rintro e w5 ⟨rfl, h5, k5⟩
            have H5 := Lib.hid (And.intro h5 (hrow4.of_block (k5 bb rfl)))
            clear h5 k5 c4 hrow4 H4
            go_wp2_with fail
            exact ⟨⟨i + 1, gv', W', rfl, by go_num, by omega, HC, Lib.hid ⟨H5.out.1, HO.out.2.1, HO.out.2.2.1, H5.out.2, HHR.out⟩⟩, by simp [intOf]; omega⟩
    · have hie : i = len := by omega
      subst hie
      have HB := Lib.hid HO.out.1.to
      clear HO HC
      go_wp2_with fail
      go_ret
      exact ⟨rfl, HB.out⟩
theorem order17_any (n : Int) (A : Option Addr) (len cap : Nat) (xs : List Int) (w : World) (hr : RowI .u8 w A len xs) (hx : ∀ x ∈ xs, 0 ≤ x ∧ x < 256) :
    Calls Try.prog 4 #[.int .i64 n, .slice A len cap] w fun e w' => e = .returned (.bool true) ∧ Below w.heap.size w w' := by
  by_cases h : 100 < len
  · exact order17_many T n A len cap h w
  · exact order17_good T n A len cap xs w hr hx (by omega)
end
end Go.Proofs.Ytmpemcooianfiaa
