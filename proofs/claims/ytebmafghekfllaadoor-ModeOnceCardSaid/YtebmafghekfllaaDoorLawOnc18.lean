/- ModeOnce: out of any teller. -/
import Derived.Test.YtebmafghekfllaaDoorOnceF18
import Derived.Test.YtebmafghekfllaaDoorBoolR
namespace Go.Proofs.YtebmafghekfllaaDoor
open Go Go.RowKit
set_option linter.unusedVariables false
set_option maxRecDepth 20000
theorem mod17 (n : Int) : ∃ k : Nat, k ≤ 16 ∧ (RowKit.wrap64 (n.tmod 17 + 17)).tmod 17 = (k : Int) := by
  have h1 : -17 < n.tmod 17 := Int.lt_tmod_of_pos n (by decide)
  have h2 : n.tmod 17 < 17 := Int.tmod_lt_of_pos n (by decide)
  have e1 : RowKit.wrap64 (n.tmod 17 + 17) = n.tmod 17 + 17 := by unfold RowKit.wrap64; omega
  rw [e1, Int.tmod_eq_emod_of_nonneg (show 0 ≤ n.tmod 17 + 17 by omega)]
  exact ⟨((n.tmod 17 + 17) % 17 : Int).toNat, by omega, by omega⟩
def xS : ByteArray := ⟨#[120]⟩
theorem linesJ_at {X : ByteArray} {L : List Rw} {s n k : Nat} (h : k < n) : (linesJ X L s n)[k]? = some (lineJ X (s + k) (hitB L (s + k))) := by
  unfold linesJ
  rw [List.getElem?_map, List.getElem?_range' h]
  simp
theorem linesJ_len (X : ByteArray) (L : List Rw) (s n : Nat) : (linesJ X L s n).length = n := by simp [linesJ]
theorem sepL_len (b : Bool) : (sepL b).length = if b = true then 1 else 0 := by cases b <;> rfl
theorem itoaS_pos' (u : Nat) : 1 ≤ (itoaS (u : Int)).size := by
  rw [itoaS_nat]
  have : 1 ≤ (Lib.decDigits u).length := by
    rw [Lib.decDigits]
    split <;> simp
  simpa [ByteArray.size] using this
theorem lineJ_two (j : Nat) (hit : Bool) : lineJ xS j hit = itoaS (j : Int) ++ (if hit = true then ⟨#[58, 120]⟩ else ⟨#[45, 120]⟩) := by
  unfold lineJ
  rw [ByteArray.append_assoc]
  congr 1
  cases hit <;> decide
theorem not_sep (a : ByteArray) (c : UInt8) (ha : 1 ≤ a.size) : ((a ++ ⟨#[c, 120]⟩).toList == [45, 45]) = false := by
  rcases hq : ((a ++ ⟨#[c, 120]⟩).toList == [45, 45]) with _ | _
  · rfl
  · have h1 : (a ++ ⟨#[c, 120]⟩).toList = [45, 45] := by simpa using hq
    rw [ByteArray.toList_eq, ByteArray.data_append, Array.toList_append] at h1
    have h2 := congrArg List.length h1
    rw [List.length_append, show (⟨#[c, 120]⟩ : ByteArray).data.toList.length = 2 from rfl, Array.length_toList, show ([45, 45] : List UInt8).length = 2 from rfl] at h2
    have h3 : a.size = a.data.size := rfl
    omega
section
variable {P : TelP} {G : World → Prop} (T : TelF G P)
include T
set_option maxHeartbeats 16000000 in
theorem once18_any (x y : Int) (A : Option Addr) (n c : Nat) (hits : List Bool) (w : World) (hG : G w) (h : RowBo w A n hits) :
    Calls Tryd.prog 4 #[.int .i64 x, .int .i64 y, .slice A n c] w fun e w' => e = .returned (.bool true) ∧ Below w.heap.size w w' := by
  have HAW := Lib.hid fun w' (hg : G w') => awake18_any T w' hg
  have HGG := Lib.hid hG
  by_cases hn : n ≤ 60
  · have H := Lib.hid h
    have HL := Lib.hid h.1
    have dn : decide (60 < n) = false := by simpa using hn
    clear h
    go_enter Tryd.func4, Tryd.ntmps4
    go_wp2_with fail
    (with_reducible refine (HAW.out w hG).mono ?_); rintro e w1 ⟨rfl, hb1⟩
    have HB1 := Lib.hid hb1
    clear hb1 HAW
    go_wp2_with fail
    obtain ⟨b, hb, eb⟩ := mod17 x
    obtain ⟨a, ha, ea⟩ := mod17 y
    rw [eb, ea]
    clear eb ea
    have HNW := Lib.hid (show Calls Tryd.prog 8 #[.int .i64 3, .int .i64 (b : Int), .int .i64 (a : Int)] w1 _ from tNew T (T.gb HGG.out HB1.out) 3 b a HB1.out (by decide) hb ha)
    (with_reducible refine HNW.out.mono ?_); rintro e w2 ⟨g, rfl, ht, -⟩
    have HT := Lib.hid ht
    clear ht HNW
    go_wp2_with fail
    go_loopw [11, 12, 13, 14, 15, 16, 17, 18, 19] (fun v11 v12 v13 v14 _ _ _ _ _ wr => ∃ (i ct ln rc : Nat) (l : List Rw), v11 = .int .i64 (ct : Int) ∧ v12 = .int .i64 (ln : Int) ∧ v13 = .int .i64 (rc : Int) ∧ v14 = .int .i64 (i : Int) ∧ i ≤ n ∧ ct ≤ i ∧ rc ≤ i ∧ ln ≤ 2 * rc ∧ Hid (Numd xS l ∧ l.length = i ∧ (∀ (j : Nat) (y : Rw), l[j]? = some y → hits[j]? = some (hitX y)) ∧ ct ≤ rc ∧ rc ≤ fromC (lastC l b a) ∧ (b = 0 → a = 0 → rc = ct) ∧ Tel P w wr (fun _ => False) g 3 b a l false)) (fun _ _ _ v14 _ _ _ _ _ _ => n - (intOf v14).toNat)
    case atStart => exact ⟨0, 0, 0, 0, [], rfl, rfl, rfl, rfl, Nat.zero_le _, Nat.le_refl _, Nat.le_refl _, Nat.le_refl _, Lib.hid ⟨fun j y h => by simp at h, rfl, fun j y h => by simp at h, Nat.le_refl _, Nat.zero_le _, fun _ _ => rfl, HT.out.sub fun q hq => hq.elim⟩⟩
    case round =>
      obtain ⟨i, ct, ln, rc, l, rfl, rfl, rfl, rfl, hi, hct, hrc, hln, HO⟩ := hrel
      by_cases hlt : i < n
      · obtain ⟨bb, o, hA, hbl, hcc⟩ := (H.out.below HO.out.2.2.2.2.2.2.bel).2 (by omega)
        subst hA
        obtain ⟨hv, hhv⟩ : ∃ hv, hits[i]? = some hv := ⟨_, List.getElem?_eq_getElem (by rw [HL.out]; exact hlt)⟩
        have d0 := hcc i hv hhv
        have HRX := Lib.hid (row_any (i : Int) xS hv wr)
        unfold xS at HRX
        have HCB := Lib.hid fun (w' : World) (hw : Below w.heap.size w w') (j : Nat) (v : Bool) (hj : hits[j]? = some v) => (by
          obtain ⟨b2, o2, e2, _, h2⟩ := (H.out.below hw).2 (by omega)
          injection e2 with e2
          injection e2 with e2 e3 _
          subst e2; subst e3
          exact h2 j v hj : w'.cell? ⟨bb, o + j, none⟩ = some (.bool v))
        have hrow := row_cells
        have HV := Lib.hid hhv
        clear hcc hhv
        go_wp2_with fail
        (with_reducible refine HRX.out.mono ?_); rintro e w3 ⟨x, rfl, hx⟩
        obtain ⟨⟨x1, x2, x3, x4⟩, x5, x6, x7⟩ := hx
        have hb3 : Below w3.heap.size w3 (w3.alloc (.cells #[.int .i64 x.n, .int .i64 x.p, .string x.tx, .slice x.hA x.hm x.hc] 34)) := (Below.refl _ _).alloc (Nat.le_refl _) _
        have hbw : Below wr.heap.size wr (w3.alloc (.cells #[.int .i64 x.n, .int .i64 x.p, .string x.tx, .slice x.hA x.hm x.hc] 34)) := x7.trans (hb3.mono x7.size)
        obtain ⟨u1, u2, u3, u4, u5, u6', ht⟩ := HO.out
        have hbW : Below w.heap.size w (w3.alloc (.cells #[.int .i64 x.n, .int .i64 x.p, .string x.tx, .slice x.hA x.hm x.hc] 34)) := ht.bel.trans (hbw.mono ht.bel.size)
        clear d0
        have d0 := HCB.out _ hbW i hv HV.out
        have HA := Lib.hid (tAddK T HGG.out (ht.fresh T hbw) x (x5.below hb3) (by omega) (by rw [x2]; decide) (by omega) (by omega) (by omega) (fun h0 b' o' e => by
          obtain ⟨b2, o2, e2, h1, h2⟩ := x6 h0
          rw [e] at e2
          injection e2 with e2
          injection e2 with e2
          have := hb3.size
          exact .inr (.inr ⟨by omega, by omega⟩)))
        have HOUT := Lib.hid fun (A4 : Option Addr) (c4 : Nat) (out : List ByteArray) (w4 : World) (K' : Nat → Prop) (hl4 : (linesV 3 b a (l ++ [x]) false).1 = (linesV 3 b a l false).1 ++ out) (ht4 : Tel P w w4 K' g 3 b a (l ++ [x]) false) => (by
          obtain ⟨sep, s, o1, o2, o3, o4, o5, o6, o7, o8⟩ := once_out (X := xS) u1 (by rw [x1, u2]) x2 (by omega) (show ctxL (l ++ [x]) b a = ctxL l b a ++ out from hl4)
          rw [u2] at o2 o3 o4 o5 o6 o7 o8
          refine ⟨sep, s, by rw [o3, List.length_append, sepL_len, linesJ_len], by omega, fun k hk hk2 => ?_, fun k hk hk2 => ?_, o4, fun ct2 hct2 => Lib.hid ⟨numd_app u1 (by rw [x1, u2]) x2, by simp [u2], fun j y hy => ?_, ?_, ?_, ?_, ht4.sub fun _ h => h.elim⟩⟩
          · rw [o3, List.getElem?_append_left (by rw [sepL_len, if_pos hk]; omega)]
            have : k = 0 := by omega
            subst this
            rw [hk]
            rfl
          · rw [o3, List.getElem?_append_right (by rw [sepL_len]; exact hk), sepL_len]
            have hq := linesJ_at (X := xS) (L := l ++ [x]) (s := s) (n := i + 1 - s) (k := k - (if sep = true then 1 else 0)) (by rw [o3, List.length_append, sepL_len, linesJ_len] at hk2; omega)
            rw [hq, lineJ_two]
            obtain ⟨yj, hyj⟩ : ∃ yj, (l ++ [x])[s + (k - (if sep = true then 1 else 0))]? = some yj := ⟨_, List.getElem?_eq_getElem (by rw [o3, List.length_append, sepL_len, linesJ_len] at hk2; simp [u2]; omega)⟩
            have hh : hitB (l ++ [x]) (s + (k - (if sep = true then 1 else 0))) = hitX yj := by unfold hitB hitX; rw [hyj]
            refine ⟨_, hitX yj, rfl, by rw [hh], ?_, by rw [o3, List.length_append, sepL_len, linesJ_len] at hk2; omega⟩
            rcases Nat.lt_or_ge (s + (k - (if sep = true then 1 else 0))) l.length with h9 | h9
            · rw [List.getElem?_append_left h9] at hyj
              exact u3 _ _ hyj
            · have h10 : s + (k - (if sep = true then 1 else 0)) = l.length := by rw [o3, List.length_append, sepL_len, linesJ_len] at hk2; omega
              rw [h10, List.getElem?_concat_length] at hyj
              injection hyj with hyj
              rw [h10, u2, ← hyj, x3]
              exact HV.out
          · rcases Nat.lt_or_ge j l.length with h9 | h9
            · rw [List.getElem?_append_left h9] at hy
              exact u3 _ _ hy
            · rw [List.getElem?_append_right h9] at hy
              have h10 : j = l.length := by
                rcases Nat.eq_zero_or_pos (j - l.length) with h11 | h11
                · omega
                · rw [List.getElem?_eq_none (by simp; omega)] at hy; cases hy
              rw [h10, Nat.sub_self] at hy
              injection hy with hy
              rw [h10, u2, ← hy, x3]
              exact HV.out
          · rw [hct2]
            by_cases h12 : hv = true
            · rw [if_pos h12]
              have := o7 (by rw [x3]; exact h12)
              omega
            · rw [if_neg h12]
              omega
          · rcases Nat.lt_or_ge i s with h12 | h12
            · rw [o6 (by omega), show i + 1 - s = 0 by omega]
              exact u5
            · rw [o5 h12]
              omega
          · intro hb0 ha0
            have h13 := u6' hb0 ha0
            have h14 := o8 hb0 ha0
            rw [x3] at h14
            rw [hct2]
            by_cases h12 : hv = true
            · rw [if_pos h12] at h14 ⊢
              omega
            · rw [if_neg h12] at h14 ⊢
              omega :
          ∃ (sep : Bool) (s : Nat), out.length = (if sep = true then 1 else 0) + (i + 1 - s) ∧ s ≤ i + 1 ∧ (∀ k, sep = true → k < 1 → out[k]? = some ⟨#[45, 45]⟩) ∧
            (∀ k, (if sep = true then 1 else 0) ≤ k → k < out.length → ∃ (j : Nat) (hj : Bool), j = s + (k - (if sep = true then 1 else 0)) ∧ out[k]? = some (itoaS (j : Int) ++ (if hj = true then ⟨#[58, 120]⟩ else ⟨#[45, 120]⟩)) ∧ hits[j]? = some hj ∧ j ≤ i) ∧ (sep = true → s ≤ i) ∧
            ∀ ct2, ct2 = ct + (if hv = true then 1 else 0) → Hid (Numd xS (l ++ [x]) ∧ (l ++ [x]).length = i + 1 ∧ (∀ (j : Nat) (y : Rw), (l ++ [x])[j]? = some y → hits[j]? = some (hitX y)) ∧ ct2 ≤ rc + (i + 1 - s) ∧ rc + (i + 1 - s) ≤ fromC (lastC (l ++ [x]) b a) ∧ (b = 0 → a = 0 → rc + (i + 1 - s) = ct2) ∧ Tel P w w4 (fun _ => False) g 3 b a (l ++ [x]) false))
        unfold Rw.rcd at HA
        unfold Rw.val
        clear x1 x2 x3 x4 x5 x6 x7 hb3 hbw hbW u1 u2 u3 u4 u5 u6' ht HO HRX hbl
        cases hv
        all_goals
          go_wp2_with (go_at_call 9; (with_reducible refine HA.out.mono ?_); rintro e w4 ⟨A4, c4, out, rfl, hr4, -, h4, -⟩; obtain ⟨hl4, ht4⟩ := h4 (by first | rfl | trivial); have HO4 := Lib.hid (HOUT.out A4 c4 out w4 _ hl4 ht4); have HR4 := Lib.hid hr4; have HB4 := Lib.hid ht4.bel; clear hr4 h4 hl4 ht4 HA HOUT)
          obtain ⟨sep, s, hm, hs1, hk1, hk2, hss, hfin⟩ := HO4.out
          obtain ⟨m, hm'⟩ : ∃ m, m = out.length := ⟨_, rfl⟩
          rw [← hm'] at hm hk2 HR4 ⊢
          obtain ⟨z, hz⟩ : ∃ z : Nat, z = if sep = true then 1 else 0 := ⟨_, rfl⟩
          rw [← hz] at hm hk2
          have hzs : z = 1 → sep = true ∧ s ≤ i := fun h => by
            cases sep
            · rw [if_neg (by decide)] at hz; omega
            · exact ⟨rfl, hss rfl⟩
          have hz1 : z ≤ 1 := by rw [hz]; split <;> omega
          have HZS := Lib.hid hzs
          have HK1 := Lib.hid hk1
          have HK2 := Lib.hid hk2
          have HFIN := Lib.hid hfin
          have HM := Lib.hid hm
          have HML := Lib.hid hm'
          have HRD := Lib.hid fun (wt : World) (hb : Below w4.heap.size w4 wt) (k : Nat) (S : ByteArray) (hS : out[k]? = some S) => (by
            have hr : RecW wt _ 9 1 (.slice A4 m c4) (strs out) := HR4.out.keep fun q hq _ => hb.block q hq
            obtain ⟨bo, co, e1, _, _, hc⟩ := hr.at (j := k) (x := [.string S]) (by simp [strs, hS])
            injection e1 with e1 _ _
            exact ⟨bo, e1, by have := hc 0 _ rfl; rwa [Nat.mul_one, Nat.add_zero] at this⟩ : ∃ bo, A4 = some ⟨bo, 0, none⟩ ∧ wt.cell? ⟨bo, k, none⟩ = some (.string S))
          have hmb : m ≤ 62 := by omega
          clear hm hk1 hk2 hss hfin hm' hz hzs HO4 HR4 d0
          go_loopw [12, 13, 17, 18, 19] (fun v12 v13 v17 _ _ wt => ∃ k : Nat, v17 = .int .i64 (k : Int) ∧ k ≤ m ∧ v12 = .int .i64 ((ln + k : Nat) : Int) ∧ v13 = .int .i64 ((rc + (k - z) : Nat) : Int) ∧ Hid (Below w4.heap.size w4 wt)) (fun _ _ v17 _ _ _ => m - (intOf v17).toNat)
          case atStart => exact ⟨0, rfl, Nat.zero_le _, rfl, (by rw [Nat.zero_sub, Nat.add_zero]), Lib.hid (Below.refl _ _)⟩
          case round =>
            obtain ⟨k, rfl, hk, rfl, rfl, HW⟩ := hrel
            by_cases hkm : k < m
            · by_cases hkz : k < z
              · have hz1' : z = 1 := by omega
                obtain ⟨hsep, _⟩ := HZS.out hz1'
                have hk0 : k = 0 := by omega
                subst hk0
                obtain ⟨bo, rfl, e0⟩ := HRD.out _ HW.out 0 _ (HK1.out 0 hsep (by decide))
                have HZ1 := Lib.hid hz1'
                clear hsep hz1' hkz
                go_wp2_with fail
                exact ⟨⟨1, rfl, by omega, by go_num, (by rw [HZ1.out]), HW⟩, by simp [intOf]; omega⟩
              · obtain ⟨j, hj, hjd, hS, hh, hji⟩ := HK2.out k (by omega) hkm
                obtain ⟨bo, rfl, e0⟩ := HRD.out _ HW.out k _ hS
                have hbel : Below w.heap.size w wr := HB4.out.trans (HW.out.mono HB4.out.size)
                have HDG := Lib.hid fun (w' : World) => dig_nat j (by omega) w'
                have hjj : (i : Int) - ((m : Int) - 1 - (k : Int)) = (j : Int) := by have := HM.out; omega
                have HJJ := Lib.hid hjj
                have hsz := itoaS_size j (by omega)
                have hsp := itoaS_pos' j
                obtain ⟨a0, ha0⟩ : ∃ a0, a0 = itoaS (j : Int) := ⟨_, rfl⟩
                rw [← ha0] at e0 HDG hsz hsp
                have l1 : ¬ 9223372036854775807 < a0.size + 2 := by omega
                have HJD := Lib.hid hjd
                have HHH := Lib.hid hh
                have hj0 : (0 : Int) ≤ (j : Int) := by omega
                have hjn : (j : Int) < (n : Int) := by omega
                have hS' := Lib.hid hS
                have HA0 := Lib.hid ha0
                clear hjd hS hjj ha0 hsz hji hh
                cases hj
                · have q1 := not_sep a0 45 hsp
                  simp only [Bool.false_eq_true, if_false] at e0
                  clear hsp
                  go_upto_region 22 with fail
                  rw [HJJ.out]
                  go_wp2_with fail
                  (with_reducible refine (HDG.out _).mono ?_); rintro e w5 ⟨rfl, hb5⟩
                  have hb5w : Below w.heap.size w w5 := hbel.trans (hb5.mono hbel.size)
                  have HB5 := Lib.hid (HW.out.trans (hb5.mono HW.out.size))
                  have b0 := HCB.out w5 hb5w j _ HHH.out
                  obtain ⟨bo', e1', e0'⟩ := HRD.out w5 HB5.out k _ hS'.out
                  injection e1' with e1'
                  injection e1' with e1' _ _
                  subst e1'
                  simp only [Bool.false_eq_true, if_false] at e0'
                  rw [← HA0.out] at e0'
                  clear e0 hb5 hb5w hbel q1
                  go_wp2_with fail
                  exact ⟨⟨k + 1, by go_num, by omega, by go_num, (by have : k + 1 - z = k - z + 1 := by omega
                                                                     rw [this]; go_num), HB5⟩, by simp [intOf]; omega⟩
                · have q1 := not_sep a0 58 hsp
                  simp only [if_true] at e0
                  clear hsp
                  go_upto_region 22 with fail
                  rw [HJJ.out]
                  go_wp2_with fail
                  (with_reducible refine (HDG.out _).mono ?_); rintro e w5 ⟨rfl, hb5⟩
                  have hb5w : Below w.heap.size w w5 := hbel.trans (hb5.mono hbel.size)
                  have b0 := HCB.out w5 hb5w j _ HHH.out
                  have HB5 := Lib.hid (HW.out.trans (hb5.mono HW.out.size))
                  clear hb5 hb5w
                  go_wp2_with fail
                  (with_reducible refine (HDG.out _).mono ?_); rintro e w6 ⟨rfl, hb6⟩
                  have HB6 := Lib.hid (HB5.out.trans (hb6.mono HB5.out.size))
                  obtain ⟨bo', e1', e0'⟩ := HRD.out w6 HB6.out k _ hS'.out
                  injection e1' with e1'
                  injection e1' with e1' _ _
                  subst e1'
                  simp only [if_true] at e0'
                  rw [← HA0.out] at e0'
                  clear e0 hb6 hbel q1 b0
                  go_wp2_with fail
                  exact ⟨⟨k + 1, by go_num, by omega, by go_num, (by have : k + 1 - z = k - z + 1 := by omega
                                                                     rw [this]; go_num), HB6⟩, by simp [intOf]; omega⟩
            · have hkm' : k = m := by omega
              subst hkm'
              have hd : k - z = i + 1 - s := by have := HM.out; omega
              first
                | (have F := (HFIN.out (ct) (by simp)).out
                   rw [← hd] at F
                   have f1 : rc + (k - z) ≤ i + 1 := by
                     have h1 := lastC_lt (l ++ [x]) b a
                     rw [F.2.1] at h1
                     omega
                   have f2 : ln + k ≤ 2 * (rc + (k - z)) := by
                     have h1 := HM.out
                     rcases Nat.eq_zero_or_pos z with h2 | h2
                     · omega
                     · have := (HZS.out (by omega)).2
                       omega
                   have f3 : ct ≤ i + 1 := by omega
                   have HF := Lib.hid (⟨F.1, F.2.1, F.2.2.1, F.2.2.2.1, F.2.2.2.2.1, F.2.2.2.2.2.1, (F.2.2.2.2.2.2.below T HW.out).1⟩ : Numd xS (l ++ [x]) ∧ (l ++ [x]).length = i + 1 ∧ (∀ (j : Nat) (y : Rw), (l ++ [x])[j]? = some y → hits[j]? = some (hitX y)) ∧ ct ≤ rc + (k - z) ∧ rc + (k - z) ≤ fromC (lastC (l ++ [x]) b a) ∧ (b = 0 → a = 0 → rc + (k - z) = ct) ∧ Tel P w wr (fun _ => False) g 3 b a (l ++ [x]) false)
                   have HF1 := Lib.hid f1
                   have HF2 := Lib.hid f2
                   have hkz : k - z ≤ 62 := by omega
                   clear F f1 f2 hd HFIN HM HZS HML HK1 HK2 HRD
                   go_wp2_with fail
                   exact ⟨⟨i + 1, ct, ln + k, rc + (k - z), l ++ [x], by first | rfl | go_num, by first | rfl | go_num, by first | rfl | go_num, by go_num, by omega, f3, HF1.out, HF2.out, HF⟩, by simp [intOf]; omega⟩)
                | (have F := (HFIN.out (ct + 1) (by simp)).out
                   rw [← hd] at F
                   have f1 : rc + (k - z) ≤ i + 1 := by
                     have h1 := lastC_lt (l ++ [x]) b a
                     rw [F.2.1] at h1
                     omega
                   have f2 : ln + k ≤ 2 * (rc + (k - z)) := by
                     have h1 := HM.out
                     rcases Nat.eq_zero_or_pos z with h2 | h2
                     · omega
                     · have := (HZS.out (by omega)).2
                       omega
                   have f3 : ct + 1 ≤ i + 1 := by omega
                   have HF := Lib.hid (⟨F.1, F.2.1, F.2.2.1, F.2.2.2.1, F.2.2.2.2.1, F.2.2.2.2.2.1, (F.2.2.2.2.2.2.below T HW.out).1⟩ : Numd xS (l ++ [x]) ∧ (l ++ [x]).length = i + 1 ∧ (∀ (j : Nat) (y : Rw), (l ++ [x])[j]? = some y → hits[j]? = some (hitX y)) ∧ ct + 1 ≤ rc + (k - z) ∧ rc + (k - z) ≤ fromC (lastC (l ++ [x]) b a) ∧ (b = 0 → a = 0 → rc + (k - z) = ct + 1) ∧ Tel P w wr (fun _ => False) g 3 b a (l ++ [x]) false)
                   have HF1 := Lib.hid f1
                   have HF2 := Lib.hid f2
                   have hkz : k - z ≤ 62 := by omega
                   clear F f1 f2 hd HFIN HM HZS HML HK1 HK2 HRD
                   go_wp2_with fail
                   exact ⟨⟨i + 1, ct + 1, ln + k, rc + (k - z), l ++ [x], by first | rfl | go_num, by first | rfl | go_num, by first | rfl | go_num, by go_num, by omega, f3, HF1.out, HF2.out, HF⟩, by simp [intOf]; omega⟩)
      · have hin : i = n := by omega
        subst hin
        obtain ⟨u1, u2, u3, u4, u5, u6, ht⟩ := HO.out
        have HBW := Lib.hid ht.bel
        have U6 := Lib.hid u6
        clear HO u1 u2 u3 u5 u6 ht
        have p1 : decide (ct ≤ rc) = true := by simpa using u4
        have p2 : decide (rc ≤ i) = true := by simpa using hrc
        have p4 : decide ((ln : Int) ≤ 2 * (rc : Int)) = true := by simp; omega
        by_cases h0 : b = 0 ∧ a = 0
        · obtain ⟨rfl, rfl⟩ := h0
          have e1 := U6.out rfl rfl
          subst e1
          go_wp2_with fail
          go_ret
          exact ⟨rfl, HBW.out⟩
        · have p3 : decide ((0 : Int) < (b : Int) + (a : Int)) = true := by simp; omega
          clear h0
          go_wp2_with fail
          go_ret
          exact ⟨rfl, HBW.out⟩
  · have dn : decide (60 < n) = true := by simp; omega
    clear h
    go_enter Tryd.func4, Tryd.ntmps4
    go_wp2_with (go_at_call 7; first | ((with_reducible refine (HAW.out w1 (T.gb hG HB1.out)).mono ?_); rintro e w2 ⟨rfl, hb2⟩; have HB2 := Lib.hid (HB1.out.trans (hb2.mono HB1.out.size)); clear hb2) | ((with_reducible refine (HAW.out w hG).mono ?_); rintro e w1 ⟨rfl, hb1⟩; have HB1 := Lib.hid hb1; clear hb1))
    go_ret
    exact ⟨rfl, HB2.out⟩
end
end Go.Proofs.YtebmafghekfllaaDoor
