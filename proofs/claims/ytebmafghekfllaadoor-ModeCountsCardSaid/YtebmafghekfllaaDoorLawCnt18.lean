/- ModeCounts: out of any teller. -/
import Derived.Test.YtebmafghekfllaaDoorTwo18
namespace Go.Proofs.YtebmafghekfllaaDoor
open Go Go.RowKit
set_option linter.unusedVariables false
set_option maxRecDepth 20000
theorem lines0 (b a : Nat) (l : List Rw) (fin : Bool) : (linesV 0 b a l fin).1 = linesA l := rfl
theorem lines2 (b a : Nat) (l : List Rw) (fin : Bool) : (linesV 2 b a l fin).1 = linesC l fin := rfl
theorem linesA_cnt {l : List Rw} : ∀ k, k ≤ l.length → (linesA (l.take k)).length = cntH l k
  | 0, _ => rfl
  | k + 1, h => by
    obtain ⟨x, hx⟩ : ∃ x, l[k]? = some x := ⟨_, List.getElem?_eq_getElem (by omega)⟩
    rw [linesA_snoc hx, List.length_append, linesA_cnt k (by omega), cntH_succ hx]
    simp [linesX]
section
variable {P : TelP} {G : World → Prop} (T : TelF G P)
include T
set_option maxHeartbeats 16000000 in
theorem counts18_any (A : Option Addr) (n c : Nat) (l : List Rw) (w : World) (hG : G w) (h : RowsIn w A n l) :
    Calls Tryd.prog 6 #[.slice A n c] w fun e w' => e = .returned (.bool true) ∧ Below w.heap.size w w' := by
  have HAW := Lib.hid fun w' (hg : G w') => awake18_any T w' hg
  have HGG := Lib.hid hG
  by_cases hn : n ≤ 30
  · have H := Lib.hid h
    have HL := Lib.hid h.len
    have dn : decide (30 < n) = false := by simpa using hn
    clear h
    go_enter Tryd.func6, Tryd.ntmps6
    go_wp2_with (go_at_call 7; (with_reducible refine (HAW.out w hG).mono ?_); rintro e w1 ⟨rfl, hb1⟩; have HB1 := Lib.hid hb1; have hg1 := T.gb hG hb1; have HG1 := Lib.hid hg1; have HN1 := Lib.hid (show Calls Tryd.prog 8 #[.int .i64 0, .int .i64 0, .int .i64 0] w1 _ from tNew T hg1 0 0 0 hb1 (by decide) (by decide) (by decide)); clear hb1 hg1)
    (with_reducible refine HN1.out.mono ?_); rintro e w2 ⟨g, rfl, ht, hb2⟩
    have HN2 := Lib.hid (show Calls Tryd.prog 8 #[.int .i64 2, .int .i64 0, .int .i64 0] w2 _ from two_new T (T.gb HG1.out hb2) ht 2 0 0 (by decide) (by decide) (by decide))
    clear ht hb2
    go_wp2_with fail
    (with_reducible refine HN2.out.mono ?_); rintro e w3 ⟨g', rfl, ht⟩
    have HT := Lib.hid ht
    clear ht HN1 HN2
    go_wp2_with fail
    go_loopw [7, 8, 9, 10] (fun v7 v8 v9 v10 wr => ∃ i r z : Nat, v7 = .int .i64 (r : Int) ∧ v8 = .int .i64 (z : Int) ∧ v9 = .int .i64 (i : Int) ∧ i ≤ n ∧ r ≤ i ∧ z ≤ 10 * i ∧ Hid (r = cntR l i ∧ z = cntH l i ∧ (∀ x ∈ l.take i, okX x) ∧ Two P w wr g 0 0 0 (l.take i) false g' 2 0 0 (l.take i) false)) (fun _ _ v9 _ _ => n - (intOf v9).toNat)
    case atStart => exact ⟨0, 0, 0, rfl, rfl, rfl, Nat.zero_le _, Nat.le_refl _, Nat.le_refl _, Lib.hid ⟨rfl, rfl, fun x hx => by (simp at hx), HT.out⟩⟩
    case round =>
      obtain ⟨i, r, z, rfl, rfl, rfl, hi, hr, hz, HO⟩ := hrel
      have hrc := row_cells
      by_cases hlt : i < n
      · obtain ⟨x, hx⟩ : ∃ x, l[i]? = some x := ⟨_, List.getElem?_eq_getElem (by rw [HL.out]; exact hlt)⟩
        obtain ⟨q1, q2, q3, ht⟩ := HO.out
        have HBEL := Lib.hid ht.bel
        obtain ⟨bb, o, hA, hbl, d0, d1, d2, d3⟩ := (H.out.below ht.bel).at hx
        subst hA
        by_cases hxz : x.tx.size ≤ 60
        · by_cases hxm : x.hm ≤ 10
          · have dz : decide (60 < (x.tx.size : Int)) = false := by simp; omega
            have dm : decide (10 < (x.hm : Int)) = false := by simp; omega
            have hmem := H.out.2 x (List.mem_of_getElem? hx)
            have hok := ok_snoc hx q3 hxm hxz
            have e1 := take_snocL hx
            have hll : (l.take i).length ≤ 100 := by rw [List.length_take]; omega
            have HA1 := Lib.hid (show Calls Tryd.prog 9 #[.pointer (some ⟨g, 0, none⟩), x.rcd, .slice x.hA x.hm x.hc] wr.drew _ from two_add T HGG.out (ht.below T (below_drewN (Below.refl wr.heap.size wr) 1)) x hmem.1 hxm hxz hmem.2.1 hmem.2.2 hll)
            have HA2 := Lib.hid fun (w4 : World) (ht : Two P w w4 g 0 0 0 (l.take i ++ [x]) false g' 2 0 0 (l.take i) false) => (show Calls Tryd.prog 9 #[.pointer (some ⟨g', 0, none⟩), x.rcd, .slice x.hA x.hm x.hc] w4.drew _ from two_add T HGG.out (ht.below T (below_drewN (Below.refl w4.heap.size w4) 1)).swap x hmem.1 hxm hxz hmem.2.1 hmem.2.2 hll)
            have HFIN := Lib.hid fun (m : Nat) (w5 : World) (hm : (linesV 0 0 0 (l.take i ++ [x]) false).1.length = (linesV 0 0 0 (l.take i) false).1.length + m) (ht : Two P w w5 g' 2 0 0 (l.take i ++ [x]) false g 0 0 0 (l.take i ++ [x]) false) => (by
              have hd := hitB_dec hx
              have hmg : m = (goodH x).length := by
                rw [lines0, lines0, ← e1, linesA_cnt (i + 1) (by rw [HL.out]; omega), linesA_cnt i (by rw [HL.out]; omega), cntH_succ hx] at hm
                omega
              have hm10 : m ≤ 10 := by
                have h1 := cells_le_good x
                rw [hmem.1.len] at h1
                omega
              rw [← hmg] at hd
              rw [← e1] at ht
              refine ⟨hm10, fun h0 => ?_, fun h0 => ?_⟩
              · subst h0
                exact Lib.hid ⟨by rw [q1, cntR_succ, ← hd]; rfl, by rw [q2, cntH_succ hx, ← hmg], hok, ht.swap⟩
              · exact Lib.hid ⟨by rw [q1, cntR_succ, ← hd, show decide (0 < m) = true by simpa using h0]; rfl, by rw [q2, cntH_succ hx, ← hmg], hok, ht.swap⟩ :
              m ≤ 10 ∧ (m = 0 → Hid (r = cntR l (i + 1) ∧ z + m = cntH l (i + 1) ∧ (∀ x ∈ l.take (i + 1), okX x) ∧ Two P w w5 g 0 0 0 (l.take (i + 1)) false g' 2 0 0 (l.take (i + 1)) false)) ∧
                (0 < m → Hid (r + 1 = cntR l (i + 1) ∧ z + m = cntH l (i + 1) ∧ (∀ x ∈ l.take (i + 1), okX x) ∧ Two P w w5 g 0 0 0 (l.take (i + 1)) false g' 2 0 0 (l.take (i + 1)) false)))
            have HAT := Lib.hid fun (w' : World) (hw : Below w.heap.size w w') => (H.out.below hw).at hx
            unfold Rw.rcd at HA1 HA2
            clear hmem hok e1 hll ht q1 q2 q3 HO hx
            go_upto_region 13 with fail
            have g0 : ∀ w', Below w.heap.size w w' → w'.cell? ⟨bb, o + i * 4, none⟩ = some (.int .i64 x.n) := fun w' hw => by
              obtain ⟨b9, o9, e9, _, q0, _⟩ := HAT.out w' hw
              injection e9 with e9; injection e9 with e9 e10 _; subst e9; subst e10
              exact q0
            have g1 : ∀ w', Below w.heap.size w w' → w'.cell? ⟨bb, o + i * 4 + 1, none⟩ = some (.int .i64 x.p) := fun w' hw => by
              obtain ⟨b9, o9, e9, _, _, q0, _⟩ := HAT.out w' hw
              injection e9 with e9; injection e9 with e9 e10 _; subst e9; subst e10
              exact q0
            have g2 : ∀ w', Below w.heap.size w w' → w'.cell? ⟨bb, o + i * 4 + 2, none⟩ = some (.string x.tx) := fun w' hw => by
              obtain ⟨b9, o9, e9, _, _, _, q0, _⟩ := HAT.out w' hw
              injection e9 with e9; injection e9 with e9 e10 _; subst e9; subst e10
              exact q0
            have g3 : ∀ w', Below w.heap.size w w' → w'.cell? ⟨bb, o + i * 4 + 3, none⟩ = some (.slice x.hA x.hm x.hc) := fun w' hw => by
              obtain ⟨b9, o9, e9, _, _, _, _, q0⟩ := HAT.out w' hw
              injection e9 with e9; injection e9 with e9 e10 _; subst e9; subst e10
              exact q0
            have hS0 : Below w.heap.size w wr.drew := below_drewN HBEL.out 1
            clear d0 d1 d2 d3
            go_region_held (fun w' => Below w.heap.size w w') (assumption) (first
              | (go_at_call 9; (with_reducible refine HA1.out.mono ?_); rintro e w4 ⟨D, m, d, rfl, hm, ht⟩; have hS1 : Below w.heap.size w w4 := ht.bel; have HM := Lib.hid hm; have HT4 := Lib.hid ht; clear hm ht))
            have HA3 := Lib.hid (HA2.out w4 HT4.out)
            have hS2 : Below w.heap.size w w4.drew := below_drewN HT4.out.bel 1
            clear hS0 hS1 HA1 HA2
            go_upto_region 14 with fail
            go_region_held (fun w' => Below w.heap.size w w') (assumption) (first
              | (go_at_call 9; (with_reducible refine HA3.out.mono ?_); rintro e w5 ⟨D2, m2, d2, rfl, -, ht⟩; have hS3 : Below w.heap.size w w5 := ht.bel; have HT5 := Lib.hid ht; clear ht))
            obtain ⟨m10, F0, F1⟩ := HFIN.out m w5 HM.out HT5.out
            clear g0 g1 g2 g3 hS2 hS3 HA3 HT4 HT5 HM HFIN HAT hbl dz dm
            rcases Nat.eq_zero_or_pos m with h0 | h0
            · have HF := F0 h0
              subst h0
              clear F0 F1
              go_wp2_with fail
              exact ⟨⟨i + 1, r, z, rfl, (by first | rfl | go_num), by go_num, by omega, by omega, by omega, HF⟩, by simp [intOf]; omega⟩
            · have HF := F1 h0
              have dmp : decide (0 < (m : Int)) = true := by simp; omega
              clear F0 F1
              go_wp2_with fail
              exact ⟨⟨i + 1, r + 1, z + m, by go_num, by go_num, by go_num, by omega, by omega, by omega, HF⟩, by simp [intOf]; omega⟩
          · have dz : decide (60 < (x.tx.size : Int)) = false := by simp; omega
            have dm : decide (10 < (x.hm : Int)) = true := by simp; omega
            clear HO ht q1 q2 q3 hx
            go_wp2_with fail
            go_ret
            exact ⟨rfl, HBEL.out⟩
        · have dz : decide (60 < (x.tx.size : Int)) = true := by simp; omega
          clear HO ht q1 q2 q3 hx
          go_wp2_with fail
          go_ret
          exact ⟨rfl, HBEL.out⟩
      · have hin : i = n := by omega
        subst hin
        obtain ⟨q1, q2, q3, ht⟩ := HO.out
        have e1 : l.take i = l := List.take_of_length_le (by rw [HL.out]; exact Nat.le_refl _)
        rw [e1] at ht
        have HF := Lib.hid (two_fin T HGG.out ht.swap (by rw [HL.out]; omega))
        have HDR := Lib.hid fun (w' : World) => dig_nat r (by omega) w'
        have HDZ := Lib.hid fun (w' : World) => dig_nat z (by omega) w'
        have z1 := itoaS_size r (by omega)
        have z2 := itoaS_size z (by omega)
        have hlc : linesC l true = [itoaS (r : Int) ++ ⟨#[32]⟩ ++ itoaS (z : Int)] := by
          unfold linesC
          rw [if_pos rfl, HL.out, ← q1, ← q2]
        obtain ⟨sr, hsr⟩ : ∃ s, s = itoaS (r : Int) := ⟨_, rfl⟩
        obtain ⟨sz, hsz⟩ : ∃ s, s = itoaS (z : Int) := ⟨_, rfl⟩
        rw [← hsr] at HDR z1 hlc
        rw [← hsz] at HDZ z2 hlc
        have l1 : ¬ 9223372036854775807 < sr.size + 1 := by omega
        have l2 : ¬ 9223372036854775807 < sr.size + 1 + sz.size := by omega
        have HLC := Lib.hid hlc
        have HEQ := Lib.hid e1
        clear HO q1 q2 q3 ht e1 z1 z2 hlc hsr hsz
        go_wp2_with (go_at_call 14; (with_reducible refine HF.out.mono ?_); rintro e w4 ⟨D, d, out, rfl, hl, hr4, ht4⟩; have HX4 := Lib.hid (And.intro hl (And.intro hr4 ht4)); clear hl hr4 ht4)
        obtain ⟨hl, hr4, ht4⟩ := HX4.out
        have hout : out = [sr ++ ⟨#[32]⟩ ++ sz] := by
          have h1 : (linesV 2 0 0 l true).1 = [] ++ out := hl
          rw [lines2, HLC.out] at h1
          exact h1.symm
        subst hout
        have hrd : ReadR wr.heap.size w4 D 1 1 (strs [sr ++ ⟨#[32]⟩ ++ sz]) := rec_read hr4
        simp only [List.length_cons, List.length_nil, Nat.zero_add]
        have HRD := Lib.hid hrd
        have HT4 := Lib.hid ht4
        clear hl hr4 ht4 hrd HX4 HF
        (with_reducible refine (HDR.out w4).mono ?_); rintro e w5 ⟨rfl, hb5⟩
        have HB5 := Lib.hid hb5
        clear hb5
        go_wp2_with fail
        (with_reducible refine (HDZ.out w5).mono ?_); rintro e w6 ⟨rfl, hb6⟩
        have hb6' : Below w4.heap.size w4 w6 := HB5.out.trans (hb6.mono HB5.out.size)
        have hb7 : Below w6.heap.size w6 (w6.alloc (.cells #[.string (sr ++ ⟨#[32]⟩ ++ sz)] 9)) := (Below.refl _ _).alloc (Nat.le_refl _) _
        obtain ⟨W7, hW7⟩ : ∃ W7, W7 = w6.alloc (.cells #[.string (sr ++ ⟨#[32]⟩ ++ sz)] 9) := ⟨_, rfl⟩
        have hone : RecW W7 0 9 1 (.slice (some ⟨w6.heap.size, 0, none⟩) 1 1) (strs [sr ++ ⟨#[32]⟩ ++ sz]) := by rw [hW7]; exact one_str w6 (Nat.zero_le _) _
        rw [← hW7] at hb7
        have hb47 := hb6'.trans (hb7.mono hb6'.size)
        have hrd9 := rec_read hone
        have HTX := Lib.hid (texts18 [sr ++ ⟨#[32]⟩ ++ sz] D (some ⟨w6.heap.size, 0, none⟩) 1 d 1 W7 ((HRD.out.base (Nat.zero_le _)).below hb47) hrd9 (by decide))
        have HT7 := Lib.hid (HT4.out.below T hb47).1
        have HFE := Lib.hid fun q => tFin T HGG.out (HT7.out.below T (below_drewN (Below.refl W7.heap.size W7) q)).1 (by rw [HL.out]; omega)
        clear hb6 hb6' hb7 hone hb47 hrd9 HRD HT4 HB5 HDR HDZ
        go_wp2_with fail
        rw [← hW7]
        clear hW7
        (with_reducible refine HTX.out.mono ?_); rintro e w8 ⟨rfl, q, rfl⟩
        go_wp2_with (go_at_call 14; (with_reducible refine (HFE.out q).mono ?_); rintro e w9 ⟨D2, d2, out2, rfl, -, -, ht9, hl9, -⟩; have ho2 : out2 = [] := (by have h1 : linesA l = linesA l ++ out2 := hl9 (by first | rfl | trivial); simpa using h1); have HB9 := Lib.hid ht9.bel; clear ht9 hl9; subst ho2)
        go_ret
        exact ⟨rfl, HB9.out⟩
  · have dn : decide (30 < n) = true := by simp; omega
    clear h
    go_enter Tryd.func6, Tryd.ntmps6
    go_wp2_with (go_at_call 7; first | (with_reducible refine (HAW.out w1 (T.gb hG HB1.out)).mono ?_; rintro e w2 ⟨rfl, hb2⟩; have HB2 := Lib.hid (HB1.out.trans (hb2.mono HB1.out.size)); clear hb2) | ((with_reducible refine (HAW.out w hG).mono ?_); rintro e w1 ⟨rfl, hb1⟩; have HB1 := Lib.hid hb1; clear hb1))
    go_ret
    exact ⟨rfl, HB2.out⟩
end
end Go.Proofs.YtebmafghekfllaaDoor
