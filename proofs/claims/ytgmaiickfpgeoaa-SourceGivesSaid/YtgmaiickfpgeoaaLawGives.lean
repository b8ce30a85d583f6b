/- SourceGives: the walk. -/
import Derived.Test.YtgmaiickfpgeoaaPair
import Derived.BigQuiet
import Derived.Deep.QuietTactic
namespace Go.Proofs.Ytgmaiickfpgeoaa
open Go Go.RowKit
set_option linter.unusedVariables false

theorem ii_elem : Try.prog.elem 23 = 3 := by kernel_rfl
theorem ii_size (w : World) : (sizeOf 3).run Try.prog w = .ok 1 w := by kernel_rfl
theorem ii_slice : Try.prog.underlying 23 = some (.slice (Try.prog.elem 23)) := by rw [ii_elem]; exact Try.underlying23
/-- zs[1:], of a list of numbers. -/
theorem ints_from (b o n c : Nat) (hl : 1 ≤ n) (hc : n ≤ c) :
    ∃ o', (2 ≤ n → o' = o + 1) ∧ ∀ w : World, (Instr.slice 23 (.slice (some ⟨b, o, none⟩) n c) (some (.int .i64 1)) none none).run Try.prog w = .ok (.slice (some ⟨b, o', none⟩) (n - 1) (c - 1)) w := by
  refine ⟨if c = 1 then o else o + 1, fun h => if_neg (by omega), fun w => ?_⟩
  have hr := run_slice_l (P := Try.prog) (w := w) (t := 23) (a := some ⟨b, o, none⟩) (len := n) (cap := c) (ht := ii_slice) (kl := .i64) (l := 1) (h0 := by omega) (h1 := by omega)
  rw [hr, ii_elem, ii_size]
  by_cases h1 : c = 1
  · simp [Result.andThen, sliced, h1]
  · simp [Result.andThen, sliced, h1, Addr.add]

theorem lawGives_awake (A D1 D2 : Option Addr) (len cap m1 d1 m2 d2 : Nat) (w : World) (hm : len ≤ maxLen) (hm1 : m1 ≤ maxLen) (hm2 : m2 ≤ maxLen) (h : 300 < len ∨ 10 < m1 ∨ 60 < m2) :
    Calls Try.prog 3 #[.slice A len cap, .slice D1 m1 d1, .slice D2 m2 d2] w fun e w' => e = .returned (.bool true) ∧ Below w.heap.size w w' := by
  unfold maxLen at hm hm1 hm2
  by_cases h0 : 300 < len
  · have hd : decide ((300 : Int) < (len : Int)) = true := by simp; omega
    go_enter Try.func3, Try.ntmps3
    go_wp2_with fail
    refine (awake5_any _).mono ?_; rintro e w1 ⟨rfl, hbel⟩
    go_wp2_with fail
    refine (awake5_any _).mono ?_; rintro e w2 ⟨rfl, hbel2⟩
    go_wp2_with fail
    go_ret
    exact ⟨rfl, hbel.trans (Below.mono hbel2 hbel.size)⟩
  · have hd : decide ((300 : Int) < (len : Int)) = false := by simp; omega
    by_cases h1 : 10 < m1
    · have hd1 : decide ((10 : Int) < (m1 : Int)) = true := by simp; omega
      go_enter Try.func3, Try.ntmps3
      go_wp2_with fail
      refine (awake5_any _).mono ?_; rintro e w1 ⟨rfl, hbel⟩
      go_wp2_with fail
      refine (awake5_any _).mono ?_; rintro e w2 ⟨rfl, hbel2⟩
      go_wp2_with fail
      go_ret
      exact ⟨rfl, hbel.trans (Below.mono hbel2 hbel.size)⟩
    · have hd1 : decide ((10 : Int) < (m1 : Int)) = false := by simp; omega
      have hd2 : decide ((60 : Int) < (m2 : Int)) = true := by simp; omega
      go_enter Try.func3, Try.ntmps3
      go_wp2_with fail
      refine (awake5_any _).mono ?_; rintro e w1 ⟨rfl, hbel⟩
      go_wp2_with fail
      refine (awake5_any _).mono ?_; rintro e w2 ⟨rfl, hbel2⟩
      go_wp2_with fail
      go_ret
      exact ⟨rfl, hbel.trans (Below.mono hbel2 hbel.size)⟩

set_option maxHeartbeats 4000000 in
set_option maxRecDepth 10000 in
theorem lawGives_none (A D1 D2 : Option Addr) (len cap m1 d1 m2 d2 : Nat) (xs z1 z2 : List Int) (fail er : Int) (D : Option Addr) (m d : Nat) (ps qs : List (List Int)) (W : World) (hl : len ≤ 300) (hl1 : m1 ≤ 10) (hl2 : m2 ≤ 60) (hr : RowI .u8 W A len xs) (hnc : len ≤ cap) (hcm : cap ≤ maxLen) (hnil : A = none → len = 0 ∧ cap = 0) (hz2 : RowI .i64 W D2 m2 z2)
    (hm0 : m1 = 0) (hD : D = none) (hmm : m = 0) (hdd : d = 0) (hfa : fail = -1)
    (hcase : ((fail < 0 ∨ (len : Int) < fail) ∧ ps = qs ∧ er = 19) ∨ ∃ F : Nat, fail = F ∧ F ≤ len ∧ ps = takeP F qs ∧ ps.flatten = xs.take F ∧ er = 11) (hfp : Full ps) (hfq : Full qs) (hqf : qs.flatten = xs) (hql : qs.length ≤ 1000)
    (hnew : ∀ (w : World) (P : Option Addr) (c : Nat), Below W.heap.size W w → RowI .u8 w P len xs → len ≤ c → c ≤ maxLen → (P = none → len = 0 ∧ c = 0) → Calls Try.prog 8 #[.slice P len c, .int .i64 fail, .slice D m d] w fun e w' => e = .returned (.pointer (some ⟨w.heap.size, 0, none⟩)) ∧ Src w' w.heap.size w'.heap.size w.heap.size ps er 0 (len : Int) ∧ Below w.heap.size w w')
    (hrnew : ∀ w : World, Below W.heap.size W w → Calls Try.prog 9 #[.string (strOfNums xs), .int .i64 fail, .slice D m d] w fun e w' => e = .returned (.pointer (some ⟨w.heap.size, 0, none⟩)) ∧ RSrc w' w.heap.size w'.heap.size w.heap.size (strOfNums xs) 0 fail (endsP 0 qs) ∧ Below w.heap.size w w') :
    Calls Try.prog 3 #[.slice A len cap, .slice D1 m1 d1, .slice D2 m2 d2] W fun e w' => e = .returned (.bool true) ∧ Below W.heap.size W w' := by
  have hd : decide ((300 : Int) < (len : Int)) = false := by simp; omega
  have hd1 : decide ((10 : Int) < (m1 : Int)) = false := by simp; omega
  have hd2 : decide ((60 : Int) < (m2 : Int)) = false := by simp; omega
  have hxl := hr.1
  have hcv : ∀ w, Below W.heap.size W w → (convert 22 9 (.slice A len cap)).run Try.prog w = .ok (.string (strOfNums xs)) w := fun w h => strRow w A len cap xs (hr.below h (Nat.le_refl _))
  have hpair := fun (w : World) (B U g G : Nat) => pair_next (w := w) (B := B) (U := U) (g := g) (G := G) hfp hfq hqf hxl hl hql hcase
  have HPAIR := Lib.hid hpair; clear hpair
  have HCV := Lib.hid hcv; clear hcv
  have HNEW := Lib.hid hnew; clear hnew
  have HRNEW := Lib.hid hrnew; clear hrnew
  have HR := Lib.hid hr; clear hr
  have HZ := Lib.hid hz2; clear hz2
  have HN := Lib.hid hnil; clear hnil
  have HXL := Lib.hid hxl; clear hxl
  have HFP := Lib.hid hfp; clear hfp
  clear hcase hfq hqf hql
  obtain ⟨S, hS⟩ : ∃ S, S = strOfNums xs := ⟨_, rfl⟩
  rw [← hS] at HCV HRNEW
  have HS := Lib.hid hS; clear hS
  subst hm0 hD hmm hdd hfa
  go_enter Try.func3, Try.ntmps3
  go_wp2_with fail
  refine (awake5_any _).mono ?_; rintro e w1 ⟨rfl, hb1⟩

  have hr1 := HR.out.below hb1 (Nat.le_refl _)
  obtain ⟨v1, w2, happ1, hown1, hgrow1⟩ := app_run .u8 22 5 1 Try.underlying22 info_u8 (w1.alloc (.cells #[] 5)) w1.heap.size (.slice (some ⟨w1.heap.size, 0, none⟩) 0 0) 0 [] (World.ownsRow_made w1 #[] 0 (Nat.le_refl _) (Nat.zero_le _) rfl)
    A len cap xs (hr1.alloc _) HN.out (by omega) (by unfold maxLen; omega) (by simp)
  have hb2 : Below w1.heap.size w1 w2 := ((Below.refl _ _).alloc (Nat.le_refl _) _).grown hgrow1 (by simp) (by intro k hk; simp [Value.ownBlock] at hk; omega)
  rw [Nat.zero_add, List.nil_append] at hown1
  obtain ⟨A1, c1, rfl, _, _, hn1, _⟩ := own_cells hown1
  obtain ⟨A1', c1', hA1, hri1, hc1, hm1⟩ := row_of_own hown1
  injection hA1 with e1 e2 e3
  subst e1; subst e3
  have hW2 : Below W.heap.size W w2 := hb1.trans (Below.mono hb2 hb1.size)
  have HA1 := Lib.hid happ1; clear happ1
  have HR1 := Lib.hid hri1; clear hri1
  have HNW := Lib.hid (HNEW.out w2 A1 c1 hW2 HR1.out hc1 hm1 hn1)
  clear hr1 hown1 hgrow1 hn1
  go_wp2_with (at_builtin; refine wpList_append_run rfl _ _ 22 rfl rfl _ _ _ _ rfl rfl HA1.out ?_)
  refine HNW.out.mono ?_; rintro e w3 ⟨rfl, hs3, hb3⟩
  have hW3 : Below W.heap.size W w3 := hW2.trans (Below.mono hb3 hW2.size)
  have hcv3 := HCV.out w3 hW3
  have HRN := Lib.hid (HRNEW.out w3 hW3)
  go_wp2_with fail
  refine HRN.out.mono ?_; rintro e w4 ⟨rfl, hr4, hb4⟩
  have hs4 := hs3.below hb4 (Nat.le_refl _)
  have hWB := hW2.size
  obtain ⟨B1, hB1⟩ : ∃ B, B = w2.heap.size := ⟨_, rfl⟩
  obtain ⟨U1, hU1⟩ : ∃ B, B = w3.heap.size := ⟨_, rfl⟩
  obtain ⟨U2, hU2⟩ : ∃ B, B = w4.heap.size := ⟨_, rfl⟩
  have hb24 : Below B1 w2 w4 := by rw [hB1]; exact hb3.trans (Below.mono hb4 hb3.size)
  have HI : Hid (∀ w, Below B1 w2 w → (convert 22 9 (.slice A1 len c1)).run Try.prog w = .ok (.string S) w) := Lib.hid (fun w h => by rw [HS.out]; exact strRow w A1 len c1 xs (HR1.out.below h (Nat.le_of_eq hB1.symm)))
  rw [← hB1, ← hU1] at hs4
  rw [← hU1, ← hU2] at hr4
  rw [← hB1] at hWB ⊢
  rw [← hU1]
  have HS4 := Lib.hid hs4; clear hs4
  have HR4 := Lib.hid hr4; clear hr4
  have HW2 := Lib.hid hW2; clear hW2
  clear hs3 hb1 hb2 hb3 hb4 hB1 hU1 hU2 hcv3 hc1 hm1 hW3

  go_wp2_with fail
  go_loopw [12] (fun vi wr => ∃ (i G : Nat), i ≤ m2 ∧ vi = .int .i64 (i : Int) ∧ G ≤ ps.flatten.length ∧ Hid (Src wr B1 U1 B1 (dropP G ps) er (G : Int) ((len : Int) - (G : Int))) ∧ Hid (RSrc wr U1 U2 U1 S (G : Int) (-1) (endsP 0 qs)) ∧ Below B1 w2 wr) (fun vi _ => m2 - (intOf vi).toNat)
  case atStart => exact ⟨0, 0, by omega, rfl, by omega, Lib.hid (by rw [dropP_zero _ HFP.out]; simpa using HS4.out), HR4, hb24⟩
  case round =>
    obtain ⟨i, G, hi, rfl, hG, HSx, HRx, hb⟩ := hrel
    by_cases hlt : i < m2
    · obtain ⟨b, o, rfl, hbl, hc⟩ := HZ.out.2 (by omega)
      have hbW : Below W.heap.size W wr := HW2.out.trans (Below.mono hb hWB)
      have hce : ∀ w', Below W.heap.size W w' → w'.cell? ⟨b, o + i, none⟩ = some (.int .i64 (z2.getD i 0)) := fun w' h => (h.cell (p := ⟨b, o + i, none⟩) hbl).trans (hc i hlt)
      obtain ⟨most, hmo⟩ : ∃ x, x = z2.getD i 0 := ⟨_, rfl⟩
      rw [← hmo] at hce
      obtain ⟨k, E, hE0, hE1, hk, hGk, hGl, hsn, hrn⟩ := HPAIR.out wr B1 U1 B1 G HSx.out hG most
      rw [← HS.out] at hrn
      obtain ⟨X, hX⟩ : ∃ X, X = strOfNums ((xs.drop G).take k) := ⟨_, rfl⟩
      rw [← hX] at hrn
      have HSN := Lib.hid hsn; clear hsn
      have HRNX := Lib.hid hrn; clear hrn
      have hc1 := hce wr hbW
      have HCE := Lib.hid hce; clear hce
      have HX := Lib.hid hX; clear hX
      have HGK := Lib.hid hGk; clear hGk
      have hi60 : i ≤ 60 := by omega
      clear hc hmo hG
      go_wp2_with fail
      refine HSN.out.mono ?_; rintro e w5 ⟨A5, c5, rfl, ho5, hs5, ht5⟩
      have hr5 := HRx.out.touch ht5 (Nat.le_refl _)
      have hU2 := HRx.out.2.2.1
      have hb5 : Below B1 w2 w5 := hb.trans ht5.1
      have hc5 := HCE.out w5 (HW2.out.trans (Below.mono hb5 hWB))
      have HRN5 := Lib.hid (HRNX.out w5 U1 U2 U1 hr5)
      have HO5 := Lib.hid ho5; clear ho5
      have HS5 := Lib.hid hs5; clear hs5
      clear hr5 hc1
      go_wp2_with fail
      refine HRN5.out.mono ?_; rintro e w6 ⟨rfl, hr6, ht6⟩
      have hs6 := HS5.out.below ht6.1 (Nat.le_refl _)
      have ho6 := own_touch HO5.out ht6 hU2
      have hBU : B1 ≤ U1 := by have := hs6.1; have := hs6.2.1; omega
      have hb6 : Below B1 w2 w6 := hb5.trans (Below.mono ht6.1 hBU)
      obtain ⟨_, _, hv5, hrow5, _, _⟩ := row_of_own ho6
      injection hv5 with e1 e2 e3
      subst e1; subst e3
      have kc5 : ∀ q, (convert 22 9 (.slice A5 k c5)).run Try.prog (w6.drewN q) = .ok (.string X) (w6.drewN q) := fun q => by rw [HX.out]; exact strRow _ A5 k c5 _ (hrow5.drewN q)
      obtain ⟨N, hN⟩ : ∃ N, N = G + k := ⟨_, rfl⟩
      rw [← hN] at hs6 hr6
      have r1 := hr6.c1
      have hgiv := fun q => given_any (hs6.drewN q)
      have hlef := fun q => left_any (hs6.drewN q)
      have HGIV := Lib.hid hgiv; clear hgiv
      have HLEF := Lib.hid hlef; clear hlef
      have hNl : N ≤ len := by omega
      have hwE : IntKind.i64.wrap E = E := by rw [IntKind.wrap_i64]; omega
      have hcx : 0 < k → ∃ gx v, A5 = some ⟨gx, 0, none⟩ ∧ U2 ≤ gx ∧ w6.cell? ⟨gx, 0, none⟩ = some (.int .u8 v) ∧ w6.frozen? ⟨gx, 0, none⟩ = false := by
        intro hk0
        obtain ⟨A', c', hv, _, _, hnn, haa⟩ := own_cells ho6
        injection hv with e1 e2 e3
        subst e1; subst e3
        rcases A5 with _ | a
        · have := (hnn rfl).1; omega
        · obtain ⟨gx, rfl, hgx, _, hcc, hff⟩ := haa a rfl
          obtain ⟨b', o', hA, _, hrc⟩ := hrow5.2 hk0
          injection hA with hA
          injection hA with e1 e2
          subst e1; subst e2
          exact ⟨gx, _, rfl, by omega, by have := hrc 0 hk0; simpa using this, hff 0⟩
      have HCX := Lib.hid hcx; clear hcx
      have HR6 := Lib.hid hr6; clear hr6
      have HS6 := Lib.hid hs6; clear hs6
      have HN2 := Lib.hid hN; clear hN
      have hsub : IntKind.i64.wrap ((len : Int) - (N : Int)) = (len : Int) - (N : Int) := by rw [IntKind.wrap_i64]; omega
      clear hrow5 ho6 ht6 ht5 hc5 hk
      go_wp2_with fail
      go_quiet (first
        | (go_at_call 12; exact Calls.quiet_of_same ((HGIV.out _).mono fun e w' ⟨he, hw⟩ => ⟨he, hw.symm⟩))
        | (go_at_call 13; exact Calls.quiet_of_same ((HLEF.out _).mono fun e w' ⟨he, hw⟩ => ⟨he, hw.symm⟩)))
      clear hwE hsub kc5 r1 hE0 hE1 hGl hNl hi60 hU2 hBU hbl
      rcases Nat.eq_zero_or_pos k with hk0 | hk0
      · subst hk0
        go_wp2_with fail
        refine ⟨⟨i + 1, N, by omega, by go_num, by have := HGK.out; have := HN2.out; omega, Lib.hid (HS6.out.drewN nq), Lib.hid (HR6.out.drewN nq), below_drewN hb6 nq⟩, by simp [intOf]; omega⟩
      · obtain ⟨gx, v, rfl, hgx, hcv, hfv⟩ := HCX.out hk0
        go_wp2_with fail
        have hUU : U1 < U2 := HR6.out.2.1
        have hBB : B1 < U1 := HS6.out.2.1
        have hbs : Below U2 (w6.drewN nq) ((w6.drewN nq).setCell ⟨gx, 0, none⟩ (.int .u8 (bits .xor .u8 v 1))) := (Below.refl _ _).setCell (p := ⟨gx, 0, none⟩) hgx _
        refine ⟨⟨i + 1, N, by omega, by go_num, by have := HGK.out; have := HN2.out; omega, Lib.hid ((HS6.out.drewN nq).below hbs (by omega)), Lib.hid ((HR6.out.drewN nq).below hbs (Nat.le_refl _)), (below_drewN hb6 nq).trans (Below.mono hbs (by omega))⟩, by simp [intOf]; omega⟩
    · obtain rfl : i = m2 := by omega
      have hin := HI.out wr hb
      have hbb : Below W.heap.size W wr := HW2.out.trans (Below.mono hb hWB)
      have hcv := HCV.out wr hbb
      go_wp2_with fail
      go_ret
      exact ⟨rfl, hbb⟩

set_option maxHeartbeats 4000000 in
set_option maxRecDepth 10000 in
theorem lawGives_some (A D1 D2 : Option Addr) (len cap m1 d1 m2 d2 : Nat) (xs z1 z2 : List Int) (fail er : Int) (D : Option Addr) (m d : Nat) (ps qs : List (List Int)) (W : World) (hl : len ≤ 300) (hl1 : m1 ≤ 10) (hl2 : m2 ≤ 60) (hr : RowI .u8 W A len xs) (hnc : len ≤ cap) (hcm : cap ≤ maxLen) (hnil : A = none → len = 0 ∧ cap = 0) (hz2 : RowI .i64 W D2 m2 z2)
    (b0 o0 o1 : Nat) (hD1 : D1 = some ⟨b0, o0, none⟩) (hD : D = some ⟨b0, o1, none⟩) (hmm : m = m1 - 1) (hdd : d = d1 - 1) (hm0 : 0 < m1) (hfc : ∀ w, Below W.heap.size W w → w.cell? ⟨b0, o0, none⟩ = some (.int .i64 fail)) (hsl : ∀ w : World, (Instr.slice 23 (.slice (some ⟨b0, o0, none⟩) m1 d1) (some (.int .i64 1)) none none).run Try.prog w = .ok (.slice (some ⟨b0, o1, none⟩) (m1 - 1) (d1 - 1)) w)
    (hcase : ((fail < 0 ∨ (len : Int) < fail) ∧ ps = qs ∧ er = 19) ∨ ∃ F : Nat, fail = F ∧ F ≤ len ∧ ps = takeP F qs ∧ ps.flatten = xs.take F ∧ er = 11) (hfp : Full ps) (hfq : Full qs) (hqf : qs.flatten = xs) (hql : qs.length ≤ 1000)
    (hnew : ∀ (w : World) (P : Option Addr) (c : Nat), Below W.heap.size W w → RowI .u8 w P len xs → len ≤ c → c ≤ maxLen → (P = none → len = 0 ∧ c = 0) → Calls Try.prog 8 #[.slice P len c, .int .i64 fail, .slice D m d] w fun e w' => e = .returned (.pointer (some ⟨w.heap.size, 0, none⟩)) ∧ Src w' w.heap.size w'.heap.size w.heap.size ps er 0 (len : Int) ∧ Below w.heap.size w w')
    (hrnew : ∀ w : World, Below W.heap.size W w → Calls Try.prog 9 #[.string (strOfNums xs), .int .i64 fail, .slice D m d] w fun e w' => e = .returned (.pointer (some ⟨w.heap.size, 0, none⟩)) ∧ RSrc w' w.heap.size w'.heap.size w.heap.size (strOfNums xs) 0 fail (endsP 0 qs) ∧ Below w.heap.size w w') :
    Calls Try.prog 3 #[.slice A len cap, .slice D1 m1 d1, .slice D2 m2 d2] W fun e w' => e = .returned (.bool true) ∧ Below W.heap.size W w' := by
  have hd : decide ((300 : Int) < (len : Int)) = false := by simp; omega
  have hd1 : decide ((10 : Int) < (m1 : Int)) = false := by simp; omega
  have hd2 : decide ((60 : Int) < (m2 : Int)) = false := by simp; omega
  have hxl := hr.1
  have hcv : ∀ w, Below W.heap.size W w → (convert 22 9 (.slice A len cap)).run Try.prog w = .ok (.string (strOfNums xs)) w := fun w h => strRow w A len cap xs (hr.below h (Nat.le_refl _))
  have hpair := fun (w : World) (B U g G : Nat) => pair_next (w := w) (B := B) (U := U) (g := g) (G := G) hfp hfq hqf hxl hl hql hcase
  have HPAIR := Lib.hid hpair; clear hpair
  have HCV := Lib.hid hcv; clear hcv
  have HNEW := Lib.hid hnew; clear hnew
  have HRNEW := Lib.hid hrnew; clear hrnew
  have HR := Lib.hid hr; clear hr
  have HZ := Lib.hid hz2; clear hz2
  have HN := Lib.hid hnil; clear hnil
  have HXL := Lib.hid hxl; clear hxl
  have HFP := Lib.hid hfp; clear hfp
  clear hcase hfq hqf hql
  obtain ⟨S, hS⟩ : ∃ S, S = strOfNums xs := ⟨_, rfl⟩
  rw [← hS] at HCV HRNEW
  have HS := Lib.hid hS; clear hS
  subst hD1 hD hmm hdd
  have HFC := Lib.hid hfc; clear hfc
  go_enter Try.func3, Try.ntmps3
  go_wp2_with fail
  refine (awake5_any _).mono ?_; rintro e w1 ⟨rfl, hb1⟩
  have hfc1 := HFC.out w1 hb1
  have hm1d : decide ((0 : Int) < (m1 : Int)) = true := by simp; omega
  go_wp2_with fail
  go_quiet (fail)
  obtain ⟨W1, hW1⟩ : ∃ W1, W1 = w1.drewN nq := ⟨_, rfl⟩
  rw [← hW1]
  have hb1 : Below W.heap.size W W1 := by rw [hW1]; exact below_drewN hb1 nq
  clear hfc1 hW1
  obtain ⟨w1, hw1⟩ : ∃ w, w = W1 := ⟨_, rfl⟩
  rw [← hw1] at hb1 ⊢
  clear hw1
  have hr1 := HR.out.below hb1 (Nat.le_refl _)
  obtain ⟨v1, w2, happ1, hown1, hgrow1⟩ := app_run .u8 22 5 1 Try.underlying22 info_u8 (w1.alloc (.cells #[] 5)) w1.heap.size (.slice (some ⟨w1.heap.size, 0, none⟩) 0 0) 0 [] (World.ownsRow_made w1 #[] 0 (Nat.le_refl _) (Nat.zero_le _) rfl)
    A len cap xs (hr1.alloc _) HN.out (by omega) (by unfold maxLen; omega) (by simp)
  have hb2 : Below w1.heap.size w1 w2 := ((Below.refl _ _).alloc (Nat.le_refl _) _).grown hgrow1 (by simp) (by intro k hk; simp [Value.ownBlock] at hk; omega)
  rw [Nat.zero_add, List.nil_append] at hown1
  obtain ⟨A1, c1, rfl, _, _, hn1, _⟩ := own_cells hown1
  obtain ⟨A1', c1', hA1, hri1, hc1, hm1⟩ := row_of_own hown1
  injection hA1 with e1 e2 e3
  subst e1; subst e3
  have hW2 : Below W.heap.size W w2 := hb1.trans (Below.mono hb2 hb1.size)
  have HA1 := Lib.hid happ1; clear happ1
  have HR1 := Lib.hid hri1; clear hri1
  have HNW := Lib.hid (HNEW.out w2 A1 c1 hW2 HR1.out hc1 hm1 hn1)
  clear hr1 hown1 hgrow1 hn1
  go_wp2_with (at_builtin; refine wpList_append_run rfl _ _ 22 rfl rfl _ _ _ _ rfl rfl HA1.out ?_)
  refine HNW.out.mono ?_; rintro e w3 ⟨rfl, hs3, hb3⟩
  have hW3 : Below W.heap.size W w3 := hW2.trans (Below.mono hb3 hW2.size)
  have hcv3 := HCV.out w3 hW3
  have HRN := Lib.hid (HRNEW.out w3 hW3)
  go_wp2_with fail
  refine HRN.out.mono ?_; rintro e w4 ⟨rfl, hr4, hb4⟩
  have hs4 := hs3.below hb4 (Nat.le_refl _)
  have hWB := hW2.size
  obtain ⟨B1, hB1⟩ : ∃ B, B = w2.heap.size := ⟨_, rfl⟩
  obtain ⟨U1, hU1⟩ : ∃ B, B = w3.heap.size := ⟨_, rfl⟩
  obtain ⟨U2, hU2⟩ : ∃ B, B = w4.heap.size := ⟨_, rfl⟩
  have hb24 : Below B1 w2 w4 := by rw [hB1]; exact hb3.trans (Below.mono hb4 hb3.size)
  have HI : Hid (∀ w, Below B1 w2 w → (convert 22 9 (.slice A1 len c1)).run Try.prog w = .ok (.string S) w) := Lib.hid (fun w h => by rw [HS.out]; exact strRow w A1 len c1 xs (HR1.out.below h (Nat.le_of_eq hB1.symm)))
  rw [← hB1, ← hU1] at hs4
  rw [← hU1, ← hU2] at hr4
  rw [← hB1] at hWB ⊢
  rw [← hU1]
  have HS4 := Lib.hid hs4; clear hs4
  have HR4 := Lib.hid hr4; clear hr4
  have HW2 := Lib.hid hW2; clear hW2
  clear hs3 hb1 hb2 hb3 hb4 hB1 hU1 hU2 hcv3 hc1 hm1 hW3

  go_wp2_with fail
  go_loopw [12] (fun vi wr => ∃ (i G : Nat), i ≤ m2 ∧ vi = .int .i64 (i : Int) ∧ G ≤ ps.flatten.length ∧ Hid (Src wr B1 U1 B1 (dropP G ps) er (G : Int) ((len : Int) - (G : Int))) ∧ Hid (RSrc wr U1 U2 U1 S (G : Int) fail (endsP 0 qs)) ∧ Below B1 w2 wr) (fun vi _ => m2 - (intOf vi).toNat)
  case atStart => exact ⟨0, 0, by omega, rfl, by omega, Lib.hid (by rw [dropP_zero _ HFP.out]; simpa using HS4.out), HR4, hb24⟩
  case round =>
    obtain ⟨i, G, hi, rfl, hG, HSx, HRx, hb⟩ := hrel
    by_cases hlt : i < m2
    · obtain ⟨b, o, rfl, hbl, hc⟩ := HZ.out.2 (by omega)
      have hbW : Below W.heap.size W wr := HW2.out.trans (Below.mono hb hWB)
      have hce : ∀ w', Below W.heap.size W w' → w'.cell? ⟨b, o + i, none⟩ = some (.int .i64 (z2.getD i 0)) := fun w' h => (h.cell (p := ⟨b, o + i, none⟩) hbl).trans (hc i hlt)
      obtain ⟨most, hmo⟩ : ∃ x, x = z2.getD i 0 := ⟨_, rfl⟩
      rw [← hmo] at hce
      obtain ⟨k, E, hE0, hE1, hk, hGk, hGl, hsn, hrn⟩ := HPAIR.out wr B1 U1 B1 G HSx.out hG most
      rw [← HS.out] at hrn
      obtain ⟨X, hX⟩ : ∃ X, X = strOfNums ((xs.drop G).take k) := ⟨_, rfl⟩
      rw [← hX] at hrn
      have HSN := Lib.hid hsn; clear hsn
      have HRNX := Lib.hid hrn; clear hrn
      have hc1 := hce wr hbW
      have HCE := Lib.hid hce; clear hce
      have HX := Lib.hid hX; clear hX
      have HGK := Lib.hid hGk; clear hGk
      have hi60 : i ≤ 60 := by omega
      clear hc hmo hG
      go_wp2_with fail
      refine HSN.out.mono ?_; rintro e w5 ⟨A5, c5, rfl, ho5, hs5, ht5⟩
      have hr5 := HRx.out.touch ht5 (Nat.le_refl _)
      have hU2 := HRx.out.2.2.1
      have hb5 : Below B1 w2 w5 := hb.trans ht5.1
      have hc5 := HCE.out w5 (HW2.out.trans (Below.mono hb5 hWB))
      have HRN5 := Lib.hid (HRNX.out w5 U1 U2 U1 hr5)
      have HO5 := Lib.hid ho5; clear ho5
      have HS5 := Lib.hid hs5; clear hs5
      clear hr5 hc1
      go_wp2_with fail
      refine HRN5.out.mono ?_; rintro e w6 ⟨rfl, hr6, ht6⟩
      have hs6 := HS5.out.below ht6.1 (Nat.le_refl _)
      have ho6 := own_touch HO5.out ht6 hU2
      have hBU : B1 ≤ U1 := by have := hs6.1; have := hs6.2.1; omega
      have hb6 : Below B1 w2 w6 := hb5.trans (Below.mono ht6.1 hBU)
      obtain ⟨_, _, hv5, hrow5, _, _⟩ := row_of_own ho6
      injection hv5 with e1 e2 e3
      subst e1; subst e3
      have kc5 : ∀ q, (convert 22 9 (.slice A5 k c5)).run Try.prog (w6.drewN q) = .ok (.string X) (w6.drewN q) := fun q => by rw [HX.out]; exact strRow _ A5 k c5 _ (hrow5.drewN q)
      obtain ⟨N, hN⟩ : ∃ N, N = G + k := ⟨_, rfl⟩
      rw [← hN] at hs6 hr6
      have r1 := hr6.c1
      have hgiv := fun q => given_any (hs6.drewN q)
      have hlef := fun q => left_any (hs6.drewN q)
      have HGIV := Lib.hid hgiv; clear hgiv
      have HLEF := Lib.hid hlef; clear hlef
      have hNl : N ≤ len := by omega
      have hwE : IntKind.i64.wrap E = E := by rw [IntKind.wrap_i64]; omega
      have hcx : 0 < k → ∃ gx v, A5 = some ⟨gx, 0, none⟩ ∧ U2 ≤ gx ∧ w6.cell? ⟨gx, 0, none⟩ = some (.int .u8 v) ∧ w6.frozen? ⟨gx, 0, none⟩ = false := by
        intro hk0
        obtain ⟨A', c', hv, _, _, hnn, haa⟩ := own_cells ho6
        injection hv with e1 e2 e3
        subst e1; subst e3
        rcases A5 with _ | a
        · have := (hnn rfl).1; omega
        · obtain ⟨gx, rfl, hgx, _, hcc, hff⟩ := haa a rfl
          obtain ⟨b', o', hA, _, hrc⟩ := hrow5.2 hk0
          injection hA with hA
          injection hA with e1 e2
          subst e1; subst e2
          exact ⟨gx, _, rfl, by omega, by have := hrc 0 hk0; simpa using this, hff 0⟩
      have HCX := Lib.hid hcx; clear hcx
      have HR6 := Lib.hid hr6; clear hr6
      have HS6 := Lib.hid hs6; clear hs6
      have HN2 := Lib.hid hN; clear hN
      have hsub : IntKind.i64.wrap ((len : Int) - (N : Int)) = (len : Int) - (N : Int) := by rw [IntKind.wrap_i64]; omega
      clear hrow5 ho6 ht6 ht5 hc5 hk
      go_wp2_with fail
      go_quiet (first
        | (go_at_call 12; exact Calls.quiet_of_same ((HGIV.out _).mono fun e w' ⟨he, hw⟩ => ⟨he, hw.symm⟩))
        | (go_at_call 13; exact Calls.quiet_of_same ((HLEF.out _).mono fun e w' ⟨he, hw⟩ => ⟨he, hw.symm⟩)))
      clear hwE hsub kc5 r1 hE0 hE1 hGl hNl hi60 hU2 hBU hbl
      rcases Nat.eq_zero_or_pos k with hk0 | hk0
      · subst hk0
        go_wp2_with fail
        refine ⟨⟨i + 1, N, by omega, by go_num, by have := HGK.out; have := HN2.out; omega, Lib.hid (HS6.out.drewN nq), Lib.hid (HR6.out.drewN nq), below_drewN hb6 nq⟩, by simp [intOf]; omega⟩
      · obtain ⟨gx, v, rfl, hgx, hcv, hfv⟩ := HCX.out hk0
        go_wp2_with fail
        have hUU : U1 < U2 := HR6.out.2.1
        have hBB : B1 < U1 := HS6.out.2.1
        have hbs : Below U2 (w6.drewN nq) ((w6.drewN nq).setCell ⟨gx, 0, none⟩ (.int .u8 (bits .xor .u8 v 1))) := (Below.refl _ _).setCell (p := ⟨gx, 0, none⟩) hgx _
        refine ⟨⟨i + 1, N, by omega, by go_num, by have := HGK.out; have := HN2.out; omega, Lib.hid ((HS6.out.drewN nq).below hbs (by omega)), Lib.hid ((HR6.out.drewN nq).below hbs (Nat.le_refl _)), (below_drewN hb6 nq).trans (Below.mono hbs (by omega))⟩, by simp [intOf]; omega⟩
    · obtain rfl : i = m2 := by omega
      have hin := HI.out wr hb
      have hbb : Below W.heap.size W wr := HW2.out.trans (Below.mono hb hWB)
      have hcv := HCV.out wr hbb
      go_wp2_with fail
      go_ret
      exact ⟨rfl, hbb⟩
end Go.Proofs.Ytgmaiickfpgeoaa
