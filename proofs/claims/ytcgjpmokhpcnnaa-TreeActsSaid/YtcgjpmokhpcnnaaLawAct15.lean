/- TreeActs: whatever is added and cancelled, both trees answer alike. -/
import Derived.Test.YtcgjpmokhpcnnaaBoth15
import Derived.Deep.DeepCutAuto
import Derived.Deep.CutBlock
import Derived.Deep.CutRange
import Derived.Deep.LoopGhost
namespace Go.Proofs.Ytcgjpmokhpcnnaa
open Go Go.RowKit
set_option linter.unusedVariables false
set_option maxRecDepth 40000
def actO (kd x y : Int) : Obj := .cells #[.int .i64 kd, .int .i64 x, .int .i64 y] 30 (0, 0)
theorem actO_at {w : World} {ga : Nat} {kd x y : Int} (h : w.heap[ga]? = some (actO kd x y)) : w.cell? ⟨ga, 0, none⟩ = some (.int .i64 kd) ∧ w.cell? ⟨ga, 1, none⟩ = some (.int .i64 x) ∧ w.cell? ⟨ga, 2, none⟩ = some (.int .i64 y) :=
  ⟨cell_of_row w ga 0 _ _ (0, 0) h, cell_of_row w ga 1 _ _ (0, 0) h, cell_of_row w ga 2 _ _ (0, 0) h⟩
set_option maxHeartbeats 4000000 in
theorem act15_many (A : Option Addr) (m c : Nat) (w : World) (h : 60 < m) :
    Calls Try.prog 3 #[.slice A m c] w fun e w' => e = .returned (.bool true) ∧ Below w.heap.size w w' := by
  have HA := Lib.hid fun (w1 : World) (hb : Below w.heap.size w w1) => awake15_any treF w hb
  have hd : decide ((60 : Int) < (m : Int)) = true := by simp; omega
  clear h
  go_enter Try.func3, Try.ntmps3
  go_wp2_with fail
  refine (HA.out _ (Below.refl _ _)).mono ?_; rintro e w1 ⟨rfl, h1⟩
  have H1 := Lib.hid h1; clear h1
  go_wp2_with fail
  refine (HA.out _ H1.out).mono ?_; rintro e w2 ⟨rfl, h2⟩
  have H2 := Lib.hid h2; clear h2
  go_wp2_with fail
  go_ret
  exact ⟨rfl, H2.out⟩
set_option maxHeartbeats 8000000 in
theorem act15_good (A : Option Addr) (m c : Nat) (acts : List (Int × Int × Int)) (w : World) (hr : RowA15 w A m acts) (hm : m ≤ 60) :
    Calls Try.prog 3 #[.slice A m c] w fun e w' => e = .returned (.bool true) ∧ Below w.heap.size w w' := by
  have HA := Lib.hid (awake15_any treF w (Below.refl w.heap.size w))
  have HN := Lib.hid fun w2 (hb : Below w.heap.size w w2) => tre_new treF w hb
  have HR := Lib.hid hr
  have HL := Lib.hid (show acts.length = m by have := hr.1.1; simpa using this)
  have hac := act15_cells
  have hd : decide ((60 : Int) < (m : Int)) = false := by simp; omega
  clear hr
  go_enter Try.func3, Try.ntmps3
  go_wp2_with fail
  refine HA.out.mono ?_; rintro e w1 ⟨rfl, h1⟩
  have H1 := Lib.hid h1; clear h1 HA
  go_wp2_with fail
  refine (HN.out _ H1.out).mono ?_; rintro e w2 ⟨g, rfl, h2⟩
  have H2 := Lib.hid (bNewD h2); clear h2 HN H1
  go_wp2_with fail
  refine H2.out.mono ?_; rintro e w3 ⟨r, rfl, h3⟩
  have H3 := Lib.hid h3; clear h3 H2 hd
  go_wp2_with fail
  go_loopg [5] m (fun gk v5 wr => ∃ (i : Nat) (up ca : List Int), i ≤ m ∧ gk = m - i ∧ v5 = .int .i64 (i : Int) ∧ Hid (Both15 w wr [] g r up ca up ca)) 
  case atStart => exact ⟨0, _, _, by omega, by omega, rfl, H3⟩
  case round =>
    obtain ⟨i, up, ca, hi, hgk, rfl, HO⟩ := hrel
    clear H3
    by_cases hl : i < m
    · obtain ⟨b, o, rfl, -, hbl, hc⟩ := HR.out.2 (by omega)
      obtain ⟨a, ha⟩ : ∃ a, acts[i]? = some a := ⟨_, List.getElem?_eq_getElem (by rw [HL.out]; exact hl)⟩
      obtain ⟨kd, x, y⟩ := a
      have hcell := fun j v hv => (HO.out.to.cell (p := ⟨b, o + i * 3 + j, none⟩) hbl).trans (hc i (A15 ⟨kd, x, y⟩) (by simp [ha]) j v hv)
      have e0 := hcell 0 _ rfl
      have e1 := hcell 1 _ rfl
      have e2 := hcell 2 _ rfl
      simp only [Nat.add_zero] at e0
      clear hcell hc ha
      have HB0 := HO.out.alloc (actO kd x y)
      obtain ⟨wa, hwa⟩ : ∃ wa, wa = wr.alloc (actO kd x y) := ⟨_, rfl⟩
      obtain ⟨ga, hga⟩ : ∃ ga, ga = wr.heap.size := ⟨_, rfl⟩
      rw [← hwa, ← hga] at HB0
      have HB := Lib.hid HB0
      unfold actO at hwa
      have HWA := Lib.hid hwa
      have HGA := Lib.hid hga
      have HGK := Lib.hid hgk
      clear HB0 hwa hga hgk
      go_upto_region 9 with fail
      rw [← HWA.out, ← HGA.out]
      clear e0 e1 e2 HWA HGA HO
      obtain ⟨q0, q1, q2⟩ := actO_at (HB.out.at List.mem_cons_self)
      go_upto_if 39 with fail
      go_cut [7] from 37 to 87 (fun s7 wx => s7 = .bool true ∧ ∃ up' ca', Hid (Both15 w wx [(ga, actO kd x y)] g r up' ca' up' ca'))
      case first =>
        by_cases hk : kd = 0
        · subst hk
          have HP := Lib.hid (bAddP HB.out x)
          have HD := Lib.hid fun w2 (h : Both15 w w2 [(ga, actO 0 x y)] g r (addU up x) (addC up ca x) up ca) => bAddD h x
          obtain ⟨p1, hp1⟩ : ∃ p, p = addX up x := ⟨_, rfl⟩
          obtain ⟨p2, hp2⟩ : ∃ p, p = addE up x := ⟨_, rfl⟩
          rw [← hp1, ← hp2] at HP HD
          clear hp1 hp2 HB
          go_wp2_with fail
          refine HP.out.mono ?_; rintro e w4 ⟨rfl, h4⟩
          have HD4 := Lib.hid (HD.out _ h4)
          clear q0 q1 q2 HP HD
          obtain ⟨q0, q1, q2⟩ := actO_at (h4.at List.mem_cons_self)
          clear h4
          go_wp2_with fail
          refine HD4.out.mono ?_; rintro e w5 ⟨rfl, h5⟩
          have H5 := Lib.hid h5
          clear h5 HD4 q0 q1 q2
          go_wp2_with fail
          go_meet
          exact ⟨rfl, _, _, H5⟩
        · have hkb : (kd == 0) = false := by simpa using hk
          have HP := Lib.hid (bCanP HB.out x y)
          have HD := Lib.hid fun w2 (h : Both15 w w2 [(ga, actO kd x y)] g r up (if canE up x y = 0 then canC up ca x y up.length else ca) up ca) => bCanD h x y
          obtain ⟨p1, hp1⟩ : ∃ p, p = (if canE up x y = 0 then (canN up ca x up.length : Int) else 0) := ⟨_, rfl⟩
          obtain ⟨p2, hp2⟩ : ∃ p, p = canE up x y := ⟨_, rfl⟩
          rw [← hp1, ← hp2] at HP HD
          clear hp1 hp2 HB hk
          go_wp2_with fail
          refine HP.out.mono ?_; rintro e w4 ⟨rfl, h4⟩
          have HD4 := Lib.hid (HD.out _ h4)
          clear q0 q1 q2 HP HD
          obtain ⟨q0, q1, q2⟩ := actO_at (h4.at List.mem_cons_self)
          clear h4
          go_wp2_with fail
          refine HD4.out.mono ?_; rintro e w5 ⟨rfl, h5⟩
          have H5 := Lib.hid h5
          clear h5 HD4 q0 q1 q2
          go_wp2_with fail
          go_meet
          exact ⟨rfl, _, _, H5⟩
      case rest =>
        obtain ⟨rfl, up', ca', HC⟩ := hcut
        clear q0 q1 q2 HB
        obtain ⟨AU, cU, AC, cC, d0, d1, -⟩ := HC.out.doc
        have hlen := HC.out.lens
        obtain ⟨n, hn⟩ : ∃ n, n = up'.length := ⟨_, rfl⟩
        rw [← hn] at d0 d1 hlen
        have HNN := Lib.hid hn
        obtain ⟨L, hL⟩ : ∃ L, L = belL up' x n := ⟨_, rfl⟩
        obtain ⟨z, hz⟩ : ∃ z, z = L.length := ⟨_, rfl⟩
        have hzn : z ≤ 256 := by
          rw [hz, hL]
          have := belL_length up' x n
          omega
        have k1 : ∀ w', Below wc.heap.size wc w' → w'.cell? ⟨ga, 1, none⟩ = some (.int .i64 x) := fun w' hb => (actO_at ((HC.out.below hb).at List.mem_cons_self)).2.1
        have hrl : r < wc.heap.size := World.block_lt_of_cell? wc ⟨r, 0, none⟩ (by rw [d0])
        have k2 : ∀ w', Below wc.heap.size wc w' → w'.cell? ⟨r, 0, none⟩ = some (.slice AU n cU) := fun w' hb => (hb.cell (p := ⟨r, 0, none⟩) hrl).trans d0
        have HSZ : Hid (∀ w', Below wc.heap.size wc w' → Calls Try.prog 14 #[.pointer (some ⟨g, 0, none⟩)] w' fun e w'' => e = .returned (.int .i64 (n : Int)) ∧ Below wc.heap.size wc w'') := Lib.hid fun w' hb => by
          rw [hn]
          obtain ⟨F, h⟩ := (HC.out.below hb).tre
          exact (treF.siz h.p h.wf h.cl h.ul).mono fun e w'' hh => ⟨hh.1, by obtain ⟨q, rfl⟩ := hh.2; exact below_drewN hb q⟩
        have HBP : Hid (∀ w', Below wc.heap.size wc w' → Calls Try.prog 16 #[.pointer (some ⟨g, 0, none⟩), .int .i64 x] w' fun e w'' => ∃ A c, e = .returned (.slice A z c) ∧ Hid (RecW w'' 0 3 1 (.slice A z c) (nums1 L)) ∧ Below w'.heap.size w' w'' ∧ Below wc.heap.size wc w'') := Lib.hid fun w' hb => by
          rw [hz, hL, hn]
          exact (bBelP (HC.out.below hb) x).mono fun e w'' hh => by
            obtain ⟨A, c, he, hr, hb2⟩ := hh
            exact ⟨A, c, he, Lib.hid (hr.base (Nat.zero_le _)), hb2, hb.trans (hb2.mono hb.size)⟩
        have HBD : Hid (∀ w', Below wc.heap.size wc w' → Calls Try.prog 17 #[.pointer (some ⟨r, 0, none⟩), .int .i64 x] w' fun e w'' => ∃ A c, e = .returned (.slice A z c) ∧ Hid (RecW w'' 0 3 1 (.slice A z c) (nums1 L)) ∧ Below w'.heap.size w' w'' ∧ Below wc.heap.size wc w'') := Lib.hid fun w' hb => by
          rw [hz, hL, hn]
          exact (bBelD (HC.out.below hb) x).mono fun e w'' hh => by
            obtain ⟨A, c, he, hr, hb2⟩ := hh
            exact ⟨A, c, he, Lib.hid (hr.base (Nat.zero_le _)), hb2, hb.trans (hb2.mono hb.size)⟩
        have HIN : Hid (∀ w' A D c d, Below wc.heap.size wc w' → RecW w' 0 3 1 (.slice A z c) (nums1 L) → RecW w' 0 3 1 (.slice D z d) (nums1 L) → Calls Try.prog 15 #[.slice A z c, .slice D z d] w' fun e w'' => e = .returned (.bool true) ∧ Below wc.heap.size wc w'') := Lib.hid fun w' A D c d hb h1 h2 =>
          (ints15 A D z c d 0 0 L w' h1 h2 (by omega) hz.symm).mono fun e w'' hh => ⟨hh.1, hb.trans (hh.2.mono hb.size)⟩
        have hS0 : Below wc.heap.size wc wc.drew := below_drewN (Below.refl _ _) 1
        clear hn hL hz d0 d1 hrl
        go_wp2_with fail
        go_region_held (fun w' => Below wc.heap.size wc w') (assumption) (first
          | (go_at_call 14; (with_reducible refine (HSZ.out _ (by assumption)).mono ?_); rintro e wS ⟨rfl, hS1⟩)
          | (go_at_call 16; (with_reducible refine (HBP.out _ (by assumption)).mono ?_); rintro e wP ⟨AP, cP, rfl, HRP, hbP, hS2⟩; try (have HRD' := Lib.hid (HRD.out.keep fun k hk _ => hbP.block k hk)))
          | (go_at_call 17; (with_reducible refine (HBD.out _ (by assumption)).mono ?_); rintro e wD ⟨AD, cD, rfl, HRD, hbD, hS3⟩; try (have HRP' := Lib.hid (HRP.out.keep fun k hk _ => hbD.block k hk)))
          | (go_at_call 15; (first | (with_reducible refine (HIN.out _ _ _ _ _ (by assumption) HRP'.out HRD.out).mono ?_) | (with_reducible refine (HIN.out _ _ _ _ _ (by assumption) HRP.out HRD'.out).mono ?_)); rintro e wI ⟨rfl, hS4⟩))
        all_goals
          have HBI := Lib.hid (HC.out.below hS4).free
          clear k1 k2 hS0 hS1 hS2 hS3 hS4 HSZ HBP HBD HIN HC
          simp only [Exit.then]
          go_wp2_with fail
          have d0 := HBI.out.doc
          obtain ⟨AU2, cU2, AC2, cC2, d0, d1, hrows⟩ := d0
          rw [← HNN.out] at d0 d1 hrows
          have HROWS := Lib.hid hrows
          clear hrows
          go_loopw [16] (fun v16 wk => ∃ k q : Nat, v16 = .int .i64 (k : Int) ∧ k ≤ n ∧ wk = wI.drewN q) (fun v16 _ => n - (intOf v16).toNat)
          case atStart => exact ⟨0, 0, rfl, by omega, rfl⟩
          case round =>
            obtain ⟨k, q, rfl, hk, hwk⟩ := hrel
            have HBK : Hid (Both15 w wr [] g r up' ca' up' ca') := Lib.hid (by rw [hwk]; exact HBI.out.below (below_drewN (Below.refl _ _) q))
            have d0k : wr.cell? ⟨r, 0, none⟩ = some (.slice AU2 n cU2) := by rw [hwk]; exact d0
            have d1k : wr.cell? ⟨r, 1, none⟩ = some (.slice AC2 n cC2) := by rw [hwk]; exact d1
            have HWK := Lib.hid hwk
            by_cases hkn : k < n
            · obtain ⟨b1, b2, rfl, rfl, f1, f2⟩ := HROWS.out k hkn
              have f1k : wr.cell? ⟨b1, k, none⟩ = some (.int .i64 (up'.getD k 0)) := by rw [hwk]; exact f1
              have f2k : wr.cell? ⟨b2, k, none⟩ = some (.int .i64 (ca'.getD k 0)) := by rw [hwk]; exact f2
              have hul : k < up'.length := by rw [← HNN.out]; exact hkn
              have HCAU := Lib.hid fun q => stay_cau treF HBK.out.tre (k : Int) q
              rw [cau_at hul] at HCAU
              have HPAR := Lib.hid fun q => stay_par treF HBK.out.tre (k : Int) q
              rw [if_pos (by simp [isB, hul]), Int.toNat_natCast] at HPAR
              obtain ⟨p1, hp1⟩ : ∃ p, p = up'.getD k 0 := ⟨_, rfl⟩
              obtain ⟨p2, hp2⟩ : ∃ p, p = ca'.getD k 0 := ⟨_, rfl⟩
              rw [← hp1] at f1k HPAR
              rw [← hp2] at f2k HCAU
              have hl1 : (k : Int) < (n : Int) := by omega
              have hl0 : (0 : Int) ≤ (k : Int) := by omega
              clear hp1 hp2 hul f1 f2 d0 d1 hwk
              go_wp2_with fail
              go_quiet (first | (go_at_call 18; exact HCAU.out _) | (go_at_call 19; exact HPAR.out _))
              go_wp2_with fail
              exact ⟨⟨k + 1, q + nq, by go_num, by omega, by rw [HWK.out]; exact World.drewN_drewN _ _ _⟩, by simp [intOf]; omega⟩
            · have hkn' : k = n := by omega
              subst hkn'
              clear HROWS hwk d0 d1
              go_wp2_with fail
              go_roundg (m - (i + 1))
              case measure => have := HGK.out; omega
              case rel => exact ⟨i + 1, up', ca', by omega, rfl, by go_num, HBK⟩
    · obtain ⟨AU, cU, AC, cC, d0, d1, -⟩ := HO.out.doc
      have hlen := HO.out.lens
      have HCAU := Lib.hid (tre_cau treF HO.out.tre (up.length : Int))
      rw [if_neg (by simp [isB])] at HCAU
      have HPAR := Lib.hid fun w' (h : Tre TPt w w' g up ca) => tre_par treF h (-5)
      rw [if_neg (by simp [isB])] at HPAR
      obtain ⟨n, hn⟩ : ∃ n, n = up.length := ⟨_, rfl⟩
      rw [← hn] at d0 d1 hlen HCAU
      clear hn hgk HO
      go_wp2_with fail
      refine HCAU.out.mono ?_; rintro e w4 ⟨rfl, h4⟩
      have H4 := Lib.hid (HPAR.out _ h4); clear h4 d0 d1
      go_wp2_with fail
      refine H4.out.mono ?_; rintro e w5 ⟨rfl, h5⟩
      have H5 := Lib.hid h5.lens.2; clear h5
      go_wp2_with fail
      go_ret
      exact ⟨rfl, H5.out⟩
theorem act15W (A : Option Addr) (m c : Nat) (acts : List (Int × Int × Int)) (w : World) (hr : RowA15 w A m acts) :
    Calls Try.prog 3 #[.slice A m c] w fun e w' => e = .returned (.bool true) ∧ Below w.heap.size w w' := by
  by_cases h : 60 < m
  · exact act15_many A m c w h
  · exact act15_good A m c acts w hr (by omega)
end Go.Proofs.Ytcgjpmokhpcnnaa
