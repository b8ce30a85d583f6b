/- TreeStays, of any tree that answers so. -/
import Derived.Test.YtcgjpmokhpcnnaaLawLine15
import Derived.Test.YtcgjpmokhpcnnaaTreI
import Derived.Test.YtcgjpmokhpcnnaaActs15
import Derived.Test.YtcgjpmokhpcnnaaStayR15
namespace Go.Proofs.Ytcgjpmokhpcnnaa
open Go Go.RowKit
set_option linter.unusedVariables false
set_option maxRecDepth 40000
/-- Is it the node itself, or below it? -/
def inB (up : List Int) (k : Int) (s i : Nat) : Bool := ((i : Int) == k) || (belL up k s).any (fun x => x == (i : Int))
theorem inB_cut {up ca : List Int} {k s i : Nat} (hs : s = up.length) (hk : k < s) (hi : i < s) : cutsB up ca (k : Int) i = (inB up (k : Int) s i && (ca.getD i 0 == 0)) := by
  unfold cutsB inB
  congr 1
  congr 1
  have hb : isB up (k : Int) = true := by simp only [isB, Bool.and_eq_true, decide_eq_true_eq]; omega
  rw [Bool.eq_iff_iff]
  unfold belL
  rw [List.any_eq_true]
  constructor
  · intro hu
    exact ⟨(i : Int), List.mem_map.2 ⟨i, List.mem_filter.2 ⟨List.mem_range.2 hi, by rw [hb, hu]; rfl⟩, rfl⟩, by simp⟩
  · rintro ⟨x, hx, hxi⟩
    obtain ⟨q, hq, rfl⟩ := List.mem_map.1 hx
    have hq2 := (List.mem_filter.1 hq).2
    have : q = i := by have := beq_iff_eq.1 hxi; omega
    subst this
    rw [hb, Bool.true_and] at hq2
    exact hq2
theorem want_eq {up ca : List Int} {k s i : Nat} {cause : Int} (hs : s = up.length) (hc : ca.length = s) (hk : k < s) (hi : i < s) : (canC up ca (k : Int) cause s).getD i 0 = if inB up (k : Int) s i = true ∧ ca.getD i 0 = 0 then cause else ca.getD i 0 := by
  rw [canC_get (by omega), inB_cut hs hk hi]
  simp [hi]
section
variable {P : TP} (T : TreF P)
include T
theorem tre_sizq {w0 w : World} {g : Nat} {up ca : List Int} (h : Tre P w0 w g up ca) (q : Nat) : Calls Try.prog 14 #[.pointer (some ⟨g, 0, none⟩)] (w.drewN q) fun e w' => e = .returned (.int .i64 (up.length : Int)) ∧ ∃ m, w' = w.drewN m := by
  obtain ⟨F, h⟩ := tre_drewN T h q
  refine (T.siz h.p h.wf h.cl h.ul).mono fun e w' hh => ?_
  obtain ⟨he, m, rfl⟩ := hh
  exact ⟨he, q + m, World.drewN_drewN _ _ _⟩
set_option maxHeartbeats 8000000 in
theorem stay15_any (A : Option Addr) (m c : Nat) (acts : List (Int × Int × Int)) (n cause : Int) (w : World) (hr : ReadR 0 w A m 3 (acts.map A15)) (hm : m ≤ 60) (hz : cause ≠ 0) :
    Calls Try.prog 4 #[.slice A m c, .int .i64 n, .int .i64 cause] w fun e w' => e = .returned (.bool true) ∧ Below w.heap.size w w' := by
  have HA := Lib.hid (awake15_any T w (Below.refl w.heap.size w))
  have HN := Lib.hid fun w2 (hb : Below w.heap.size w w2) => tre_new T w hb
  have HR := Lib.hid hr
  have HL := Lib.hid (show acts.length = m by have := hr.1.1; simpa using this)
  have hac := act15_cells
  have hzb : (cause == 0) = false := by simpa using hz
  clear hr
  go_enter Try.func4, Try.ntmps4
  go_wp2_with fail
  refine HA.out.mono ?_; rintro e w1 ⟨rfl, h1⟩
  have H1 := Lib.hid h1; clear h1 HA
  go_wp2_with fail
  refine (HN.out _ H1.out).mono ?_; rintro e w2 ⟨g, rfl, h2⟩
  have H2 := Lib.hid h2; clear h2 HN H1
  go_wp2_with fail
  go_loopw [8] (fun v wr => ∃ (i : Nat) (up ca : List Int), v = .int .i64 (i : Int) ∧ i ≤ m ∧ Hid (Tre P w wr g up ca ∧ InvC up ca)) (fun v _ => m - (intOf v).toNat)
  case atStart => exact ⟨0, _, _, rfl, by omega, Lib.hid ⟨H2.out, invC_one⟩⟩
  case round =>
    obtain ⟨i, up, ca, rfl, hi, HO⟩ := hrel
    clear H2
    by_cases hl : i < m
    · obtain ⟨b, o, rfl, -, hbl, hc⟩ := HR.out.2 (by omega)
      obtain ⟨a, ha⟩ : ∃ a, acts[i]? = some a := ⟨_, List.getElem?_eq_getElem (by rw [HL.out]; exact hl)⟩
      obtain ⟨kd, x, y⟩ := a
      have hcell := fun j v hv w' (hb : Below w.heap.size w w') => (hb.cell (p := ⟨b, o + i * 3 + j, none⟩) hbl).trans (hc i (A15 ⟨kd, x, y⟩) (by simp [ha]) j v hv)
      have HS := Lib.hid fun w' (hb : Below w.heap.size w w') => And.intro (hcell 1 (.int .i64 x) rfl w' hb) (hcell 2 (.int .i64 y) rfl w' hb)
      obtain ⟨ht, hv⟩ := HO.out
      have e0 := hcell 0 _ rfl _ ht.lens.2
      obtain ⟨e1, e2⟩ := HS.out _ ht.lens.2
      simp only [Nat.add_zero] at e0
      obtain ⟨F, hts⟩ := id ht
      have hwf := hts.wf
      have hcl := hts.cl
      clear hts hc hcell ha
      by_cases hk : kd = 0
      · subst hk
        have HADD := Lib.hid ((tre_add T ht x).mono fun e w3 hh => (⟨_, _, hh.1, Lib.hid ⟨hh.2, invC_add hv hwf hcl x⟩⟩ : ∃ p q : Int, e = .returned (.tuple #[.int .i64 p, .int .i64 q]) ∧ Hid (Tre P w w3 g (addU up x) (addC up ca x) ∧ InvC (addU up x) (addC up ca x))))
        clear ht hv hwf hcl HO F
        go_wp2_with fail
        refine HADD.out.mono ?_; rintro e w3 ⟨p3, q3, rfl, H3⟩
        clear HADD e0 e1 e2
        go_wp2_with fail
        exact ⟨⟨i + 1, _, _, by go_num, by omega, H3⟩, by simp [intOf]; omega⟩
      · have hkb : (kd == 0) = false := by simpa using hk
        have HCAN := Lib.hid ((tre_can T (tre_drewN T ht 1) x y).mono fun e w3 hh => (⟨_, _, _, hh.1, HS.out _ hh.2.lens.2, Lib.hid ⟨hh.2, invC_can hv hwf hcl x y⟩⟩ : ∃ (p q : Int) (ca' : List Int), e = .returned (.tuple #[.int .i64 p, .int .i64 q]) ∧ (w3.cell? ⟨b, o + i * 3 + 1, none⟩ = some (.int .i64 x) ∧ w3.cell? ⟨b, o + i * 3 + 2, none⟩ = some (.int .i64 y)) ∧ Hid (Tre P w w3 g up ca' ∧ InvC up ca')))
        clear ht hv hwf hcl HO F hk
        go_wp2_with fail
        go_region_held (fun w' => w'.cell? ⟨b, o + i * 3 + 1, none⟩ = some (.int .i64 x) ∧ w'.cell? ⟨b, o + i * 3 + 2, none⟩ = some (.int .i64 y)) (first | assumption | exact ⟨e1, e2⟩) (first
          | (go_at_call 12; refine HCAN.out.mono ?_; rintro e w3 ⟨p3, q3, ca3, rfl, S3, H3⟩))
        go_wp2_with fail
        exact ⟨⟨i + 1, _, _, by go_num, by omega, H3⟩, by simp [intOf]; omega⟩
    · obtain ⟨ht, hv⟩ := HO.out
      have hlen : 1 ≤ up.length ∧ up.length ≤ 256 := by obtain ⟨F, h⟩ := ht; exact ⟨h.wf.1, h.ul⟩
      have HSZ := Lib.hid fun q => tre_sizq T ht q
      obtain ⟨s, hs⟩ : ∃ s, s = up.length := ⟨_, rfl⟩
      rw [← hs] at HSZ hlen
      have HSL := Lib.hid hs
      have HV := Lib.hid hv
      have HT := Lib.hid fun q => tre_drewN T ht q
      clear hs hv ht HO
      have h63 : (-9223372036854775808 ≤ n.tmod s + s ∧ n.tmod s + s ≤ 9223372036854775807) := by
        have h1 := Int.tmod_lt_of_pos n (show (0 : Int) < s by omega)
        have h2 : -(s : Int) < n.tmod s := Int.lt_tmod_of_pos n (by omega)
        omega
      go_wp2_with fail
      go_quiet (first | (go_at_call 14; exact HSZ.out _))
      obtain ⟨k, hk⟩ : ∃ k : Nat, (n.tmod s + s).tmod s = (k : Int) := ⟨((n.tmod s + s).tmod s).toNat, by
        have h2 : -(s : Int) < n.tmod s := Int.lt_tmod_of_pos n (by omega)
        have h3 := Int.tmod_nonneg (s : Int) (show 0 ≤ n.tmod s + s by omega)
        omega⟩
      have hks : k < s := by
        have h1 := Int.tmod_lt_of_pos (n.tmod s + s) (show (0 : Int) < s by omega)
        omega
      rw [hk]
      clear hk h63 HSZ
      simp only [Exit.then]
      go_wp2_with fail
      have HQ := Lib.hid (stay_start (HT.out nq))
      clear HT
      go_loopw [10, 11] (fun v10 v11 wx => ∃ j : Nat, v11 = .int .i64 (j : Int) ∧ j ≤ s ∧ Hid (StayS P w wx g up ca v10 (ca.take j))) (fun _ v11 _ => s - (intOf v11).toNat)
      case atStart => exact ⟨0, rfl, by omega, HQ⟩
      case round =>
        obtain ⟨j, rfl, hj, HO⟩ := hrel
        clear HQ
        have HSZ := Lib.hid fun w' V xs (h : StayS P w w' g up ca V xs) => st_siz T h
        rw [← HSL.out] at HSZ
        obtain ⟨AV, cV, hV⟩ := HO.out.len
        have hcs : ca.length = s := by obtain ⟨F, h⟩ := HO.out.tre; rw [h.cl, HSL.out]
        have htl : (ca.take j).length = j := by rw [List.length_take]; omega
        rw [htl] at hV
        subst hV
        by_cases hjs : j < s
        · have hcau := Lib.hid fun w' (h : StayS P w w' g up ca (.slice AV j cV) (ca.take j)) => st_cau T h (j : Int)
          rw [cau_at (by rw [← HSL.out]; exact hjs)] at hcau
          obtain ⟨y, hy⟩ : ∃ y, y = ca.getD j 0 := ⟨_, rfl⟩
          rw [← hy] at hcau
          have HAPP := Lib.hid fun w' (h : StayS P w w' g up ca (.slice AV j cV) (ca.take j)) => stay_app T h y (by rw [htl]; omega)
          rw [htl, show ca.take j ++ [y] = ca.take (j + 1) by rw [List.take_add_one, List.getElem?_eq_getElem (show j < ca.length by omega), hy]; simp [List.getD, List.getElem?_eq_getElem (show j < ca.length by omega)]] at HAPP
          clear hy hcs htl
          go_wp2_with fail
          refine (HSZ.out _ _ _ HO.out).mono ?_; rintro e w4 ⟨rfl, h4⟩
          have H4 := Lib.hid h4; clear h4 HO
          go_wp2_with fail
          refine (hcau.out _ H4.out).mono ?_; rintro e w5 ⟨rfl, h5⟩
          obtain ⟨A6, c6, w6, h6, h7⟩ := HAPP.out _ h5
          have H6 := Lib.hid h6; have H7 := Lib.hid h7; clear h5 h6 h7 H4
          go_wp2_with (at_builtin; refine wpList_append_run rfl (.tmp 77) (.tmp 81) 46 rfl rfl _ _ _ _ rfl rfl H6.out ?_)
          exact ⟨⟨j + 1, by go_num, by omega, H7⟩, by simp [intOf]; omega⟩
        · have hjs' : ca.take j = ca := List.take_of_length_le (by omega)
          rw [hjs'] at HO
          have : j = s := by omega
          subst this
          clear hjs' htl hcs
          go_wp2_with fail
          refine (HSZ.out _ _ _ HO.out).mono ?_; rintro e w4 ⟨rfl, h4⟩
          have H4 := Lib.hid h4; clear h4 HO
          go_wp2_with fail
          have hce : canE up (k : Int) cause = 0 := by
            unfold canE
            rw [if_pos ⟨by simp only [isB, Bool.and_eq_true, decide_eq_true_eq]; have := HSL.out; omega, hz⟩]
          have HCAN := Lib.hid (stay_can T H4.out (k : Int) cause)
          rw [hce, if_pos rfl, ← HSL.out] at HCAN
          have HV2 : Hid (InvC up (canC up ca (k : Int) cause j) ∧ ca.length = j ∧ WfUp up) := Lib.hid (by
            obtain ⟨F, h⟩ := H4.out.tre
            have := invC_can HV.out h.wf h.cl (k : Int) cause
            rw [hce, if_pos rfl, ← HSL.out] at this
            exact ⟨this, by rw [h.cl, HSL.out], h.wf⟩)
          clear hce HSZ H4
          refine HCAN.out.mono ?_; rintro e w5 ⟨p5, q5, rfl, h5⟩
          have H5 := Lib.hid h5; clear h5 HCAN
          go_wp2_with fail
          refine (stay_bel T H5.out (k : Int)).mono ?_; rintro e w6 ⟨U, rfl, hu, h6⟩
          rw [← HSL.out] at hu
          obtain ⟨AU, cU, hU, -⟩ := hu.slice
          rw [nums1_length] at hU
          subst hU
          obtain ⟨z, hzz⟩ : ∃ z, z = (belL up (k : Int) j).length := ⟨_, rfl⟩
          rw [← hzz] at hu ⊢
          have HZ := Lib.hid hzz
          have H6 := Lib.hid h6
          have HU := Lib.hid hu
          clear h6 hu H5 hzz
          go_wp2_with fail
          have hzj : z ≤ j := by
            rw [HZ.out]
            unfold belL
            rw [List.length_map]
            exact Nat.le_trans (List.length_filter_le _ _) (by simp)
          have HSQ := Lib.hid fun q => stay_siz T H6.out.tre q
          rw [← HSL.out] at HSQ
          go_loopw [13] (fun v13 wx => ∃ i q : Nat, v13 = .int .i64 (i : Int) ∧ i ≤ j ∧ wx = w6.drewN q) (fun v13 _ => j - (intOf v13).toNat)
          case atStart => exact ⟨0, 0, rfl, by omega, rfl⟩
          case round =>
            obtain ⟨i1, q1, rfl, hi1, rfl⟩ := hrel
            by_cases hij : i1 < j
            · obtain ⟨y, hy⟩ : ∃ y, y = ca.getD i1 0 := ⟨_, rfl⟩
              have hyc : ca[i1]? = some y := by rw [hy]; simp [List.getD, List.getElem?_eq_getElem (show i1 < ca.length by rw [HV2.out.2.1]; exact hij)]
              obtain ⟨bV, cV', hVV, hcy⟩ := H6.out.at hyc
              injection hVV with hVV hjj' hcc
              subst hVV hcc
              clear hjj'
              go_wp2_with fail
              refine (HSQ.out _).mono ?_; rintro e w7 ⟨rfl, q7, rfl⟩
              go_upto_block 5 with fail
              have hul : i1 < up.length := by rw [← HSL.out]; exact hij
              obtain ⟨fb, hfb⟩ : ∃ fb, fb = inB up (k : Int) j i1 := ⟨_, rfl⟩
              have hw2 := want_eq (cause := cause) HSL.out HV2.out.2.1 hks hij
              obtain ⟨yw, hyw⟩ : ∃ yw, yw = (canC up ca (k : Int) cause j).getD i1 0 := ⟨_, rfl⟩
              obtain ⟨pr, hpr⟩ : ∃ pr, pr = up.getD i1 0 := ⟨_, rfl⟩
              obtain ⟨yp, hyp⟩ : ∃ yp, yp = (if isB up pr = true then (canC up ca (k : Int) cause j).getD pr.toNat 0 else 0) := ⟨_, rfl⟩
              have HC1 := Lib.hid fun q => stay_cau T H6.out.tre (i1 : Int) q
              rw [cau_at hul, ← hyw] at HC1
              have HP := Lib.hid fun q => stay_par T H6.out.tre (i1 : Int) q
              rw [if_pos (by simp [isB, hul]), Int.toNat_natCast, ← hpr] at HP
              have HCP := Lib.hid fun q => stay_cau T H6.out.tre pr q
              rw [← hyp] at HCP
              have hinv : 0 ≤ pr → ¬ yp = 0 → (yw == 0) = false := fun h1 h2 => by
                have h0 : 0 < i1 := by
                  rcases Nat.eq_zero_or_pos i1 with h | h
                  · subst h
                    have := HV2.out.2.2.2.1
                    rw [List.getD, this] at hpr
                    simp at hpr
                    omega
                  · exact h
                obtain ⟨p0, p1⟩ := HV2.out.2.2.2.2 i1 h0 hul
                have hb : isB up pr = true := by rw [hpr]; simp only [isB, Bool.and_eq_true, decide_eq_true_eq]; omega
                rw [if_pos hb, hpr] at hyp
                have := HV2.out.1 i1 h0 hul (by rw [← hyp]; exact h2)
                rw [← hyw] at this
                simpa using this
              rw [← hyw, ← hfb, ← hy] at hw2
              refine stayR (k := k) (L := belL up (k : Int) j) (fb := fb) q7 hij hlen.2 hzj HZ HU hcy (Lib.hid hfb) hw2 hinv HC1 HP HCP (Lib.hid ?_)
              intro u14 u15 u16 u96 u97 u98 u99 u100 u101 u102 u103 u104 u105 u106 u107 u108 u109 u110 u111 u112 u113 u114 u115 u116 u117 u118 u119 u120 u121 u122 u123 u124 u125 u126 u127 u128 u129 u130 u131 u132 u133 u134 u135 u136 u137 u138 u139 u140 u141 u142 u143 u144 u145 u146 u147 u148 q
              clear hw2 hyw hpr hyp hul hfb hinv HC1 HP HCP hy hyc hcy
              simp only [Exit.then]
              go_step
              go_wp2_with fail
              exact ⟨⟨i1 + 1, q, by go_num, by omega, rfl⟩, by simp [intOf]; omega⟩
            · have HF : Hid (∀ q, Below w.heap.size w (w6.drewN q)) := Lib.hid fun q => below_drewN H6.out.tre.lens.2 q
              have : i1 = j := by omega
              subst this
              go_wp2_with fail
              refine (HSQ.out _).mono ?_; rintro e w7 ⟨rfl, q7, rfl⟩
              go_wp2_with fail
              go_ret
              exact ⟨rfl, HF.out _⟩
end
end Go.Proofs.Ytcgjpmokhpcnnaa
