/- Texts. -/
import Derived.Test.YtaapbmdojkjphaaGreatZ03
import Derived.Test.YtaapbmdojkjphaaGreatZ05
import Derived.Test.YtaapbmdojkjphaaGreatZ11
import Derived.Test.YtaapbmdojkjphaaGreatZ12
import Derived.Test.YtaapbmdojkjphaaGreatZ13
import Derived.BigQuiet
import Derived.Deep.RegionHeldLaw
namespace Go.Proofs.YtaapbmdojkjphaaGreat
open Go Go.RowKit
set_option linter.unusedVariables false
set_option maxRecDepth 20000
set_option maxHeartbeats 8000000 in
theorem rclass_not (l : List Int) (A : Option Addr) (n c : Nat) (W : World) (hr : RowI .i64 W A n l) (hn : n ≤ 200) (hnc : n ≤ c) (hw : ∀ x ∈ l, 0 ≤ x ∧ x ≤ 1114111) (h0 : 0 < n) (e0 : l.getD 0 0 = 94)
    (R : Option (List (Int × Int) × List Int)) (hR : ClsAt R l 1 [] 0) :
    Calls Tryz.prog 33 #[.slice A n c] W fun e w' => clsV W w' e (R.map fun p => (setOf fun r => hasL p.1 r != true, p.2)) l ∧ Below W.heap.size W w' := by
  have hlen := hr.1
  obtain ⟨b, o, rfl, hb, hc⟩ := hr.2 h0
  have c0 := hc 0 h0
  rw [Nat.add_zero] at c0
  obtain ⟨x, hx⟩ : ∃ x, x = l.getD 0 0 := ⟨_, rfl⟩
  rw [← hx] at c0 e0
  subst e0
  have HC := Lib.hid hc
  have HRW := Lib.hid hr
  have HL := Lib.hid hlen
  have HWF := Lib.hid hw
  have HR := Lib.hid hR
  clear hr hc hx hlen hw hR
  go_enter Tryz.func33, Tryz.ntmps33
  go_wp2_with fail
  go_loopw [4, 6, 7] (fun va vs vp wr => ∃ (j q pc p : Nat) (P : Option Addr) (xs : List (Int × Int)), va = .int .i64 (j : Int) ∧ vs = .slice P q pc ∧ vp = .int .i64 (p : Int) ∧ j ≤ n ∧ p ≤ j ∧ q ≤ 5 * j ∧
    Hid (wr.ownsRow W.heap.size 74 2 (.slice P q pc) q (cellsG xs) ∧ Below W.heap.size W wr ∧ WfP xs ∧ ClsAt R l j xs p)) (fun va _ _ _ => n - (intOf va).toNat)
  case atStart => exact ⟨1, 0, 0, 0, none, [], rfl, rfl, rfl, by omega, by omega, by omega, Lib.hid ⟨nilG _ _, Below.refl _ _, fun p hp => absurd hp (by simp), HR.out⟩⟩
  case round =>
    obtain ⟨j, q, pc, p, P, xs, rfl, rfl, rfl, hj, hp, hq, HO⟩ := hrel
    by_cases hjn : j < n
    · have cj := (HO.out.2.1.cell (p := ⟨b, o + j, none⟩) hb).trans (HC.out j hjn)
      obtain ⟨y, hy⟩ : ∃ y, y = l.getD j 0 := ⟨_, rfl⟩
      rw [← hy] at cj
      by_cases hsh : 0 < p ∧ y = 93
      · obtain ⟨hp0, rfl⟩ := hsh
        have HE := Lib.hid (HO.out.2.2.2.shut (by rw [HL.out]; exact hjn) hy.symm hp0)
        have HM := Lib.hid (made_any xs P q pc true wr (rowG_own9 HO.out.1) (by omega) HO.out.2.2.1)
        clear hy
        go_wp2_with (go_at_call 56; (with_reducible refine HM.out.mono ?_); rintro e w2 ⟨P2, q2, pc2, rfl, ho, hb2⟩; have HO2 := Lib.hid (And.intro ho hb2); clear ho hb2)
        go_ret2
        refine ⟨?_, HO.out.2.1.trans (HO2.out.2.mono HO.out.2.1.size)⟩
        rw [HE.out]
        exact ⟨P2, q2, pc2, j + 1, by go_num, by omega, by rw [HL.out]; omega, rfl, row_base HO2.out.1 (fun x hx => Nat.le_trans HO.out.2.1.size (row_lt HO2.out.1 hx).1)⟩
      · have HNO := Lib.hid (show ¬ (0 < p ∧ l.getD j 0 = 93) by rw [← hy]; exact hsh)
        have hsub : RowI .i64 W (some ⟨b, o + j, none⟩) (n - j) (l.drop j) := by
          have h := rowI_from HRW.out hj
          rwa [show Option.map (fun x => x.add j) (some (⟨b, o, none⟩ : Addr)) = some ⟨b, o + j, none⟩ by simp [Addr.add]] at h
        have HP := Lib.hid fun w (h : Below W.heap.size W w) => rpoint_any (l.drop j) (some ⟨b, o + j, none⟩) (n - j) (c - j) w (hsub.below h (Nat.le_refl _)) (by omega)
        have h3 : ¬ (y = 93 ∧ 0 < p) := fun h => hsh ⟨h.2, h.1⟩
        have HPB := Lib.hid (HP.out wr HO.out.2.1)
        clear HP hsub
        rcases hpt : ptL (l.drop j) with _ | ⟨s, is, l1⟩
        · have HE := Lib.hid (HO.out.2.2.2.none_ HNO.out (partL_none hpt))
          have HX := Lib.hid hpt
          clear hpt hy hsh
          by_cases hy93 : y = 93
          · subst hy93
            have hp0 : ¬ 0 < p := fun h => h3 ⟨rfl, h⟩
            clear h3
            go_wp2_with (go_at_call 57; (with_reducible refine HPB.out.mono ?_); rintro e w2 ⟨hv, hb2⟩; unfold ptV at hv; rw [HX.out] at hv; dsimp only at hv; subst hv; have HB2 := Lib.hid hb2; clear hb2)
            go_ret2
            refine ⟨?_, HO.out.2.1.trans (HB2.out.mono HO.out.2.1.size)⟩
            rw [HE.out]
            rfl
          · have e93 : (y == 93) = false := by simpa using hy93
            clear h3
            go_wp2_with (go_at_call 57; (with_reducible refine HPB.out.mono ?_); rintro e w2 ⟨hv, hb2⟩; unfold ptV at hv; rw [HX.out] at hv; dsimp only at hv; subst hv; have HB2 := Lib.hid hb2; clear hb2)
            go_ret2
            refine ⟨?_, HO.out.2.1.trans (HB2.out.mono HO.out.2.1.size)⟩
            rw [HE.out]
            rfl
        · obtain ⟨hws, hsl, his, k, k1, k2, hl1⟩ := ptL_is (fun z hz => HWF.out z (List.mem_of_mem_drop hz)) hpt
          rw [List.length_drop, HL.out] at k2
          rw [List.drop_drop] at hl1
          have HX := Lib.hid hpt
          have HWS := Lib.hid hws
          have h93 : y ≠ 93 ∨ ¬ 0 < p := by
            by_cases h : y = 93
            · exact .inr fun h2 => h3 ⟨h, h2⟩
            · exact .inl h
          clear h3 hsh hy hpt hws
          by_cases hjk : is = true ∧ j + k < n ∧ l.getD (j + k) 0 = 45
          · obtain ⟨rfl, hjk2, hz⟩ := hjk
            obtain ⟨v, rfl⟩ := his rfl
            have hwv := HWS.out (v, v) (by simp)
            have hl2 : l.drop (j + k) = 45 :: l.drop (j + k + 1) := by
              have h : j + k < l.length := by rw [HL.out]; exact hjk2
              rw [List.drop_eq_getElem_cons h, show l[j + k] = 45 by rw [← hz]; simp [List.getD, h]]
            have HPL := Lib.hid (partL_dash (l := l.drop j) (x := v) (l2 := l.drop (j + k + 1)) (by rw [HX.out, hl1, hl2]))
            have ck := (HO.out.2.1.cell (p := ⟨b, o + (j + k), none⟩) hb).trans (HC.out (j + k) hjk2)
            rw [hz] at ck
            have hkk : Hid (∀ k', 1 ≤ k' → k' ≤ (l.drop j).length → l1 = (l.drop j).drop k' → k' = k) := Lib.hid fun k' h1 h2 h3 => by
              have h4 := congrArg List.length (hl1.symm.trans h3)
              rw [List.drop_drop, List.length_drop, List.length_drop, HL.out] at h4
              rw [List.length_drop, HL.out] at h2
              omega
            have HPI := Lib.hid fun (e : Ending) (w2 : World) (hv : ptV wr w2 e (l.drop j)) (hb2 : Below wr.heap.size wr w2) => show ∃ (g2 pc2 : Nat), e = .returned (.tuple #[.slice (some ⟨g2, 0, none⟩) 1 pc2, .bool true, .int .i64 (k : Int)]) ∧ g2 < w2.heap.size ∧ w2.cell? ⟨g2, 0, none⟩ = some (.int .i64 v) by
              unfold ptV at hv
              rw [HX.out] at hv
              dsimp only at hv
              obtain ⟨P2, q2, pc2, k', rfl, h1, h2, h3, ho⟩ := hv
              obtain ⟨g, rfl, hn1, hg1, hg2, _, _, hc1, _⟩ := last_own (v := []) (q := (v, v)) ho hb2
              rw [hkk.out k' h1 h2 h3]
              subst hn1
              exact ⟨g, pc2, rfl, hg2, hc1⟩
            clear hl2 hz hl1 his hsl hkk
            have hsub2 : RowI .i64 W (some ⟨b, o + (j + k + 1), none⟩) (n - (j + k + 1)) (l.drop (j + k + 1)) := by
              have h := rowI_from HRW.out (m := j + k + 1) (by omega)
              rwa [show Option.map (fun x => x.add (j + k + 1)) (some (⟨b, o, none⟩ : Addr)) = some ⟨b, o + (j + k + 1), none⟩ by simp [Addr.add]] at h
            have HP2 := Lib.hid fun w (h : Below W.heap.size W w) => rpoint_any (l.drop (j + k + 1)) (some ⟨b, o + (j + k + 1), none⟩) (n - (j + k + 1)) (c - (j + k + 1)) w (hsub2.below h (Nat.le_refl _)) (by omega)
            clear hsub2
            by_cases hj3 : j + k + 1 < n
            · rcases hpt2 : ptL (l.drop (j + k + 1)) with _ | ⟨t, too, l3⟩
              · have HE := Lib.hid (HO.out.2.2.2.none_ HNO.out (by rw [HPL.out, hpt2]))
                have HX2 := Lib.hid hpt2
                clear hpt2
                go_wp2_with (first
                  | (go_at_call 57; (with_reducible refine HPB.out.mono ?_); rintro e w2 ⟨hv, hb2⟩; obtain ⟨g2, pc2, rfl, hg2, cv⟩ := HPI.out _ _ hv hb2; clear hv; have ck2 := (hb2.cell (p := ⟨b, o + (j + k), none⟩) (Nat.lt_of_lt_of_le hb HO.out.2.1.size)).trans ck; have HB2 := Lib.hid (HO.out.2.1.trans (hb2.mono HO.out.2.1.size)); clear hb2)
                  | (go_at_call 57; (with_reducible refine (HP2.out _ HB2.out).mono ?_); rintro e w3 ⟨hv, hb3⟩; unfold ptV at hv; rw [HX2.out] at hv; dsimp only at hv; subst hv; have HB3 := Lib.hid (HB2.out.trans (hb3.mono HB2.out.size)); clear hb3))
                all_goals
                  go_quiet (fail)
                  go_wp2
                  go_ret2
                  refine ⟨?_, below_drewN HB3.out _⟩
                  rw [HE.out]
                  rfl
              · obtain ⟨_, _, his2, k', k3, k4, hl3⟩ := ptL_is (fun z hz => HWF.out z (List.mem_of_mem_drop hz)) hpt2
                rw [List.length_drop, HL.out] at k4
                rw [List.drop_drop] at hl3
                cases too with
                | false =>
                  have HE := Lib.hid (HO.out.2.2.2.none_ HNO.out (by rw [HPL.out, hpt2]))
                  have HX2 := Lib.hid hpt2
                  clear hpt2 hl3 his2
                  have HPI2 := Lib.hid fun (w2 : World) (e : Ending) (w3 : World) (hv : ptV w2 w3 e (l.drop (j + k + 1))) => show ∃ (P3 : Option Addr) (q3 pc3 m : Nat), e = .returned (.tuple #[.slice P3 q3 pc3, .bool false, .int .i64 (m : Int)]) ∧ 1 ≤ m by
                    unfold ptV at hv
                    rw [HX2.out] at hv
                    dsimp only at hv
                    obtain ⟨P3, q3, pc3, m, rfl, h1, _⟩ := hv
                    exact ⟨P3, q3, pc3, m, rfl, h1⟩
                  go_wp2_with (first
                    | (go_at_call 57; (with_reducible refine HPB.out.mono ?_); rintro e w2 ⟨hv, hb2⟩; obtain ⟨g2, pc2, rfl, hg2, cv⟩ := HPI.out _ _ hv hb2; clear hv; have ck2 := (hb2.cell (p := ⟨b, o + (j + k), none⟩) (Nat.lt_of_lt_of_le hb HO.out.2.1.size)).trans ck; have HB2 := Lib.hid (HO.out.2.1.trans (hb2.mono HO.out.2.1.size)); have HBW2 := Lib.hid hb2; clear hb2)
                    | (go_at_call 57; (with_reducible refine (HP2.out _ HB2.out).mono ?_); rintro e w3 ⟨hv, hb3⟩; obtain ⟨P3, q3, pc3, m, rfl, hm1⟩ := HPI2.out _ _ _ hv; clear hv; have hm2 : ¬ (m : Int) = 0 := by omega
                       have hm3 : ((m : Int) == 0) = false := by simpa using hm2
                       have HB3 := Lib.hid (HB2.out.trans (hb3.mono HB2.out.size)); clear hb3))
                  all_goals
                    go_quiet (fail)
                    go_wp2
                    go_ret2
                    refine ⟨?_, below_drewN HB3.out _⟩
                    rw [HE.out]
                    rfl
                | true =>
                  obtain ⟨u, rfl⟩ := his2 rfl
                  have HX2 := Lib.hid hpt2
                  have HPI2 := Lib.hid fun (w2 : World) (e : Ending) (w3 : World) (hv : ptV w2 w3 e (l.drop (j + k + 1))) (hb3 : Below w2.heap.size w2 w3) => show ∃ (g3 pc3 : Nat), e = .returned (.tuple #[.slice (some ⟨g3, 0, none⟩) 1 pc3, .bool true, .int .i64 (k' : Int)]) ∧ g3 < w3.heap.size ∧ w3.cell? ⟨g3, 0, none⟩ = some (.int .i64 u) by
                    unfold ptV at hv
                    rw [HX2.out] at hv
                    dsimp only at hv
                    obtain ⟨P2, q2, pc2, m, rfl, h1, h2, h3, ho⟩ := hv
                    obtain ⟨g, rfl, hn1, hg1, hg2, _, _, hc1, _⟩ := last_own (v := []) (q := (u, u)) ho hb3
                    have hmk : m = k' := by
                      have h4 := congrArg List.length (hl3.symm.trans h3)
                      rw [List.drop_drop, List.length_drop, List.length_drop, HL.out] at h4
                      rw [List.length_drop, HL.out] at h2
                      omega
                    subst hmk
                    subst hn1
                    exact ⟨g, pc2, rfl, hg2, hc1⟩
                  have hm2 : ¬ (k' : Int) = 0 := by omega
                  have hm3 : ((k' : Int) == 0) = false := by simpa using hm2
                  by_cases huv : u < v
                  · have HE := Lib.hid (HO.out.2.2.2.none_ HNO.out (by rw [HPL.out, hpt2]; dsimp only; rw [if_pos (by exact huv)]))
                    clear hpt2 hl3 his2
                    go_wp2_with (first
                      | (go_at_call 57; (with_reducible refine HPB.out.mono ?_); rintro e w2 ⟨hv, hb2⟩; obtain ⟨g2, pc2, rfl, hg2, cv⟩ := HPI.out _ _ hv hb2; clear hv; have ck2 := (hb2.cell (p := ⟨b, o + (j + k), none⟩) (Nat.lt_of_lt_of_le hb HO.out.2.1.size)).trans ck; have HB2 := Lib.hid (HO.out.2.1.trans (hb2.mono HO.out.2.1.size)); have HBW2 := Lib.hid hb2; clear hb2)
                      | (go_at_call 57; (with_reducible refine (HP2.out _ HB2.out).mono ?_); rintro e w3 ⟨hv, hb3⟩; obtain ⟨g3, pc3, rfl, hg3, cu⟩ := HPI2.out _ _ _ hv hb3; clear hv; have cv3 := (hb3.cell (p := ⟨g2, 0, none⟩) hg2).trans cv; have HS23 := Lib.hid hb3.size; have HB3 := Lib.hid (HB2.out.trans (hb3.mono HB2.out.size)); have HBW3 := Lib.hid (HBW2.out.trans (hb3.mono HBW2.out.size)); clear hb3))
                    all_goals
                      go_quiet (fail)
                      go_wp2
                      go_ret2
                      refine ⟨?_, below_drewN HB3.out _⟩
                      rw [HE.out]
                      rfl
                  · have HN := Lib.hid (HO.out.2.2.2.next (s := [(v, u)]) (k := k + 1 + k') HNO.out (by omega) (by rw [HL.out]; omega) (by rw [HPL.out, hpt2]; dsimp only; rw [if_neg (by exact huv), hl3, show j + (k + 1 + k') = j + k + 1 + k' by omega]; rfl))
                    have hwu := (ptL_is (fun z hz => HWF.out z (List.mem_of_mem_drop hz)) hpt2).1 (u, u) (by simp)
                    have HWU := Lib.hid (wfP_one (a := v) (b := u) hwv.1 (by omega) hwu.2.2)
                    clear hpt2 hl3 his2 hwu hwv
                    go_wp2_with (first
                      | (go_at_call 57; (with_reducible refine HPB.out.mono ?_); rintro e w2 ⟨hv, hb2⟩; obtain ⟨g2, pc2, rfl, hg2, cv⟩ := HPI.out _ _ hv hb2; clear hv; have ck2 := (hb2.cell (p := ⟨b, o + (j + k), none⟩) (Nat.lt_of_lt_of_le hb HO.out.2.1.size)).trans ck; have HB2 := Lib.hid (HO.out.2.1.trans (hb2.mono HO.out.2.1.size)); have HBW2 := Lib.hid hb2; clear hb2)
                      | (go_at_call 57; (with_reducible refine (HP2.out _ HB2.out).mono ?_); rintro e w3 ⟨hv, hb3⟩; obtain ⟨g3, pc3, rfl, hg3, cu⟩ := HPI2.out _ _ _ hv hb3; clear hv; have cv3 := (hb3.cell (p := ⟨g2, 0, none⟩) hg2).trans cv; have HS23 := Lib.hid hb3.size; have HB3 := Lib.hid (HB2.out.trans (hb3.mono HB2.out.size)); have HBW3 := Lib.hid (HBW2.out.trans (hb3.mono HBW2.out.size)); clear hb3))
                    all_goals
                      go_quiet (fail)
                      obtain ⟨X, hX⟩ : ∃ X, X = w3.drewN nq := ⟨_, rfl⟩
                      rw [← hX]
                      have hXb : Below w3.heap.size w3 X := by rw [hX]; exact below_drewN (Below.refl _ _) nq
                      have cvX := (hXb.cell (p := ⟨g2, 0, none⟩) (Nat.lt_of_lt_of_le hg2 (show w2.heap.size ≤ w3.heap.size from HS23.out))).trans cv3
                      have cuX := (hXb.cell (p := ⟨g3, 0, none⟩) hg3).trans cu
                      have HXW := Lib.hid (HB3.out.trans (hXb.mono HB3.out.size))
                      have HXR := Lib.hid (HBW3.out.trans (hXb.mono HBW3.out.size))
                      clear hX hXb
                      go_wp2_with fail
                      go_region
                      obtain ⟨P', pc', w', happ, hown, hbel⟩ := app_inG (W := W) (ownG_kept (ownG_alloc (row_base (ownG_kept HO.out.1 HXR.out) (fun x hx => (row_lt HO.out.1 hx).1)) (.cells (cellsG [(v, u)]).toArray 74)) ((Below.refl _ _).drew)) ((rowG_made X [(v, u)]).below ((Below.refl _ _).drew) (Nat.le_refl _)) (c := 1) (fun e => by cases e) (by omega) (by simp) ((HXW.out.alloc HXW.out.size _).drew)
                      simp only [List.length_cons, List.length_nil, Nat.zero_add] at happ hown
                      have HA := Lib.hid happ
                      have HOC := Lib.hid (And.intro hown hbel)
                      clear happ hown hbel
                      go_wp2_with (at_builtin; refine wpList_append_run rfl _ _ 24 rfl rfl _ _ _ _ rfl rfl HA.out ?_)
                      exact ⟨⟨j + (k + 1 + k'), q + 1, pc', p + 1, P', xs ++ [(v, u)], by go_num, rfl, by go_num, by omega, by omega, by omega, Lib.hid ⟨HOC.out.1, HOC.out.2, HO.out.2.2.1.append HWU.out, HN.out⟩⟩, by simp [intOf]; omega⟩
            · have HE := Lib.hid (HO.out.2.2.2.none_ HNO.out (by rw [HPL.out, List.drop_eq_nil_of_le (by rw [HL.out]; omega)]; rfl))
              have HPN := Lib.hid fun (A : Option Addr) (N C : Nat) (w : World) (hN : N = 0) (_ : Below W.heap.size W w) => rpoint_any [] A N C w ⟨hN.symm, fun h => absurd h (by omega)⟩ (by omega)
              clear HP2
              rcases Nat.lt_or_ge (j + k + 1) c with hjc | hjc
              · go_wp2_with (first
                  | (go_at_call 57; (with_reducible refine HPB.out.mono ?_); rintro e w2 ⟨hv, hb2⟩; obtain ⟨g2, pc2, rfl, hg2, cv⟩ := HPI.out _ _ hv hb2; clear hv; have ck2 := (hb2.cell (p := ⟨b, o + (j + k), none⟩) (Nat.lt_of_lt_of_le hb HO.out.2.1.size)).trans ck; have HB2 := Lib.hid (HO.out.2.1.trans (hb2.mono HO.out.2.1.size)); have HBW2 := Lib.hid hb2; clear hb2)
                  | (go_at_call 57; refine (HPN.out _ _ _ _ (by omega) HB2.out).mono ?_; rintro e w3 ⟨hv, hb3⟩; unfold ptV at hv; dsimp only [ptL] at hv; subst hv; have HB3 := Lib.hid (HB2.out.trans (hb3.mono HB2.out.size)); clear hb3))
                all_goals
                  go_quiet (fail)
                  go_wp2
                  go_ret2
                  refine ⟨?_, below_drewN HB3.out _⟩
                  rw [HE.out]
                  rfl
              · have hjc2 : c = j + k + 1 := by omega
                subst hjc2
                go_wp2_with (first
                  | (go_at_call 57; (with_reducible refine HPB.out.mono ?_); rintro e w2 ⟨hv, hb2⟩; obtain ⟨g2, pc2, rfl, hg2, cv⟩ := HPI.out _ _ hv hb2; clear hv; have ck2 := (hb2.cell (p := ⟨b, o + (j + k), none⟩) (Nat.lt_of_lt_of_le hb HO.out.2.1.size)).trans ck; have HB2 := Lib.hid (HO.out.2.1.trans (hb2.mono HO.out.2.1.size)); have HBW2 := Lib.hid hb2; clear hb2)
                  | (go_at_call 57; refine (HPN.out _ _ _ _ (by omega) HB2.out).mono ?_; rintro e w3 ⟨hv, hb3⟩; unfold ptV at hv; dsimp only [ptL] at hv; subst hv; have HB3 := Lib.hid (HB2.out.trans (hb3.mono HB2.out.size)); clear hb3))
                all_goals
                  go_quiet (fail)
                  go_wp2
                  go_ret2
                  refine ⟨?_, below_drewN HB3.out _⟩
                  rw [HE.out]
                  rfl
          · have HPL := Lib.hid (partL_plain HX.out (by
              rw [hl1, getD_drop9]
              rcases Bool.eq_false_or_eq_true is with h | h
              · refine .inr fun h2 => hjk ⟨h, ?_, h2⟩
                rcases Nat.lt_or_ge (j + k) n with h4 | h4
                · exact h4
                · rw [show l.getD (j + k) 0 = 0 by simp [List.getD, List.getElem?_eq_none (show l.length ≤ j + k by rw [HL.out]; exact h4)]] at h2; exact absurd h2 (by decide)
              · exact .inl h))
            rw [hl1] at HPL HX
            have HN := Lib.hid (HO.out.2.2.2.next HNO.out k1 (by rw [HL.out]; omega) HPL.out)
            have HPI := Lib.hid fun (e : Ending) (w2 : World) (hv : ptV wr w2 e (l.drop j)) => show ∃ (P2 : Option Addr) (q2 pc2 : Nat), e = .returned (.tuple #[.slice P2 q2 pc2, .bool is, .int .i64 (k : Int)]) ∧ q2 ≤ 5 ∧ w2.ownsRow wr.heap.size 74 2 (.slice P2 q2 pc2) q2 (cellsG s) by
              unfold ptV at hv
              rw [HX.out] at hv
              dsimp only at hv
              obtain ⟨P2, q2, pc2, k', rfl, h1, h2, h3, ho⟩ := hv
              have hkk : k' = k := by
                have h4 := congrArg List.length h3
                rw [List.drop_drop, List.length_drop, List.length_drop, HL.out] at h4
                rw [List.length_drop, HL.out] at h2
                omega
              subst hkk
              exact ⟨P2, q2, pc2, rfl, by have h := ho.1; rw [cellsG_length] at h; omega, ho⟩
            have hcl := cj
            by_cases hjk2 : j + k < n
            · have ck := (HO.out.2.1.cell (p := ⟨b, o + (j + k), none⟩) hb).trans (HC.out (j + k) hjk2)
              obtain ⟨z, hz⟩ : ∃ z, z = l.getD (j + k) 0 := ⟨_, rfl⟩
              rw [← hz] at ck hjk
              clear hz
              cases is with
              | false =>
                clear hjk
                go_wp2_with (first
                  | (go_at_call 57; (with_reducible refine HPB.out.mono ?_); rintro e w2 ⟨hv, hb2⟩; obtain ⟨P2, q2, pc2, rfl, hq2, ho2⟩ := HPI.out _ _ hv; clear hv; obtain ⟨P', pc', w', happ, hown, hbel⟩ := app_inG (W := W) (c := pc2) (row_base (ownG_kept HO.out.1 hb2) (fun x hx => (row_lt HO.out.1 hx).1)) (rowG_own9 ho2) (own_none ho2) (by omega) (by omega) (HO.out.2.1.trans (hb2.mono HO.out.2.1.size)); have HA := Lib.hid happ; have HOC := Lib.hid (And.intro hown hbel); clear happ hown hbel ho2 hb2)
                  | (at_builtin; refine wpList_append_run rfl _ _ 24 rfl rfl _ _ _ _ rfl rfl HA.out ?_))
                all_goals exact ⟨⟨j + k, q + q2, pc', p + 1, P', xs ++ s, by go_num, rfl, by go_num, by omega, by omega, by omega, Lib.hid ⟨HOC.out.1, HOC.out.2, HO.out.2.2.1.append HWS.out, HN.out⟩⟩, by simp [intOf]; omega⟩
              | true =>
                have e45 : (z == 45) = false := by
                  have h : z ≠ 45 := fun h => hjk ⟨rfl, hjk2, h⟩
                  simpa using h
                clear hjk
                go_wp2_with (first
                  | (go_at_call 57; (with_reducible refine HPB.out.mono ?_); rintro e w2 ⟨hv, hb2⟩; obtain ⟨P2, q2, pc2, rfl, hq2, ho2⟩ := HPI.out _ _ hv; clear hv; have ck2 := (hb2.cell (p := ⟨b, o + (j + k), none⟩) (Nat.lt_of_lt_of_le hb HO.out.2.1.size)).trans ck; obtain ⟨P', pc', w', happ, hown, hbel⟩ := app_inG (W := W) (c := pc2) (row_base (ownG_kept HO.out.1 hb2) (fun x hx => (row_lt HO.out.1 hx).1)) (rowG_own9 ho2) (own_none ho2) (by omega) (by omega) (HO.out.2.1.trans (hb2.mono HO.out.2.1.size)); have HA := Lib.hid happ; have HOC := Lib.hid (And.intro hown hbel); clear happ hown hbel ho2 hb2)
                  | (at_builtin; refine wpList_append_run rfl _ _ 24 rfl rfl _ _ _ _ rfl rfl HA.out ?_))
                all_goals exact ⟨⟨j + k, q + q2, pc', p + 1, P', xs ++ s, by go_num, rfl, by go_num, by omega, by omega, by omega, Lib.hid ⟨HOC.out.1, HOC.out.2, HO.out.2.2.1.append HWS.out, HN.out⟩⟩, by simp [intOf]; omega⟩
            · have HXX := HPI
              clear hjk
              go_wp2_with (first
                | (go_at_call 57; (with_reducible refine HPB.out.mono ?_); rintro e w2 ⟨hv, hb2⟩; obtain ⟨P2, q2, pc2, rfl, hq2, ho2⟩ := HPI.out _ _ hv; clear hv; obtain ⟨P', pc', w', happ, hown, hbel⟩ := app_inG (W := W) (c := pc2) (row_base (ownG_kept HO.out.1 hb2) (fun x hx => (row_lt HO.out.1 hx).1)) (rowG_own9 ho2) (own_none ho2) (by omega) (by omega) (HO.out.2.1.trans (hb2.mono HO.out.2.1.size)); have HA := Lib.hid happ; have HOC := Lib.hid (And.intro hown hbel); clear happ hown hbel ho2 hb2)
                | (at_builtin; refine wpList_append_run rfl _ _ 24 rfl rfl _ _ _ _ rfl rfl HA.out ?_))
              all_goals exact ⟨⟨j + k, q + q2, pc', p + 1, P', xs ++ s, by go_num, rfl, by go_num, by omega, by omega, by omega, Lib.hid ⟨HOC.out.1, HOC.out.2, HO.out.2.2.1.append HWS.out, HN.out⟩⟩, by simp [intOf]; omega⟩
    · have hjn2 : j = n := by omega
      subst hjn2
      have HE := Lib.hid (HO.out.2.2.2.none_ (fun h => by have h2 := h.2; rw [show l.getD j 0 = 0 by simp [List.getD, List.getElem?_eq_none (Nat.le_of_eq HL.out)]] at h2; exact absurd h2 (by decide)) (by rw [List.drop_eq_nil_of_le (by rw [HL.out]; exact Nat.le_refl _)]; rfl))
      have HP := Lib.hid fun (A : Option Addr) (C : Nat) => rpoint_any [] A 0 C wr ⟨rfl, fun h => absurd h (by omega)⟩ (by omega)
      rcases Nat.lt_or_ge j c with hjc | hjc
      · go_wp2_with (go_at_call 57; refine (HP.out _ _).mono ?_; rintro e w2 ⟨hv, hb2⟩; have HB2 := Lib.hid hb2; clear hb2; unfold ptV at hv; dsimp only [ptL] at hv; subst hv)
        go_ret2
        refine ⟨?_, HO.out.2.1.trans (HB2.out.mono HO.out.2.1.size)⟩
        rw [HE.out]
        rfl
      · have hjc2 : c = j := by omega
        subst hjc2
        go_wp2_with (go_at_call 57; refine (HP.out _ _).mono ?_; rintro e w2 ⟨hv, hb2⟩; have HB2 := Lib.hid hb2; clear hb2; unfold ptV at hv; dsimp only [ptL] at hv; subst hv)
        go_ret2
        refine ⟨?_, HO.out.2.1.trans (HB2.out.mono HO.out.2.1.size)⟩
        rw [HE.out]
        rfl
end Go.Proofs.YtaapbmdojkjphaaGreat
namespace Go.Proofs.YtaapbmdojkjphaaGreat
open Go Go.RowKit
set_option linter.unusedVariables false
set_option maxRecDepth 20000
set_option maxHeartbeats 1000000 in
theorem rclass_nil (A : Option Addr) (c : Nat) (W : World) (hr : RowI .i64 W A 0 []) :
    Calls Tryz.prog 33 #[.slice A 0 c] W fun e w' => clsV W w' e none [] ∧ Below W.heap.size W w' := by
  have HP := Lib.hid fun (A : Option Addr) (c : Nat) (w : World) => rpoint_any [] A 0 c w ⟨rfl, fun h => absurd h (by omega)⟩ (by omega)
  clear hr
  rcases A with _ | ⟨b, o, sp⟩
  all_goals
    go_enter Tryz.func33, Tryz.ntmps33
    go_wp2_with fail
    go_loopw [4, 6, 7] (fun va vs vp wr => va = .int .i64 0 ∧ vs = .slice none 0 0 ∧ vp = .int .i64 0 ∧ wr = W) (fun _ _ _ _ => 0)
    case atStart => exact ⟨rfl, rfl, rfl, rfl⟩
    case round =>
      obtain ⟨rfl, rfl, rfl, rfl⟩ := hrel
      go_wp2_with (go_at_call 57; (with_reducible refine (HP.out _ _ _).mono ?_); rintro e w1 ⟨h1, hb⟩; unfold ptV at h1; dsimp only [ptL] at h1; subst h1; have HB := Lib.hid hb; clear hb)
      go_ret2
      exact ⟨rfl, HB.out⟩
theorem rclass_any (l : List Int) (A : Option Addr) (n c : Nat) (W : World) (hr : RowI .i64 W A n l) (hn : n ≤ 200) (hnc : n ≤ c) (hw : ∀ x ∈ l, 0 ≤ x ∧ x ≤ 1114111) :
    Calls Tryz.prog 33 #[.slice A n c] W fun e w' => clsV W w' e (classL l) l ∧ Below W.heap.size W w' := by
  rcases l with _ | ⟨r, l⟩
  · have h := hr.1
    rw [List.length_nil] at h
    subst h
    exact rclass_nil A c W hr
  · have h0 : 0 < n := by have := hr.1; rw [List.length_cons] at this; omega
    by_cases e0 : r = 94
    · subst e0
      have e : classL (94 :: l) = (partsL (l.length + 1) l [] false).map fun p => (setOf fun r => hasL p.1 r != true, p.2) := by
        show (partsL (l.length + 1) l [] false).map (fun p => (setOf fun x => !hasL p.1 x, p.2)) = _
        congr 1
        funext p
        simp
      rw [e]
      exact rclass_not (94 :: l) A n c W hr hn hnc hw h0 rfl _ ⟨l.length + 1, by simp, rfl⟩
    · have e : classL (r :: l) = (partsL ((r :: l).length + 1) (r :: l) [] false).map fun p => (setOf fun r => hasL p.1 r != false, p.2) := by
        unfold classL
        split
        · rename_i l' h; injection h with h; exact absurd h e0
        · congr 1
          funext p
          simp
      rw [e]
      exact rclass_yes (r :: l) A n c W hr hn hnc hw h0 e0 _ ⟨_, by simp, rfl⟩
end Go.Proofs.YtaapbmdojkjphaaGreat
namespace Go.Proofs.YtaapbmdojkjphaaGreat
open Go Go.RowKit
set_option linter.unusedVariables false
set_option maxRecDepth 20000
theorem rbrace_head2 {l l' : List Int} {a : Int} {b o n c : Nat} {W : World} {k : Nat} (hr : RowI .i64 W (some ⟨b, o, none⟩) n l) (hn : n ≤ 1000) (hd : 44 :: l' = l.drop k) (hk : k + (44 :: l').length = n) :
    Hid (∀ w, Below W.heap.size W w → Calls Tryz.prog 55 #[.slice (some ⟨b, o + (k + 1), none⟩) (n - (k + 1)) (c - (k + 1))] w fun e w' => e = .returned (.tuple #[.int .i64 (numV l').1, .int .i64 (numV l').2]) ∧ w = w') := by
  have h1 := rowI_from hr (m := k + 1) (by rw [List.length_cons] at hk; omega)
  have h2 : l.drop (k + 1) = l' := by
    rw [show l.drop (k + 1) = (l.drop k).drop 1 by rw [List.drop_drop], ← hd]; rfl
  rw [h2] at h1
  exact Lib.hid fun w h => rnum_any l' _ _ _ w (h1.below h (Nat.le_refl _)) (by omega)
set_option maxHeartbeats 4000000 in
theorem rbrace_no2 (l r' : List Int) (a y : Int) (hy : y ≠ 125) (A : Option Addr) (n c : Nat) (W : World) (hr : RowI .i64 W A n l) (hn : n ≤ 1000) (hnc : n ≤ c) (hl : numL l = some (a, 44 :: y :: r')) (h2 : numL (y :: r') = none) :
    Calls Tryz.prog 32 #[.slice A n c] W fun e w' => braceR l e ∧ Below W.heap.size W w' := by
  have HB := Lib.hid (show braceL l = none by unfold braceL; rw [hl]; simp [hy, h2])
  obtain ⟨k, b, o, k1, k2, rfl, hb, hkn, a0, a1, hdr, hc, HX⟩ := rbrace_head (c := c) hr hn hl
  have HY := rbrace_head2 (a := a) (c := c) hr hn hdr hkn
  rw [numL_none h2] at HY
  clear hdr
  rw [List.length_cons] at hkn
  have hk : ¬ (k : Int) = 0 := by omega
  have kb : ((k : Int) == 0) = false := by simpa using hk
  have hkn2 : (k : Int) < (n : Int) := by omega
  have c0 := hc 0 (by omega)
  rw [Nat.add_zero, show (44 :: y :: r').getD 0 0 = 44 from rfl] at c0
  rw [List.length_cons] at hkn
  have c1 := hc 1 (by omega)
  rw [show (44 :: y :: r').getD 1 0 = y from rfl] at c1
  have c2 := c1
  rw [← Nat.add_assoc] at c2
  have e1 : (y == 125) = false := by simpa using hy
  have hkn3 : (k : Int) + 1 < (n : Int) := by omega
  clear hr hl hc hkn h2
  go_enter Tryz.func32, Tryz.ntmps32
  go_wp2_with (fail)
  with_reducible refine (HX.out _ ((Below.refl _ _).alloc (Nat.le_refl _) _)).mono ?_
  rintro e w1 ⟨rfl, rfl⟩
  go_wp2_with (fail)
  with_reducible refine (HY.out _ ((Below.refl _ _).alloc (Nat.le_refl _) _)).mono ?_
  rintro e w1 ⟨rfl, rfl⟩
  go_wp2_with (fail)
  refine bodyPost_ret (v := .tuple #[.agg #[.int .i64 0, .int .i64 0, .slice none 0 0, .int .i64 0, .int .i64 0], .int .i64 0]) ?_ rfl ⟨?_, by go_grown⟩
  · rw [results_cell_tmp rfl]; go_simp
  · unfold braceR; rw [HB.out]
set_option maxHeartbeats 4000000 in
theorem rbrace_less (l r' : List Int) (a y : Int) (z : Int) (q : List Int) (hy : y ≠ 125) (A : Option Addr) (n c : Nat) (W : World) (hr : RowI .i64 W A n l) (hn : n ≤ 1000) (hnc : n ≤ c) (hl : numL l = some (a, 44 :: y :: r')) (h2 : numL (y :: r') = some (z, q)) (hz : z < a) :
    Calls Tryz.prog 32 #[.slice A n c] W fun e w' => braceR l e ∧ Below W.heap.size W w' := by
  have HB := Lib.hid (show braceL l = none by
    unfold braceL; rw [hl]
    rcases q with _ | ⟨x, q⟩
    · simp [hy, h2]
    · by_cases hx : x = 125
      · subst hx; simp [hy, h2, hz]
      · simp [hy, h2, hx])
  obtain ⟨k, b, o, k1, k2, rfl, hb, hkn, a0, a1, hdr, hc, HX⟩ := rbrace_head (c := c) hr hn hl
  have HY := rbrace_head2 (a := a) (c := c) hr hn hdr hkn
  obtain ⟨m, m1, m2, g1, g2, z0, z1, hv⟩ := numL_rest h2
  rw [hv] at HY
  rw [List.length_cons] at g2
  clear hdr
  rw [List.length_cons] at hkn
  have hk : ¬ (k : Int) = 0 := by omega
  have kb : ((k : Int) == 0) = false := by simpa using hk
  have hkn2 : (k : Int) < (n : Int) := by omega
  have c0 := hc 0 (by omega)
  rw [Nat.add_zero, show (44 :: y :: r').getD 0 0 = 44 from rfl] at c0
  rw [List.length_cons] at hkn
  have c1 := hc 1 (by omega)
  rw [show (44 :: y :: r').getD 1 0 = y from rfl] at c1
  have c2 := c1
  rw [← Nat.add_assoc] at c2
  have e1 : (y == 125) = false := by simpa using hy
  have hkn3 : (k : Int) + 1 < (n : Int) := by omega
  have hm : ¬ (m : Int) = 0 := by omega
  have mb : ((m : Int) == 0) = false := by simpa using hm
  clear hr hl hc hkn h2 g1 g2
  go_enter Tryz.func32, Tryz.ntmps32
  go_wp2_with (fail)
  with_reducible refine (HX.out _ ((Below.refl _ _).alloc (Nat.le_refl _) _)).mono ?_
  rintro e w1 ⟨rfl, rfl⟩
  go_wp2_with (fail)
  with_reducible refine (HY.out _ ((Below.refl _ _).alloc (Nat.le_refl _) _)).mono ?_
  rintro e w1 ⟨rfl, rfl⟩
  go_wp2_with (fail)
  refine bodyPost_ret (v := .tuple #[.agg #[.int .i64 0, .int .i64 0, .slice none 0 0, .int .i64 0, .int .i64 0], .int .i64 0]) ?_ rfl ⟨?_, by go_grown⟩
  · rw [results_cell_tmp rfl]; go_simp
  · unfold braceR; rw [HB.out]
set_option maxHeartbeats 4000000 in
theorem rbrace_end2 (l r' : List Int) (a y : Int) (z : Int) (hy : y ≠ 125) (A : Option Addr) (n c : Nat) (W : World) (hr : RowI .i64 W A n l) (hn : n ≤ 1000) (hnc : n ≤ c) (hl : numL l = some (a, 44 :: y :: r')) (h2 : numL (y :: r') = some (z, [])) (hz : a ≤ z) :
    Calls Tryz.prog 32 #[.slice A n c] W fun e w' => braceR l e ∧ Below W.heap.size W w' := by
  have HB := Lib.hid (show braceL l = none by unfold braceL; rw [hl]; simp [hy, h2])
  obtain ⟨k, b, o, k1, k2, rfl, hb, hkn, a0, a1, hdr, hc, HX⟩ := rbrace_head (c := c) hr hn hl
  have HY := rbrace_head2 (a := a) (c := c) hr hn hdr hkn
  obtain ⟨m, m1, m2, g1, g2, z0, z1, hv⟩ := numL_rest h2
  rw [hv] at HY
  rw [List.length_cons] at g2
  clear hdr
  rw [List.length_cons] at hkn
  have hk : ¬ (k : Int) = 0 := by omega
  have kb : ((k : Int) == 0) = false := by simpa using hk
  have hkn2 : (k : Int) < (n : Int) := by omega
  have c0 := hc 0 (by omega)
  rw [Nat.add_zero, show (44 :: y :: r').getD 0 0 = 44 from rfl] at c0
  rw [List.length_cons] at hkn
  have c1 := hc 1 (by omega)
  rw [show (44 :: y :: r').getD 1 0 = y from rfl] at c1
  have c2 := c1
  rw [← Nat.add_assoc] at c2
  have e1 : (y == 125) = false := by simpa using hy
  have hkn3 : (k : Int) + 1 < (n : Int) := by omega
  have hm : ¬ (m : Int) = 0 := by omega
  have mb : ((m : Int) == 0) = false := by simpa using hm
  have hx1 : (n : Int) ≤ (k : Int) + 1 + (m : Int) := by rw [List.length_nil] at g2; omega
  have hz2 : ¬ z < a := by omega
  clear hr hl hc hkn h2 g1 g2
  go_enter Tryz.func32, Tryz.ntmps32
  go_wp2_with (fail)
  with_reducible refine (HX.out _ ((Below.refl _ _).alloc (Nat.le_refl _) _)).mono ?_
  rintro e w1 ⟨rfl, rfl⟩
  go_wp2_with (fail)
  with_reducible refine (HY.out _ ((Below.refl _ _).alloc (Nat.le_refl _) _)).mono ?_
  rintro e w1 ⟨rfl, rfl⟩
  go_wp2_with (fail)
  refine bodyPost_ret (v := .tuple #[.agg #[.int .i64 0, .int .i64 0, .slice none 0 0, .int .i64 0, .int .i64 0], .int .i64 0]) ?_ rfl ⟨?_, by go_grown⟩
  · rw [results_cell_tmp rfl]; go_simp
  · unfold braceR; rw [HB.out]
set_option maxHeartbeats 4000000 in
theorem rbrace_oth2 (l r' : List Int) (a y : Int) (z x : Int) (q : List Int) (hx : x ≠ 125) (hy : y ≠ 125) (A : Option Addr) (n c : Nat) (W : World) (hr : RowI .i64 W A n l) (hn : n ≤ 1000) (hnc : n ≤ c) (hl : numL l = some (a, 44 :: y :: r')) (h2 : numL (y :: r') = some (z, x :: q)) (hz : a ≤ z) :
    Calls Tryz.prog 32 #[.slice A n c] W fun e w' => braceR l e ∧ Below W.heap.size W w' := by
  have HB := Lib.hid (show braceL l = none by unfold braceL; rw [hl]; simp [hy, h2, hx])
  obtain ⟨k, b, o, k1, k2, rfl, hb, hkn, a0, a1, hdr, hc, HX⟩ := rbrace_head (c := c) hr hn hl
  have HY := rbrace_head2 (a := a) (c := c) hr hn hdr hkn
  obtain ⟨m, m1, m2, g1, g2, z0, z1, hv⟩ := numL_rest h2
  rw [hv] at HY
  rw [List.length_cons] at g2
  clear hdr
  rw [List.length_cons] at hkn
  have hk : ¬ (k : Int) = 0 := by omega
  have kb : ((k : Int) == 0) = false := by simpa using hk
  have hkn2 : (k : Int) < (n : Int) := by omega
  have c0 := hc 0 (by omega)
  rw [Nat.add_zero, show (44 :: y :: r').getD 0 0 = 44 from rfl] at c0
  rw [List.length_cons] at hkn
  have c1 := hc 1 (by omega)
  rw [show (44 :: y :: r').getD 1 0 = y from rfl] at c1
  have c2 := c1
  rw [← Nat.add_assoc] at c2
  have e1 : (y == 125) = false := by simpa using hy
  have hkn3 : (k : Int) + 1 < (n : Int) := by omega
  have hm : ¬ (m : Int) = 0 := by omega
  have mb : ((m : Int) == 0) = false := by simpa using hm
  have hx1 : (k : Int) + 1 + (m : Int) < (n : Int) := by rw [List.length_cons] at g2; omega
  have hx2 := hc (1 + m) (by omega)
  rw [show (44 :: y :: r').getD (1 + m) 0 = x by rw [Nat.add_comm]; show (y :: r').getD m 0 = x; have g3 := congrArg (fun t => t.getD 0 0) g1; simpa [List.getD, List.getElem?_drop] using g3.symm] at hx2
  have hx3 := hx2
  rw [← Nat.add_assoc] at hx2
  rw [← Nat.add_assoc, ← Nat.add_assoc] at hx3
  have hx4 := hx3
  rw [Nat.add_assoc, Nat.add_assoc, ← Nat.add_assoc k] at hx4
  have hz2 : ¬ z < a := by omega
  have e3 : (x != 125) = true := by simpa using hx
  clear hr hl hc hkn h2 g1 g2
  go_enter Tryz.func32, Tryz.ntmps32
  go_wp2_with (fail)
  with_reducible refine (HX.out _ ((Below.refl _ _).alloc (Nat.le_refl _) _)).mono ?_
  rintro e w1 ⟨rfl, rfl⟩
  go_wp2_with (fail)
  with_reducible refine (HY.out _ ((Below.refl _ _).alloc (Nat.le_refl _) _)).mono ?_
  rintro e w1 ⟨rfl, rfl⟩
  go_wp2_with (fail)
  refine bodyPost_ret (v := .tuple #[.agg #[.int .i64 0, .int .i64 0, .slice none 0 0, .int .i64 0, .int .i64 0], .int .i64 0]) ?_ rfl ⟨?_, by go_grown⟩
  · rw [results_cell_tmp rfl]; go_simp
  · unfold braceR; rw [HB.out]
set_option maxHeartbeats 4000000 in
theorem rbrace_shut2 (l r' : List Int) (a y : Int) (z : Int) (q : List Int) (hy : y ≠ 125) (A : Option Addr) (n c : Nat) (W : World) (hr : RowI .i64 W A n l) (hn : n ≤ 1000) (hnc : n ≤ c) (hl : numL l = some (a, 44 :: y :: r')) (h2 : numL (y :: r') = some (z, 125 :: q)) (hz : a ≤ z) :
    Calls Tryz.prog 32 #[.slice A n c] W fun e w' => braceR l e ∧ Below W.heap.size W w' := by
  have HB := Lib.hid (show braceL l = some (tokN a z, q) by unfold braceL; rw [hl]; simp [hy, h2, show ¬ z < a by omega])
  obtain ⟨k, b, o, k1, k2, rfl, hb, hkn, a0, a1, hdr, hc, HX⟩ := rbrace_head (c := c) hr hn hl
  have HY := rbrace_head2 (a := a) (c := c) hr hn hdr hkn
  obtain ⟨m, m1, m2, g1, g2, z0, z1, hv⟩ := numL_rest h2
  rw [hv] at HY
  rw [List.length_cons] at g2
  clear hdr
  rw [List.length_cons] at hkn
  have hk : ¬ (k : Int) = 0 := by omega
  have kb : ((k : Int) == 0) = false := by simpa using hk
  have hkn2 : (k : Int) < (n : Int) := by omega
  have c0 := hc 0 (by omega)
  rw [Nat.add_zero, show (44 :: y :: r').getD 0 0 = 44 from rfl] at c0
  rw [List.length_cons] at hkn
  have c1 := hc 1 (by omega)
  rw [show (44 :: y :: r').getD 1 0 = y from rfl] at c1
  have c2 := c1
  rw [← Nat.add_assoc] at c2
  have e1 : (y == 125) = false := by simpa using hy
  have hkn3 : (k : Int) + 1 < (n : Int) := by omega
  have hm : ¬ (m : Int) = 0 := by omega
  have mb : ((m : Int) == 0) = false := by simpa using hm
  have hx1 : (k : Int) + 1 + (m : Int) < (n : Int) := by rw [List.length_cons] at g2; omega
  have hx2 := hc (1 + m) (by omega)
  rw [show (44 :: y :: r').getD (1 + m) 0 = 125 by rw [Nat.add_comm]; show (y :: r').getD m 0 = 125; have g3 := congrArg (fun t => t.getD 0 0) g1; simpa [List.getD, List.getElem?_drop] using g3.symm] at hx2
  have hx3 := hx2
  rw [← Nat.add_assoc] at hx2
  rw [← Nat.add_assoc, ← Nat.add_assoc] at hx3
  have hx4 := hx3
  rw [Nat.add_assoc, Nat.add_assoc, ← Nat.add_assoc k] at hx4
  have hz2 : ¬ z < a := by omega
  have HLN := Lib.hid (show (k + m + 2) + q.length = l.length by have := hr.1; rw [List.length_cons] at g2; omega)
  clear hr hl hc hkn h2 g1 g2
  go_enter Tryz.func32, Tryz.ntmps32
  go_wp2_with (fail)
  with_reducible refine (HX.out _ ((Below.refl _ _).alloc (Nat.le_refl _) _)).mono ?_
  rintro e w1 ⟨rfl, rfl⟩
  go_wp2_with (fail)
  with_reducible refine (HY.out _ ((Below.refl _ _).alloc (Nat.le_refl _) _)).mono ?_
  rintro e w1 ⟨rfl, rfl⟩
  go_wp2_with (fail)
  refine bodyPost_ret (v := .tuple #[.agg #[.int .i64 2, .int .i64 0, .slice none 0 0, .int .i64 a, .int .i64 z], .int .i64 ((k : Int) + (m : Int) + 2)]) ?_ rfl ⟨?_, by go_grown⟩
  · rw [results_cell_tmp rfl]; go_simp
  · unfold braceR; rw [HB.out]; exact ⟨k + m + 2, HLN.out, by omega, by rw [show ((k + m + 2 : Nat) : Int) = (k : Int) + (m : Int) + 2 by omega]; rfl⟩
theorem rbrace_any (l : List Int) (A : Option Addr) (n c : Nat) (W : World) (hr : RowI .i64 W A n l) (hn : n ≤ 1000) (hnc : n ≤ c) :
    Calls Tryz.prog 32 #[.slice A n c] W fun e w' => braceR l e ∧ Below W.heap.size W w' := by
  rcases hl : numL l with _ | ⟨a, _ | ⟨x, r⟩⟩
  · exact rbrace_none l A n c W hr hn hl
  · exact rbrace_end l a A n c W hr hn hl
  · by_cases h1 : x = 125
    · subst h1; exact rbrace_shut l r a A n c W hr hn hl
    · by_cases h2 : x = 44
      · subst h2
        rcases r with _ | ⟨y, r⟩
        · exact rbrace_comma l [] a A n c W hr hn hl
        · by_cases hy : y = 125
          · subst hy; exact rbrace_open l r a A n c W hr hn hl
          · rcases h3 : numL (y :: r) with _ | ⟨z, q⟩
            · exact rbrace_no2 l r a y hy A n c W hr hn hnc hl h3
            · by_cases hz : z < a
              · exact rbrace_less l r a y z q hy A n c W hr hn hnc hl h3 hz
              · rcases q with _ | ⟨x, q⟩
                · exact rbrace_end2 l r a y z hy A n c W hr hn hnc hl h3 (by omega)
                · by_cases hx : x = 125
                  · subst hx; exact rbrace_shut2 l r a y z q hy A n c W hr hn hnc hl h3 (by omega)
                  · exact rbrace_oth2 l r a y z x q hx hy A n c W hr hn hnc hl h3 (by omega)
      · exact rbrace_other l r a x h1 h2 A n c W hr hn hl
end Go.Proofs.YtaapbmdojkjphaaGreat
namespace Go.Proofs.YtaapbmdojkjphaaGreat
open Go Go.RowKit
set_option linter.unusedVariables false
set_option maxRecDepth 20000
def tokR (W w' : World) (e : Ending) (l : List Int) : Prop :=
  match tokL l with
  | none => e = .returned (.tuple #[.agg #[.int .i64 0, .int .i64 0, .slice none 0 0, .int .i64 0, .int .i64 0], .int .i64 0])
  | some (t, rest) => ∃ (A : Option Addr) (n c k : Nat), e = .returned (.tuple #[tokV t A n c, .int .i64 (k : Int)]) ∧ 1 ≤ k ∧ k ≤ l.length ∧ rest = l.drop k ∧ w'.ownsRow W.heap.size 74 2 (.slice A n c) n (cellsG t.set)
theorem tokR_none {W w' : World} {l : List Int} (h : tokL l = none) : tokR W w' (.returned (.tuple #[.agg #[.int .i64 0, .int .i64 0, .slice none 0 0, .int .i64 0, .int .i64 0], .int .i64 0])) l := by
  unfold tokR; rw [h]
theorem tokR_some {W w' : World} {l : List Int} {t : TokL} {rest : List Int} {A : Option Addr} {n c k : Nat} (h : tokL l = some (t, rest)) (h1 : 1 ≤ k) (h2 : k ≤ l.length) (h3 : rest = l.drop k) (ho : w'.ownsRow W.heap.size 74 2 (.slice A n c) n (cellsG t.set)) :
    tokR W w' (.returned (.tuple #[.agg #[.int .i64 t.kind, .int .i64 t.r, .slice A n c, .int .i64 t.mn, .int .i64 t.mx], .int .i64 (k : Int)])) l := by
  unfold tokR; rw [h]; exact ⟨A, n, c, k, rfl, h1, h2, h3, ho⟩
set_option maxHeartbeats 2000000 in
theorem rtok_sign (r : Int) (l : List Int) (hs : r = 124 ∨ r = 40 ∨ r = 41 ∨ r = 94 ∨ r = 36) (A : Option Addr) (n c : Nat) (W : World) (hr : RowI .i64 W A n (r :: l)) :
    Calls Tryz.prog 17 #[.slice A n c] W fun e w' => tokR W w' e (r :: l) ∧ Below W.heap.size W w' := by
  have hn : 0 < n := by have := hr.1; rw [List.length_cons] at this; omega
  obtain ⟨b, o, rfl, hb, hc⟩ := hr.2 hn
  have c0 : W.cell? ⟨b, o, none⟩ = some (.int .i64 r) := hc 0 hn
  clear hc hr
  rcases hs with rfl | rfl | rfl | rfl | rfl
  all_goals
    go_enter Tryz.func17, Tryz.ntmps17
    go_wp2
    first
      | (refine bodyPost_ret (v := .tuple #[.agg #[.int .i64 1, .int .i64 124, .slice none 0 0, .int .i64 0, .int .i64 (0)], .int .i64 1]) ?_ rfl ⟨tokR_some (l := 124 :: l) (k := 1) rfl (by omega) (by rw [List.length_cons]; omega) rfl (nilG _ _), by first | exact Below.refl _ _ | exact (Below.refl _ _).alloc (Nat.le_refl _) _⟩; rw [results_cell_tmp rfl]; go_simp)
      | (refine bodyPost_ret (v := .tuple #[.agg #[.int .i64 1, .int .i64 40, .slice none 0 0, .int .i64 0, .int .i64 (0)], .int .i64 1]) ?_ rfl ⟨tokR_some (l := 40 :: l) (k := 1) rfl (by omega) (by rw [List.length_cons]; omega) rfl (nilG _ _), by first | exact Below.refl _ _ | exact (Below.refl _ _).alloc (Nat.le_refl _) _⟩; rw [results_cell_tmp rfl]; go_simp)
      | (refine bodyPost_ret (v := .tuple #[.agg #[.int .i64 1, .int .i64 41, .slice none 0 0, .int .i64 0, .int .i64 (0)], .int .i64 1]) ?_ rfl ⟨tokR_some (l := 41 :: l) (k := 1) rfl (by omega) (by rw [List.length_cons]; omega) rfl (nilG _ _), by first | exact Below.refl _ _ | exact (Below.refl _ _).alloc (Nat.le_refl _) _⟩; rw [results_cell_tmp rfl]; go_simp)
      | (refine bodyPost_ret (v := .tuple #[.agg #[.int .i64 1, .int .i64 94, .slice none 0 0, .int .i64 0, .int .i64 (0)], .int .i64 1]) ?_ rfl ⟨tokR_some (l := 94 :: l) (k := 1) rfl (by omega) (by rw [List.length_cons]; omega) rfl (nilG _ _), by first | exact Below.refl _ _ | exact (Below.refl _ _).alloc (Nat.le_refl _) _⟩; rw [results_cell_tmp rfl]; go_simp)
      | (refine bodyPost_ret (v := .tuple #[.agg #[.int .i64 1, .int .i64 36, .slice none 0 0, .int .i64 0, .int .i64 (0)], .int .i64 1]) ?_ rfl ⟨tokR_some (l := 36 :: l) (k := 1) rfl (by omega) (by rw [List.length_cons]; omega) rfl (nilG _ _), by first | exact Below.refl _ _ | exact (Below.refl _ _).alloc (Nat.le_refl _) _⟩; rw [results_cell_tmp rfl]; go_simp)
set_option maxHeartbeats 2000000 in
theorem rtok_count (r : Int) (l : List Int) (hs : r = 42 ∨ r = 43 ∨ r = 63) (A : Option Addr) (n c : Nat) (W : World) (hr : RowI .i64 W A n (r :: l)) :
    Calls Tryz.prog 17 #[.slice A n c] W fun e w' => tokR W w' e (r :: l) ∧ Below W.heap.size W w' := by
  have hn : 0 < n := by have := hr.1; rw [List.length_cons] at this; omega
  obtain ⟨b, o, rfl, hb, hc⟩ := hr.2 hn
  have c0 : W.cell? ⟨b, o, none⟩ = some (.int .i64 r) := hc 0 hn
  clear hc hr
  rcases hs with rfl | rfl | rfl
  all_goals
    go_enter Tryz.func17, Tryz.ntmps17
    go_wp2
    first
      | (refine bodyPost_ret (v := .tuple #[.agg #[.int .i64 2, .int .i64 0, .slice none 0 0, .int .i64 0, .int .i64 (-1)], .int .i64 1]) ?_ rfl ⟨tokR_some (l := 42 :: l) (k := 1) rfl (by omega) (by rw [List.length_cons]; omega) rfl (nilG _ _), by first | exact Below.refl _ _ | exact (Below.refl _ _).alloc (Nat.le_refl _) _⟩; rw [results_cell_tmp rfl]; go_simp)
      | (refine bodyPost_ret (v := .tuple #[.agg #[.int .i64 2, .int .i64 0, .slice none 0 0, .int .i64 1, .int .i64 (-1)], .int .i64 1]) ?_ rfl ⟨tokR_some (l := 43 :: l) (k := 1) rfl (by omega) (by rw [List.length_cons]; omega) rfl (nilG _ _), by first | exact Below.refl _ _ | exact (Below.refl _ _).alloc (Nat.le_refl _) _⟩; rw [results_cell_tmp rfl]; go_simp)
      | (refine bodyPost_ret (v := .tuple #[.agg #[.int .i64 2, .int .i64 0, .slice none 0 0, .int .i64 0, .int .i64 (1)], .int .i64 1]) ?_ rfl ⟨tokR_some (l := 63 :: l) (k := 1) rfl (by omega) (by rw [List.length_cons]; omega) rfl (nilG _ _), by first | exact Below.refl _ _ | exact (Below.refl _ _).alloc (Nat.le_refl _) _⟩; rw [results_cell_tmp rfl]; go_simp)
set_option maxHeartbeats 2000000 in
theorem rtok_no (r : Int) (l : List Int) (hs : r = 93 ∨ r = 125) (A : Option Addr) (n c : Nat) (W : World) (hr : RowI .i64 W A n (r :: l)) :
    Calls Tryz.prog 17 #[.slice A n c] W fun e w' => tokR W w' e (r :: l) ∧ Below W.heap.size W w' := by
  have hn : 0 < n := by have := hr.1; rw [List.length_cons] at this; omega
  obtain ⟨b, o, rfl, hb, hc⟩ := hr.2 hn
  have c0 : W.cell? ⟨b, o, none⟩ = some (.int .i64 r) := hc 0 hn
  clear hc hr
  rcases hs with rfl | rfl
  all_goals
    go_enter Tryz.func17, Tryz.ntmps17
    go_wp2
    refine bodyPost_ret (v := .tuple #[.agg #[.int .i64 0, .int .i64 0, .slice none 0 0, .int .i64 0, .int .i64 0], .int .i64 0]) ?_ rfl ⟨tokR_none rfl, by first | exact Below.refl _ _ | exact (Below.refl _ _).alloc (Nat.le_refl _) _⟩
    rw [results_cell_tmp rfl]
    go_simp
end Go.Proofs.YtaapbmdojkjphaaGreat
namespace Go.Proofs.YtaapbmdojkjphaaGreat
open Go Go.RowKit
set_option linter.unusedVariables false
set_option maxRecDepth 20000
theorem boxT_facts {w : World} {r : Nat} {v0 v1 v2 v3 v4 : Value} (h : w.heap[r]? = some (.cells #[v0, v1, v2, v3, v4] 51 (0, 0))) :
    w.cell? ⟨r, 0, none⟩ = some v0 ∧ w.cell? ⟨r, 1, none⟩ = some v1 ∧ w.cell? ⟨r, 2, none⟩ = some v2 ∧ w.cell? ⟨r, 3, none⟩ = some v3 ∧ w.cell? ⟨r, 4, none⟩ = some v4 ∧ ∀ j, w.frozen? ⟨r, j, none⟩ = false :=
  ⟨cell_of_row w r 0 _ _ (0, 0) h, cell_of_row w r 1 _ _ (0, 0) h, cell_of_row w r 2 _ _ (0, 0) h, cell_of_row w r 3 _ _ (0, 0) h, cell_of_row w r 4 _ _ (0, 0) h, fun j => by simp [World.frozen?, h]⟩
theorem put5T_heap {w : World} {r : Nat} {v0 v1 v2 v3 v4 : Value} (h : w.heap[r]? = some (.cells #[v0, v1, v2, v3, v4] 51 (0, 0))) (a b c d e : Value) : (put5 w r a b c d e).heap[r]? = some (.cells #[a, b, c, d, e] 51 (0, 0)) :=
  heap_setCell_same _ r 4 _ _ _ (heap_setCell_same _ r 3 _ _ _ (heap_setCell_same _ r 2 _ _ _ (heap_setCell_same _ r 1 _ _ _ (heap_setCell_same _ r 0 _ _ _ h))))
def RoomT (w a : World) : Prop := Below w.heap.size w a ∧ w.heap.size < a.heap.size ∧ a.heap[w.heap.size]? = some (.cells #[.int .i64 0, .int .i64 0, .slice none 0 0, .int .i64 0, .int .i64 0] 51 (0, 0))
section
variable {w a b : World}
theorem RoomT.start (w : World) : RoomT w (w.alloc (.cells #[.int .i64 0, .int .i64 0, .slice none 0 0, .int .i64 0, .int .i64 0] 51)) :=
  ⟨(Below.refl _ _).alloc (Nat.le_refl _) _, by simp, heap_alloc_new w _⟩
theorem RoomT.below (h : RoomT w a) (hb : Below a.heap.size a b) : RoomT w b :=
  ⟨h.1.trans (hb.mono (Nat.le_of_lt h.2.1)), Nat.lt_of_lt_of_le h.2.1 hb.size, (hb.block _ h.2.1).trans h.2.2⟩
theorem RoomT.base (h : RoomT w a) : Below w.heap.size w a := h.1
theorem RoomT.lt (h : RoomT w a) : w.heap.size < a.heap.size := h.2.1
theorem RoomT.alloc (h : RoomT w a) (o : Obj) : RoomT w (a.alloc o) := h.below ((Below.refl _ _).alloc (Nat.le_refl _) o)
theorem RoomT.facts (h : RoomT w a) : a.cell? ⟨w.heap.size, 0, none⟩ = some (.int .i64 0) ∧ a.cell? ⟨w.heap.size, 1, none⟩ = some (.int .i64 0) ∧ a.cell? ⟨w.heap.size, 2, none⟩ = some (.slice none 0 0) ∧ a.cell? ⟨w.heap.size, 3, none⟩ = some (.int .i64 0) ∧ a.cell? ⟨w.heap.size, 4, none⟩ = some (.int .i64 0) ∧ ∀ j, a.frozen? ⟨w.heap.size, j, none⟩ = false := boxT_facts h.2.2
theorem RoomT.cells (h : RoomT w a) (v0 v1 v2 v3 v4 : Value) : (put5 a w.heap.size v0 v1 v2 v3 v4).cell? ⟨w.heap.size, 0, none⟩ = some v0 ∧ (put5 a w.heap.size v0 v1 v2 v3 v4).cell? ⟨w.heap.size, 1, none⟩ = some v1 ∧ (put5 a w.heap.size v0 v1 v2 v3 v4).cell? ⟨w.heap.size, 2, none⟩ = some v2 ∧ (put5 a w.heap.size v0 v1 v2 v3 v4).cell? ⟨w.heap.size, 3, none⟩ = some v3 ∧ (put5 a w.heap.size v0 v1 v2 v3 v4).cell? ⟨w.heap.size, 4, none⟩ = some v4 ∧ ∀ j, (put5 a w.heap.size v0 v1 v2 v3 v4).frozen? ⟨w.heap.size, j, none⟩ = false := boxT_facts (put5T_heap h.2.2 _ _ _ _ _)
theorem RoomT.put (h : RoomT w a) (v0 v1 v2 v3 v4 : Value) : Below w.heap.size w (put5 a w.heap.size v0 v1 v2 v3 v4) := h.1.trans (put5_below a (Nat.le_refl _) _ _ _ _ _)
theorem RoomT.own (h : RoomT w a) {P : Option Addr} {q pc B : Nat} {s : List (Int × Int)} (hB : w.heap.size < B) (ho : a.ownsRow B 74 2 (.slice P q pc) q (cellsG s)) (v0 v1 v2 v3 v4 : Value) : (put5 a w.heap.size v0 v1 v2 v3 v4).ownsRow w.heap.size 74 2 (.slice P q pc) q (cellsG s) := by
  have h1 : (put5 a w.heap.size v0 v1 v2 v3 v4).ownsRow B 74 2 (.slice P q pc) q (cellsG s) := row_keep ho fun k hk hv => put5_other a (r := w.heap.size) (by have := (row_lt ho hv).1; omega) _ _ _ _ _
  exact row_base h1 fun j hj => by have := (row_lt h1 hj).1; omega
end
theorem braceL_drop {l rest : List Int} {t : TokL} (h : braceL l = some (t, rest)) : rest = l.drop (l.length - rest.length) := by
  have key : ∀ (k : Nat) (q l : List Int), q = l.drop k → k + q.length = l.length → q = l.drop (l.length - q.length) := fun k q l h1 h2 => by
    rw [show l.length - q.length = k by omega]; exact h1
  have cons : ∀ (x : Int) (q l : List Int) (k : Nat), x :: q = l.drop k → k + (x :: q).length = l.length → q = l.drop (k + 1) ∧ k + 1 + q.length = l.length := fun x q l k h1 h2 => by
    refine ⟨?_, by rw [List.length_cons] at h2; omega⟩
    rw [show l.drop (k + 1) = (l.drop k).drop 1 by rw [List.drop_drop], ← h1]; rfl
  unfold braceL at h
  split at h
  · rename_i a l' h1
    injection h with h; injection h with _ h; subst h
    obtain ⟨k, _, _, e1, e2, _⟩ := numL_rest h1
    obtain ⟨f1, f2⟩ := cons _ _ _ _ e1 e2
    exact key _ _ _ f1 f2
  · rename_i a l' h1
    injection h with h; injection h with _ h; subst h
    obtain ⟨k, _, _, e1, e2, _⟩ := numL_rest h1
    obtain ⟨f1, f2⟩ := cons _ _ _ _ e1 e2
    obtain ⟨f1, f2⟩ := cons _ _ _ _ f1 f2
    exact key _ _ _ f1 f2
  · rename_i a l' _ h1
    split at h
    · rename_i b l'' h2
      split at h
      · cases h
      · injection h with h; injection h with _ h; subst h
        obtain ⟨k, _, _, e1, e2, _⟩ := numL_rest h1
        obtain ⟨f1, f2⟩ := cons _ _ _ _ e1 e2
        obtain ⟨m, _, _, g1, g2, _⟩ := numL_rest h2
        have g1' : 125 :: l'' = l.drop (k + 1 + m) := by rw [g1, f1, List.drop_drop]
        obtain ⟨f1, f2⟩ := cons _ _ _ _ g1' (by omega)
        exact key _ _ _ f1 f2
    · cases h
  · cases h
theorem braceL_set {l rest : List Int} {t : TokL} (h : braceL l = some (t, rest)) : t.set = [] := by
  unfold braceL at h
  split at h
  · injection h with h; injection h with h _; subst h; rfl
  · injection h with h; injection h with h _; subst h; rfl
  · split at h
    · split at h
      · cases h
      · injection h with h; injection h with h _; subst h; rfl
    · cases h
  · cases h
theorem tail_row {W : World} {b o n c : Nat} {r : Int} {l : List Int} (hr : RowI .i64 W (some ⟨b, o, none⟩) n (r :: l)) : RowI .i64 W (some ⟨b, o + 1, none⟩) (n - 1) l ∧ (n = 1 → RowI .i64 W (some ⟨b, o, none⟩) 0 l) := by
  have hl := hr.1
  rw [List.length_cons] at hl
  refine ⟨by simpa [Addr.add] using rowI_from hr (m := 1) (by omega), fun h => ?_⟩
  have : l = [] := List.eq_nil_of_length_eq_zero (by omega)
  subst this
  exact ⟨rfl, fun h => absurd h (by omega)⟩
set_option maxHeartbeats 2000000 in
theorem rtok_brace (l : List Int) (A : Option Addr) (n c : Nat) (W : World) (hr : RowI .i64 W A n (123 :: l)) (hn : n ≤ 1000) (hnc : n ≤ c) :
    Calls Tryz.prog 17 #[.slice A n c] W fun e w' => tokR W w' e (123 :: l) ∧ Below W.heap.size W w' := by
  have hlen := hr.1
  rw [List.length_cons] at hlen
  have hn0 : 0 < n := by omega
  obtain ⟨b, o, rfl, hb, hc⟩ := hr.2 hn0
  have c0 : W.cell? ⟨b, o, none⟩ = some (.int .i64 123) := hc 0 hn0
  have HS := Lib.hid (RoomT.start W)
  have HP : Hid (∀ A' n' c' w, Below W.heap.size W w → RowI .i64 W A' n' l → n' ≤ 1000 → n' ≤ c' → Calls Tryz.prog 32 #[.slice A' n' c'] w fun e w' => braceR l e ∧ Below w.heap.size w w') := Lib.hid fun A' n' c' w h h' h1 h2 => rbrace_any l A' n' c' w (h'.below h (Nat.le_refl _)) h1 h2
  have HR := Lib.hid (tail_row (c := c) hr)
  have HL := Lib.hid hlen
  clear hr hc hlen
  rcases hbr : braceL l with _ | ⟨t, rest⟩
  · have HB := Lib.hid hbr
    clear hbr
    by_cases hc1 : 1 < c
    · go_enter Tryz.func17, Tryz.ntmps17
      go_wp2_with (go_at_call 32; (with_reducible refine (HP.out _ _ _ _ HS.out.base HR.out.1 (by omega) (by omega)).mono ?_); rintro e w1 ⟨hv, hb1⟩; unfold braceR at hv; rw [HB.out] at hv; dsimp only at hv; subst hv; have HS1 := Lib.hid (HS.out.below hb1); have HS2 := Lib.hid (HS1.out.alloc (.cells #[.int .i64 0, .int .i64 0, .slice none 0 0, .int .i64 0, .int .i64 0] 51)); obtain ⟨q0, q1, q2, q3, q4, qf⟩ := HS2.out.facts; clear hb1)
      obtain ⟨z0, z1, z2, z3, z4, _⟩ := HS2.out.cells (.int .i64 0) (.int .i64 0) (.slice none 0 0) (.int .i64 0) (.int .i64 0)
      simp only [put5] at z0 z1 z2 z3 z4
      (try simp only [Exit.inBlock, Exit.then])
      refine bodyPost_ret (v := .tuple #[.agg #[.int .i64 0, .int .i64 0, .slice none 0 0, .int .i64 0, .int .i64 0], .int .i64 0]) ?_ rfl ⟨tokR_none (by rw [tok_brace]; exact HB.out), HS2.out.put _ _ _ _ _⟩
      rw [results_cell_tmp rfl]; go_simp
    · obtain rfl : n = 1 := by omega
      obtain rfl : c = 1 := by omega
      go_enter Tryz.func17, Tryz.ntmps17
      go_wp2_with (go_at_call 32; (with_reducible refine (HP.out _ _ _ _ HS.out.base (HR.out.2 rfl) (by omega) (by omega)).mono ?_); rintro e w1 ⟨hv, hb1⟩; unfold braceR at hv; rw [HB.out] at hv; dsimp only at hv; subst hv; have HS1 := Lib.hid (HS.out.below hb1); have HS2 := Lib.hid (HS1.out.alloc (.cells #[.int .i64 0, .int .i64 0, .slice none 0 0, .int .i64 0, .int .i64 0] 51)); obtain ⟨q0, q1, q2, q3, q4, qf⟩ := HS2.out.facts; clear hb1)
      obtain ⟨z0, z1, z2, z3, z4, _⟩ := HS2.out.cells (.int .i64 0) (.int .i64 0) (.slice none 0 0) (.int .i64 0) (.int .i64 0)
      simp only [put5] at z0 z1 z2 z3 z4
      (try simp only [Exit.inBlock, Exit.then])
      refine bodyPost_ret (v := .tuple #[.agg #[.int .i64 0, .int .i64 0, .slice none 0 0, .int .i64 0, .int .i64 0], .int .i64 0]) ?_ rfl ⟨tokR_none (by rw [tok_brace]; exact HB.out), HS2.out.put _ _ _ _ _⟩
      rw [results_cell_tmp rfl]; go_simp
  · have HB := Lib.hid hbr
    have HD := Lib.hid (braceL_drop hbr)
    have HK : Hid (∀ (w : World) (B : Nat), w.ownsRow B 74 2 (.slice none 0 0) 0 (cellsG t.set)) := Lib.hid fun w B => by rw [braceL_set hbr]; exact nilG _ _
    have hl0 : 0 < l.length := by
      have := braceL_lt hbr
      omega
    have hc1 : 1 < c := by have := HL.out; omega
    have hn1 : 1 < n := by have := HL.out; omega
    clear hbr
    go_enter Tryz.func17, Tryz.ntmps17
    go_wp2_with (go_at_call 32; (with_reducible refine (HP.out _ _ _ _ HS.out.base HR.out.1 (by omega) (by omega)).mono ?_); rintro e w1 ⟨hv, hb1⟩; unfold braceR at hv; rw [HB.out] at hv; dsimp only at hv; obtain ⟨j, hj1, hj2, rfl⟩ := hv; unfold tokV; have HJ := Lib.hid (And.intro hj1 hj2); have j0 : ¬ (j : Int) = 0 := (by omega); have j1 : ((j : Int) == 0) = false := (by simpa using j0); have jw : IntKind.i64.wrap ((j : Int) + 1) = (j : Int) + 1 := (by rw [IntKind.wrap_i64]; have := HL.out; omega); clear hj1 hj2; have HS1 := Lib.hid (HS.out.below hb1); have HS2 := Lib.hid (HS1.out.alloc (.cells #[.int .i64 t.kind, .int .i64 t.r, .slice none 0 0, .int .i64 t.mn, .int .i64 t.mx] 51)); obtain ⟨q0, q1, q2, q3, q4, qf⟩ := HS2.out.facts; clear hb1)
    obtain ⟨z0, z1, z2, z3, z4, _⟩ := HS2.out.cells (.int .i64 t.kind) (.int .i64 t.r) (.slice none 0 0) (.int .i64 t.mn) (.int .i64 t.mx)
    simp only [put5] at z0 z1 z2 z3 z4
    (try simp only [Exit.inBlock, Exit.then])
    refine bodyPost_ret (v := .tuple #[.agg #[.int .i64 t.kind, .int .i64 t.r, .slice none 0 0, .int .i64 t.mn, .int .i64 t.mx], .int .i64 ((j : Int) + 1)]) ?_ rfl ⟨?_, HS2.out.put _ _ _ _ _⟩
    · rw [results_cell_tmp rfl]; go_simp
    · rw [show (j : Int) + 1 = ((j + 1 : Nat) : Int) by omega]
      refine tokR_some (by rw [tok_brace]; exact HB.out) (by omega) (by rw [List.length_cons]; have := HJ.out.1; omega) (HD.out.trans ?_) ?_
      · rw [List.drop_succ_cons, show l.length - rest.length = j by have := HJ.out.1; omega]
      · exact HK.out _ _
end Go.Proofs.YtaapbmdojkjphaaGreat
namespace Go.Proofs.YtaapbmdojkjphaaGreat
open Go Go.RowKit
set_option linter.unusedVariables false
set_option maxRecDepth 20000
theorem ownG_two (W : World) (X : Obj) (s : List (Int × Int)) (hl : s.length ≤ 1000000) (k : Nat) (hk : k = s.length) : ((W.alloc X).alloc (.cells (cellsG s).toArray 74)).ownsRow W.heap.size 74 2 (.slice (some ⟨W.heap.size + 1, 0, none⟩) k k) k (cellsG s) := by
  subst hk
  have h := ownG_made (W.alloc X) s hl
  have e : (W.alloc X).heap.size = W.heap.size + 1 := by simp
  rw [e] at h
  exact row_base h fun j hj => by have := (row_lt h hj).1; omega
set_option maxHeartbeats 2000000 in
theorem rtok_dot (l : List Int) (A : Option Addr) (n c : Nat) (W : World) (hr : RowI .i64 W A n (46 :: l)) :
    Calls Tryz.prog 17 #[.slice A n c] W fun e w' => tokR W w' e (46 :: l) ∧ Below W.heap.size W w' := by
  have hn : 0 < n := by have := hr.1; rw [List.length_cons] at this; omega
  obtain ⟨b, o, rfl, hb, hc⟩ := hr.2 hn
  have c0 : W.cell? ⟨b, o, none⟩ = some (.int .i64 46) := hc 0 hn
  clear hc hr
  go_enter Tryz.func17, Tryz.ntmps17
  go_wp2
  refine bodyPost_ret (v := .tuple #[.agg #[.int .i64 0, .int .i64 0, .slice (some ⟨W.heap.size + 1, 0, none⟩) 2 2, .int .i64 0, .int .i64 0], .int .i64 1]) ?_ rfl ⟨tokR_some (l := 46 :: l) (t := tokC [(0, 9), (11, 1114111)]) (k := 1) rfl (by omega) (by rw [List.length_cons]; omega) rfl ?_, ?_⟩
  · rw [results_cell_tmp rfl]; go_simp
  · exact ownG_two W _ [(0, 9), (11, 1114111)] (by simp) _ rfl
  · exact ((Below.refl _ _).alloc (Nat.le_refl _) _).alloc (by simp) _
set_option maxHeartbeats 2000000 in
theorem rtok_other (r : Int) (l : List Int) (h : ¬ (r = 124 ∨ r = 40 ∨ r = 41 ∨ r = 94 ∨ r = 36 ∨ r = 42 ∨ r = 43 ∨ r = 63 ∨ r = 123 ∨ r = 46 ∨ r = 91 ∨ r = 92 ∨ r = 93 ∨ r = 125)) (A : Option Addr) (n c : Nat) (W : World) (hr : RowI .i64 W A n (r :: l)) :
    Calls Tryz.prog 17 #[.slice A n c] W fun e w' => tokR W w' e (r :: l) ∧ Below W.heap.size W w' := by
  have hn : 0 < n := by have := hr.1; rw [List.length_cons] at this; omega
  obtain ⟨b, o, rfl, hb, hc⟩ := hr.2 hn
  have c0 : W.cell? ⟨b, o, none⟩ = some (.int .i64 r) := hc 0 hn
  have HT := Lib.hid (show tokL (r :: l) = some (tokC [(r, r)], l) from tok_plain l (by unfold signB; rw [decide_eq_false_iff_not]; simp only [List.mem_cons, List.not_mem_nil, or_false]; omega))
  obtain ⟨e1, e2, e3, e4, e5, e6, e7⟩ : (r == 124) = false ∧ (r == 40) = false ∧ (r == 41) = false ∧ (r == 94) = false ∧ (r == 36) = false ∧ (r == 42) = false ∧ (r == 43) = false := by simp; omega
  obtain ⟨f1, f2, f3, f4, f5, f6, f7⟩ : (r == 63) = false ∧ (r == 123) = false ∧ (r == 46) = false ∧ (r == 91) = false ∧ (r == 92) = false ∧ (r == 93) = false ∧ (r == 125) = false := by simp; omega
  clear hc hr h
  go_enter Tryz.func17, Tryz.ntmps17
  go_wp2
  go_region
  go_wp2
  refine bodyPost_ret (v := .tuple #[.agg #[.int .i64 0, .int .i64 0, .slice (some ⟨W.heap.size + 1, 0, none⟩) 1 1, .int .i64 0, .int .i64 0], .int .i64 1]) ?_ rfl ⟨tokR_some (l := r :: l) (t := tokC [(r, r)]) (k := 1) HT.out (by omega) (by rw [List.length_cons]; omega) rfl ?_, ?_⟩
  · rw [results_cell_tmp rfl]; go_simp
  · exact ownG_kept (ownG_two W _ [(r, r)] (by simp) _ rfl) ((Below.refl _ _).drew)
  · exact (((Below.refl _ _).alloc (Nat.le_refl _) _).alloc (by simp) _).drew
set_option maxHeartbeats 4000000 in
theorem rtok_class (l : List Int) (A : Option Addr) (n c : Nat) (W : World) (hr : RowI .i64 W A n (91 :: l)) (hn : n ≤ 200) (hnc : n ≤ c) (hw : ∀ x ∈ l, 0 ≤ x ∧ x ≤ 1114111) :
    Calls Tryz.prog 17 #[.slice A n c] W fun e w' => tokR W w' e (91 :: l) ∧ Below W.heap.size W w' := by
  have hlen := hr.1
  rw [List.length_cons] at hlen
  have hn0 : 0 < n := by omega
  obtain ⟨b, o, rfl, hb, hc⟩ := hr.2 hn0
  have c0 : W.cell? ⟨b, o, none⟩ = some (.int .i64 91) := hc 0 hn0
  have HS := Lib.hid (RoomT.start W)
  have HP : Hid (∀ A' n' c' w, Below W.heap.size W w → RowI .i64 W A' n' l → n' ≤ 200 → n' ≤ c' → Calls Tryz.prog 33 #[.slice A' n' c'] w fun e w' => clsV w w' e (classL l) l ∧ Below w.heap.size w w') := Lib.hid fun A' n' c' w h h' h1 h2 => rclass_any l A' n' c' w (h'.below h (Nat.le_refl _)) h1 h2 hw
  have HR := Lib.hid (tail_row (c := c) hr)
  have HL := Lib.hid hlen
  clear hr hc hlen hw
  rcases hbr : classL l with _ | ⟨s, rest⟩
  · have HB := Lib.hid hbr
    clear hbr
    by_cases hc1 : 1 < c
    · go_enter Tryz.func17, Tryz.ntmps17
      go_wp2_with (go_at_call 33; (with_reducible refine (HP.out _ _ _ _ HS.out.base HR.out.1 (by omega) (by omega)).mono ?_); rintro e w1 ⟨hv, hb1⟩; unfold clsV at hv; rw [HB.out] at hv; dsimp only at hv; subst hv; have HS1 := Lib.hid (HS.out.below hb1); obtain ⟨q0, q1, q2, q3, q4, qf⟩ := HS1.out.facts; clear hb1)
      obtain ⟨z0, z1, z2, z3, z4, _⟩ := HS1.out.cells (.int .i64 0) (.int .i64 0) (.slice none 0 0) (.int .i64 0) (.int .i64 0)
      simp only [put5] at z0 z1 z2 z3 z4
      (try simp only [Exit.inBlock, Exit.then])
      refine bodyPost_ret (v := .tuple #[.agg #[.int .i64 0, .int .i64 0, .slice none 0 0, .int .i64 0, .int .i64 0], .int .i64 0]) ?_ rfl ⟨?_, HS1.out.put _ _ _ _ _⟩
      · rw [results_cell_tmp rfl]; go_simp
      · exact tokR_none (by rw [tok_class, HB.out]; rfl)
    · obtain rfl : n = 1 := by omega
      obtain rfl : c = 1 := by omega
      go_enter Tryz.func17, Tryz.ntmps17
      go_wp2_with (go_at_call 33; (with_reducible refine (HP.out _ _ _ _ HS.out.base (HR.out.2 rfl) (by omega) (by omega)).mono ?_); rintro e w1 ⟨hv, hb1⟩; unfold clsV at hv; rw [HB.out] at hv; dsimp only at hv; subst hv; have HS1 := Lib.hid (HS.out.below hb1); obtain ⟨q0, q1, q2, q3, q4, qf⟩ := HS1.out.facts; clear hb1)
      obtain ⟨z0, z1, z2, z3, z4, _⟩ := HS1.out.cells (.int .i64 0) (.int .i64 0) (.slice none 0 0) (.int .i64 0) (.int .i64 0)
      simp only [put5] at z0 z1 z2 z3 z4
      (try simp only [Exit.inBlock, Exit.then])
      refine bodyPost_ret (v := .tuple #[.agg #[.int .i64 0, .int .i64 0, .slice none 0 0, .int .i64 0, .int .i64 0], .int .i64 0]) ?_ rfl ⟨?_, HS1.out.put _ _ _ _ _⟩
      · rw [results_cell_tmp rfl]; go_simp
      · exact tokR_none (by rw [tok_class, HB.out]; rfl)
  · have HB := Lib.hid hbr
    have hl0 : 0 < l.length := by
      have := classL_lt hbr
      omega
    have hc1 : 1 < c := by have := HL.out; omega
    have hn1 : 1 < n := by have := HL.out; omega
    clear hbr
    go_enter Tryz.func17, Tryz.ntmps17
    go_wp2_with (go_at_call 33; (with_reducible refine (HP.out _ _ _ _ HS.out.base HR.out.1 (by omega) (by omega)).mono ?_); rintro e w1 ⟨hv, hb1⟩; unfold clsV at hv; rw [HB.out] at hv; dsimp only at hv; obtain ⟨P, q, pc, k, rfl, hk1, hk2, hk3, ho⟩ := hv; have HJ := Lib.hid (And.intro hk1 (And.intro hk2 (And.intro hk3 ho))); have j0 : ¬ (k : Int) = 0 := (by omega); have j1 : ((k : Int) == 0) = false := (by simpa using j0); have jw : IntKind.i64.wrap ((k : Int) + 1) = (k : Int) + 1 := (by rw [IntKind.wrap_i64]; have := HL.out; omega); clear hk1 hk2 hk3 ho; have ho := (show Hid (w1.ownsRow (W.heap.size + 1) 74 2 (.slice P q pc) q (cellsG s)) from Lib.hid (by have h := HJ.out.2.2.2; rwa [show (W.alloc (.cells #[.int .i64 0, .int .i64 0, .slice none 0 0, .int .i64 0, .int .i64 0] 51)).heap.size = W.heap.size + 1 by simp] at h)); have HS1 := Lib.hid (HS.out.below hb1); obtain ⟨q0, q1, q2, q3, q4, qf⟩ := HS1.out.facts; clear hb1)
    obtain ⟨z0, z1, z2, z3, z4, _⟩ := HS1.out.cells (.int .i64 0) (.int .i64 0) (.slice P q pc) (.int .i64 0) (.int .i64 0)
    simp only [put5] at z0 z1 z2 z3 z4
    (try simp only [Exit.inBlock, Exit.then])
    refine bodyPost_ret (v := .tuple #[.agg #[.int .i64 0, .int .i64 0, .slice P q pc, .int .i64 0, .int .i64 0], .int .i64 ((k : Int) + 1)]) ?_ rfl ⟨?_, HS1.out.put _ _ _ _ _⟩
    · rw [results_cell_tmp rfl]; go_simp
    · rw [show (k : Int) + 1 = ((k + 1 : Nat) : Int) by omega]
      exact tokR_some (t := tokC s) (by rw [tok_class, HB.out]; rfl) (by omega) (by rw [List.length_cons]; have := HJ.out.2.1; omega) (by rw [List.drop_succ_cons]; exact HJ.out.2.2.1) (HS1.out.own (Nat.lt_succ_self _) ho.out _ _ _ _ _)
set_option maxHeartbeats 4000000 in
theorem rtok_back (l : List Int) (A : Option Addr) (n c : Nat) (W : World) (hr : RowI .i64 W A n (92 :: l)) :
    Calls Tryz.prog 17 #[.slice A n c] W fun e w' => tokR W w' e (92 :: l) ∧ Below W.heap.size W w' := by
  have hlen := hr.1
  rw [List.length_cons] at hlen
  have hn0 : 0 < n := by omega
  obtain ⟨b, o, rfl, hb, hc⟩ := hr.2 hn0
  have c0 : W.cell? ⟨b, o, none⟩ = some (.int .i64 92) := hc 0 hn0
  have HS := Lib.hid (RoomT.start W)
  rcases l with _ | ⟨x, l⟩
  · obtain rfl : n = 1 := by simpa using hlen.symm
    clear hr hc hlen
    go_enter Tryz.func17, Tryz.ntmps17
    go_wp2
    refine bodyPost_ret (v := .tuple #[.agg #[.int .i64 0, .int .i64 0, .slice none 0 0, .int .i64 0, .int .i64 0], .int .i64 0]) ?_ rfl ⟨tokR_none rfl, HS.out.base⟩
    rw [results_cell_tmp rfl]; go_simp
  · rw [List.length_cons] at hlen
    have c1 : W.cell? ⟨b, o + 1, none⟩ = some (.int .i64 x) := hc 1 (by omega)
    have n2 : ¬ (n : Int) < 2 := by omega
    have n3 : 1 < n := by omega
    have HE := Lib.hid fun w => resc_any x w
    clear hr hc hlen
    rcases he : escL x with _ | ⟨s, is⟩
    · have HX := Lib.hid he
      clear he
      go_enter Tryz.func17, Tryz.ntmps17
      go_wp2_with (go_at_call 34; (with_reducible refine (HE.out _).mono ?_); rintro e w1 ⟨hv, hb1⟩; unfold escV at hv; rw [HX.out] at hv; dsimp only at hv; subst hv; have HS1 := Lib.hid (HS.out.below hb1); obtain ⟨q0, q1, q2, q3, q4, qf⟩ := HS1.out.facts; clear hb1)
      obtain ⟨z0, z1, z2, z3, z4, _⟩ := HS1.out.cells (.int .i64 0) (.int .i64 0) (.slice none 0 0) (.int .i64 0) (.int .i64 0)
      simp only [put5] at z0 z1 z2 z3 z4
      (try simp only [Exit.inBlock, Exit.then])
      refine bodyPost_ret (v := .tuple #[.agg #[.int .i64 0, .int .i64 0, .slice none 0 0, .int .i64 0, .int .i64 0], .int .i64 0]) ?_ rfl ⟨?_, HS1.out.put _ _ _ _ _⟩
      · rw [results_cell_tmp rfl]; go_simp
      · exact tokR_none (by rw [tok_back, HX.out]; rfl)
    · have HX := Lib.hid he
      clear he
      go_enter Tryz.func17, Tryz.ntmps17
      go_wp2_with (go_at_call 34; (with_reducible refine (HE.out _).mono ?_); rintro e w1 ⟨hv, hb1⟩; unfold escV at hv; rw [HX.out] at hv; dsimp only at hv; obtain ⟨P, q, pc, rfl, ho⟩ := hv; have HO := (show Hid (w1.ownsRow (W.heap.size + 1) 74 2 (.slice P q pc) q (cellsG s)) from Lib.hid (by rwa [show (W.alloc (.cells #[.int .i64 0, .int .i64 0, .slice none 0 0, .int .i64 0, .int .i64 0] 51)).heap.size = W.heap.size + 1 by simp] at ho)); clear ho; have HS1 := Lib.hid (HS.out.below hb1); obtain ⟨q0, q1, q2, q3, q4, qf⟩ := HS1.out.facts; clear hb1)
      obtain ⟨z0, z1, z2, z3, z4, _⟩ := HS1.out.cells (.int .i64 0) (.int .i64 0) (.slice P q pc) (.int .i64 0) (.int .i64 0)
      simp only [put5] at z0 z1 z2 z3 z4
      (try simp only [Exit.inBlock, Exit.then])
      refine bodyPost_ret (v := .tuple #[.agg #[.int .i64 0, .int .i64 0, .slice P q pc, .int .i64 0, .int .i64 0], .int .i64 2]) ?_ rfl ⟨?_, HS1.out.put _ _ _ _ _⟩
      · rw [results_cell_tmp rfl]; go_simp
      · exact tokR_some (t := tokC s) (k := 2) (by rw [tok_back, HX.out]; rfl) (by omega) (by simp) rfl (HS1.out.own (Nat.lt_succ_self _) HO.out _ _ _ _ _)
theorem rtok_any (l : List Int) (h0 : l ≠ []) (A : Option Addr) (n c : Nat) (W : World) (hr : RowI .i64 W A n l) (hn : n ≤ 200) (hnc : n ≤ c) (hw : ∀ x ∈ l, 0 ≤ x ∧ x ≤ 1114111) :
    Calls Tryz.prog 17 #[.slice A n c] W fun e w' => tokR W w' e l ∧ Below W.heap.size W w' := by
  rcases l with _ | ⟨r, l⟩
  · exact absurd rfl h0
  by_cases h1 : r = 124 ∨ r = 40 ∨ r = 41 ∨ r = 94 ∨ r = 36
  · exact rtok_sign r l h1 A n c W hr
  by_cases h2 : r = 42 ∨ r = 43 ∨ r = 63
  · exact rtok_count r l h2 A n c W hr
  by_cases h3 : r = 93 ∨ r = 125
  · exact rtok_no r l h3 A n c W hr
  by_cases h4 : r = 123
  · subst h4; exact rtok_brace l A n c W hr (by omega) hnc
  by_cases h5 : r = 46
  · subst h5; exact rtok_dot l A n c W hr
  by_cases h6 : r = 91
  · subst h6; exact rtok_class l A n c W hr hn hnc fun x hx => hw x (List.mem_cons_of_mem _ hx)
  by_cases h7 : r = 92
  · subst h7; exact rtok_back l A n c W hr
  exact rtok_other r l (by omega) A n c W hr
end Go.Proofs.YtaapbmdojkjphaaGreat
