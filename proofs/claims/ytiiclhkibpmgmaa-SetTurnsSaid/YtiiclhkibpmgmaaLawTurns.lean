/- SetTurns: what isn't in a set, what is in one of two, and what is in both: out of what set's calls are to answer. -/
import Derived.Test.YtiiclhkibpmgmaaAwake8
import Derived.Test.YtiiclhkibpmgmaaCanonX
import Derived.Test.YtiiclhkibpmgmaaRngI
namespace Go.Proofs.Ytiiclhkibpmgmaa
open Go Go.RowKit
set_option linter.unusedVariables false

set_option maxHeartbeats 4000000 in
set_option maxRecDepth 10000 in
theorem setTurns_any (F : Faces) (A0 A1 : Option Addr) (n0 n1 c0 c1 : Nat) (s t : List (Int × Int)) (r : Int) (w : World) (hs : InG w A0 n0 c0 s) (ht : InG w A1 n1 c1 t) :
    Calls Try.prog 4 #[.slice A0 n0 c0, .slice A1 n1 c1, .int .i64 r] w fun e w' => e = .returned (.bool true) ∧ Below w.heap.size w w' := by
  rcases Nat.lt_or_ge 12 n0 with h0 | h0
  · have d0 : 12 < n0 := h0
    go_enter Try.func4, Try.ntmps4
    go_wp2_with (go_at_call 8; refine (awake_any F _).mono ?_; rintro e w1 ⟨rfl, hb⟩; have HB : Hid (Below w.heap.size w w1) := Lib.hid (by first | exact hb | exact then_ HB.out hb); clear hb)
    go_ret
    exact ⟨rfl, HB.out⟩
  · rcases Nat.lt_or_ge 12 n1 with h1 | h1
    · have d0 : ¬ 12 < n0 := by omega
      have d1 : 12 < n1 := h1
      go_enter Try.func4, Try.ntmps4
      go_wp2_with (go_at_call 8; refine (awake_any F _).mono ?_; rintro e w1 ⟨rfl, hb⟩; have HB : Hid (Below w.heap.size w w1) := Lib.hid (by first | exact hb | exact then_ HB.out hb); clear hb)
      go_ret
      exact ⟨rfl, HB.out⟩
    · have d0 : ¬ 12 < n0 := by omega
      have d1 : ¬ 12 < n1 := by omega
      have hn0 : n0 ≤ 1000000 := by omega
      have hn1 : n1 ≤ 1000000 := by omega
      go_enter Try.func4, Try.ntmps4
      go_wp2_with (first
        | (go_at_call 8; refine (awake_any F _).mono ?_; rintro e w1 ⟨rfl, hb1⟩; have is1 := hs.below hb1; have it1 := ht.below hb1)
        | (go_at_call 16; (with_reducible refine (F.no w1 _ _ _ _ is1 hn0).mono ?_); rintro e w2 ⟨V, ln, rfl, ho, cn, hm⟩; obtain ⟨An, pn, rfl, i2, bn⟩ := canon_out ho cn; have hb2 := ho.2; have HMn := Lib.hid hm; clear ho hm)
        | (go_at_call 17; (with_reducible refine (F.or w2 _ _ _ _ _ _ _ _ (is1.below hb2) (it1.below hb2) (Nat.le_trans h0 (by decide)) (Nat.le_trans h1 (by decide))).mono ?_); rintro e w3 ⟨V, lo, rfl, ho, co, hm⟩; obtain ⟨Ao, po, rfl, i3, bo⟩ := canon_out ho co; have hb3 := ho.2; have HMo := Lib.hid hm; clear ho hm)
        | (go_at_call 18; (with_reducible refine (F.and w3 _ _ _ _ _ _ _ _ ((is1.below hb2).below hb3) ((it1.below hb2).below hb3) (Nat.le_trans h0 (by decide)) (Nat.le_trans h1 (by decide))).mono ?_); rintro e w4 ⟨V, la, rfl, ho, ca, hm⟩; obtain ⟨Aa, pa, rfl, i4, ba⟩ := canon_out ho ca; have hb4 := ho.2; have HMa := Lib.hid hm; have hr1 := rright_any ln An ln.length pn w4 ((i2.below hb3).below hb4).row (Nat.le_trans bn (by decide)); rw [(canonB_all ln).2 cn] at hr1; have HR1 := Lib.hid hr1; clear ho hm hr1)
        | (go_at_call 10; (with_reducible refine HR1.out.mono ?_); rintro e w5 ⟨rfl, hq⟩; have hb5 : Below w4.heap.size w4 w5 := (by obtain ⟨q, rfl⟩ := hq; exact below_drewN (Below.refl _ _) q); clear hq; have hr2 := rright_any lo Ao lo.length po w5 ((i3.below hb4).below hb5).row (Nat.le_trans bo (by decide)); rw [(canonB_all lo).2 co] at hr2; have HR2 := Lib.hid hr2; clear hr2)
        | (go_at_call 10; (with_reducible refine HR2.out.mono ?_); rintro e w6 ⟨rfl, hq⟩; have hb6 : Below w5.heap.size w5 w6 := (by obtain ⟨q, rfl⟩ := hq; exact below_drewN (Below.refl _ _) q); clear hq; have hr3 := rright_any la Aa la.length pa w6 ((i4.below hb5).below hb6).row (Nat.le_trans ba (by decide)); rw [(canonB_all la).2 ca] at hr3; have HR3 := Lib.hid hr3; clear hr3)
        | (go_at_call 10; (with_reducible refine HR3.out.mono ?_); rintro e w7 ⟨rfl, hq⟩; have hb7 : Below w6.heap.size w6 w7 := (by obtain ⟨q, rfl⟩ := hq; exact below_drewN (Below.refl _ _) q); clear hq)
        | (go_at_call 13; (with_reducible refine (rends_any s A0 n0 c0 w7 ((((((is1.below hb2).below hb3).below hb4).below hb5).below hb6).below hb7).row (Nat.le_trans h0 (by decide))).mono ?_); rintro e w8 ⟨P, q1, pc, xs, rfl, ho8, hb8, hq8⟩)
        | (go_at_call 13; (with_reducible refine (rends_any t A1 n1 c1 w8 (((((((it1.below hb2).below hb3).below hb4).below hb5).below hb6).below hb7).below hb8).row (Nat.le_trans h1 (by decide))).mono ?_); rintro e w9 ⟨P2, q2, pc2, ys, rfl, ho9, hb9, hq9⟩; obtain ⟨P3, pc3, w10, happ, ho10, hb10⟩ := rowsI_append (own_kept ho8 hb9) ho9 (by omega) (by omega) (then_ hb8 hb9); obtain ⟨P4, pc4, w11, happ2, ho11, hb11, _⟩ := pushI_at ho10 (by omega) hb10 r; have HA1 := Lib.hid happ; have HA2 := Lib.hid happ2; have HF := Lib.hid (And.intro ho11 hb11); clear happ happ2 ho8 ho9 ho10 ho11 hb8 hb9 hb10 hb11)
        | (at_builtin; refine wpList_append_run rfl (.tmp 50) (.tmp 52) 27 rfl rfl _ _ _ _ rfl rfl HA1.out ?_)
        | (at_builtin; refine wpList_append_run rfl (.tmp 53) (.tmp 55) 27 rfl rfl _ _ _ _ rfl rfl HA2.out ?_))
      have hS := ((((((is1.below hb2).below hb3).below hb4).below hb5).below hb6).below hb7).below HF.out.2
      have hT := ((((((it1.below hb2).below hb3).below hb4).below hb5).below hb6).below hb7).below HF.out.2
      have hN := ((((((i2.below hb3).below hb4).below hb5).below hb6).below hb7)).below HF.out.2
      have hO := (((((i3.below hb4).below hb5).below hb6).below hb7)).below HF.out.2
      have hA := ((((i4.below hb5).below hb6).below hb7)).below HF.out.2
      have hBB := then_ (then_ (then_ (then_ (then_ (then_ (then_ hb1 hb2) hb3) hb4) hb5) hb6) hb7) HF.out.2
      have HBB := Lib.hid hBB
      have HROW := Lib.hid HF.out.1
      obtain ⟨Q, hQ⟩ : ∃ Q, Q = q1 + q2 + 1 := ⟨_, rfl⟩
      rw [← hQ] at HROW ⊢
      have hQ6 : Q ≤ 100000 := by omega
      obtain ⟨W, hW⟩ : ∃ W, W = w11 := ⟨_, rfl⟩
      rw [← hW] at hS hT hN hO hA HBB HROW ⊢
      clear hQ hW HF hBB is1 it1 i2 i3 i4 hb1 hb2 hb3 hb4 hb5 hb6 hb7 HA1 HA2 HR1 HR2 HR3 hq8 hq9
      go_loopw [11] (fun vi wr => ∃ i q : Nat, vi = .int .i64 (i : Int) ∧ i ≤ Q ∧ wr = W.drewN q) (fun vi _ => Q - (intOf vi).toNat)
      case atStart => exact ⟨0, 0, rfl, Nat.zero_le _, rfl⟩
      case round =>
        obtain ⟨i, q, rfl, hiQ, rfl⟩ := hrel
        by_cases hlt : i < Q
        · obtain ⟨g, rfl, hcell⟩ := cellI HROW.out hlt
          generalize (xs ++ ys ++ [r]).getD i 0 = v at hcell
          rcases (show v < 0 ∨ (0 ≤ v ∧ v ≤ 1114111) ∨ 1114111 < v by omega) with hv | ⟨hv0, hv1⟩ | hv
          · have hi : inR v = false := by unfold inR; rw [decide_eq_false (by omega)]
            have ha : hasL s v = false := inR_of hi
            have hb : hasL t v = false := inR_of hi
            have hv' : ¬ 0 ≤ v := by omega
            have b1 : (0 : Int) ≤ (i : Int) := by omega
            have b2 : (i : Int) < (Q : Int) := by omega
            obtain ⟨X, hX⟩ : ∃ X, X = W.drewN q := ⟨_, rfl⟩
            rw [← hX]
            have cX : X.cell? ⟨g, i, none⟩ = some (.int .i64 v) := by rw [hX]; exact hcell
            have k1 := fun q2 => rhas_any s A0 n0 c0 v (X.drewN q2) (by rw [hX]; exact (hS.row.drewN q).drewN q2) hn0
            have k2 := fun q2 => rhas_any t A1 n1 c1 v (X.drewN q2) (by rw [hX]; exact (hT.row.drewN q).drewN q2) hn1
            have k3 := fun q2 => rhas_any ln An ln.length pn v (X.drewN q2) (by rw [hX]; exact (hN.row.drewN q).drewN q2) (Nat.le_trans bn (by decide))
            have k4 := fun q2 => rhas_any lo Ao lo.length po v (X.drewN q2) (by rw [hX]; exact (hO.row.drewN q).drewN q2) (Nat.le_trans bo (by decide))
            have k5 := fun q2 => rhas_any la Aa la.length pa v (X.drewN q2) (by rw [hX]; exact (hA.row.drewN q).drewN q2) (Nat.le_trans ba (by decide))
            rw [ha] at k1
            rw [hb] at k2
            rw [HMn.out v, hi, ha] at k3
            rw [HMo.out v, ha, hb] at k4
            rw [HMa.out v, ha, hb] at k5
            have K1 := Lib.hid (fun q2 => (k1 q2).mono fun e w' (h : _ ∧ _) => And.intro h.1 h.2.symm)
            have K2 := Lib.hid (fun q2 => (k2 q2).mono fun e w' (h : _ ∧ _) => And.intro h.1 h.2.symm)
            have K3 := Lib.hid k3
            have K4 := Lib.hid k4
            have K5 := Lib.hid k5
            have HX := Lib.hid hX
            clear k1 k2 k3 k4 k5 ha hb hi hX hcell
            go_wp2
            go_quiet (first | (go_at_call 14; with_reducible exact Calls.quiet_of_same (K1.out _)) | (go_at_call 14; with_reducible exact Calls.quiet_of_same (K2.out _)))
            go_wp2_with (first | (go_at_call 14; (with_reducible refine (K3.out _).mono ?_); rintro e w' ⟨rfl, rfl⟩) | (go_at_call 14; (with_reducible refine (K4.out _).mono ?_); rintro e w' ⟨rfl, rfl⟩) | (go_at_call 14; (with_reducible refine (K5.out _).mono ?_); rintro e w' ⟨rfl, rfl⟩))
            exact ⟨⟨i + 1, q + nq, by go_num, by omega, by rw [HX.out]; simp⟩, by simp [intOf]; omega⟩
          · have hi : inR v = true := by unfold inR; rw [decide_eq_true (by omega)]
            cases ha : hasL s v with
            | false =>
              cases hb : hasL t v with
              | false =>
                have b1 : (0 : Int) ≤ (i : Int) := by omega
                have b2 : (i : Int) < (Q : Int) := by omega
                obtain ⟨X, hX⟩ : ∃ X, X = W.drewN q := ⟨_, rfl⟩
                rw [← hX]
                have cX : X.cell? ⟨g, i, none⟩ = some (.int .i64 v) := by rw [hX]; exact hcell
                have k1 := fun q2 => rhas_any s A0 n0 c0 v (X.drewN q2) (by rw [hX]; exact (hS.row.drewN q).drewN q2) hn0
                have k2 := fun q2 => rhas_any t A1 n1 c1 v (X.drewN q2) (by rw [hX]; exact (hT.row.drewN q).drewN q2) hn1
                have k3 := fun q2 => rhas_any ln An ln.length pn v (X.drewN q2) (by rw [hX]; exact (hN.row.drewN q).drewN q2) (Nat.le_trans bn (by decide))
                have k4 := fun q2 => rhas_any lo Ao lo.length po v (X.drewN q2) (by rw [hX]; exact (hO.row.drewN q).drewN q2) (Nat.le_trans bo (by decide))
                have k5 := fun q2 => rhas_any la Aa la.length pa v (X.drewN q2) (by rw [hX]; exact (hA.row.drewN q).drewN q2) (Nat.le_trans ba (by decide))
                rw [ha] at k1
                rw [hb] at k2
                rw [HMn.out v, hi, ha] at k3
                rw [HMo.out v, ha, hb] at k4
                rw [HMa.out v, ha, hb] at k5
                have K1 := Lib.hid (fun q2 => (k1 q2).mono fun e w' (h : _ ∧ _) => And.intro h.1 h.2.symm)
                have K2 := Lib.hid (fun q2 => (k2 q2).mono fun e w' (h : _ ∧ _) => And.intro h.1 h.2.symm)
                have K3 := Lib.hid k3
                have K4 := Lib.hid k4
                have K5 := Lib.hid k5
                have HX := Lib.hid hX
                clear k1 k2 k3 k4 k5 ha hb hi hX hcell
                go_wp2
                go_quiet (first | (go_at_call 14; with_reducible exact Calls.quiet_of_same (K1.out _)) | (go_at_call 14; with_reducible exact Calls.quiet_of_same (K2.out _)))
                go_wp2_with (first | (go_at_call 14; (with_reducible refine (K3.out _).mono ?_); rintro e w' ⟨rfl, rfl⟩) | (go_at_call 14; (with_reducible refine (K4.out _).mono ?_); rintro e w' ⟨rfl, rfl⟩) | (go_at_call 14; (with_reducible refine (K5.out _).mono ?_); rintro e w' ⟨rfl, rfl⟩))
                exact ⟨⟨i + 1, q + nq, by go_num, by omega, by rw [HX.out]; simp⟩, by simp [intOf]; omega⟩
              | true =>
                have b1 : (0 : Int) ≤ (i : Int) := by omega
                have b2 : (i : Int) < (Q : Int) := by omega
                obtain ⟨X, hX⟩ : ∃ X, X = W.drewN q := ⟨_, rfl⟩
                rw [← hX]
                have cX : X.cell? ⟨g, i, none⟩ = some (.int .i64 v) := by rw [hX]; exact hcell
                have k1 := fun q2 => rhas_any s A0 n0 c0 v (X.drewN q2) (by rw [hX]; exact (hS.row.drewN q).drewN q2) hn0
                have k2 := fun q2 => rhas_any t A1 n1 c1 v (X.drewN q2) (by rw [hX]; exact (hT.row.drewN q).drewN q2) hn1
                have k3 := fun q2 => rhas_any ln An ln.length pn v (X.drewN q2) (by rw [hX]; exact (hN.row.drewN q).drewN q2) (Nat.le_trans bn (by decide))
                have k4 := fun q2 => rhas_any lo Ao lo.length po v (X.drewN q2) (by rw [hX]; exact (hO.row.drewN q).drewN q2) (Nat.le_trans bo (by decide))
                have k5 := fun q2 => rhas_any la Aa la.length pa v (X.drewN q2) (by rw [hX]; exact (hA.row.drewN q).drewN q2) (Nat.le_trans ba (by decide))
                rw [ha] at k1
                rw [hb] at k2
                rw [HMn.out v, hi, ha] at k3
                rw [HMo.out v, ha, hb] at k4
                rw [HMa.out v, ha, hb] at k5
                have K1 := Lib.hid (fun q2 => (k1 q2).mono fun e w' (h : _ ∧ _) => And.intro h.1 h.2.symm)
                have K2 := Lib.hid (fun q2 => (k2 q2).mono fun e w' (h : _ ∧ _) => And.intro h.1 h.2.symm)
                have K3 := Lib.hid k3
                have K4 := Lib.hid k4
                have K5 := Lib.hid k5
                have HX := Lib.hid hX
                clear k1 k2 k3 k4 k5 ha hb hi hX hcell
                go_wp2
                go_quiet (first | (go_at_call 14; with_reducible exact Calls.quiet_of_same (K1.out _)) | (go_at_call 14; with_reducible exact Calls.quiet_of_same (K2.out _)))
                go_wp2_with (first | (go_at_call 14; (with_reducible refine (K3.out _).mono ?_); rintro e w' ⟨rfl, rfl⟩) | (go_at_call 14; (with_reducible refine (K4.out _).mono ?_); rintro e w' ⟨rfl, rfl⟩) | (go_at_call 14; (with_reducible refine (K5.out _).mono ?_); rintro e w' ⟨rfl, rfl⟩))
                exact ⟨⟨i + 1, q + nq, by go_num, by omega, by rw [HX.out]; simp⟩, by simp [intOf]; omega⟩
            | true =>
              cases hb : hasL t v with
              | false =>
                have b1 : (0 : Int) ≤ (i : Int) := by omega
                have b2 : (i : Int) < (Q : Int) := by omega
                obtain ⟨X, hX⟩ : ∃ X, X = W.drewN q := ⟨_, rfl⟩
                rw [← hX]
                have cX : X.cell? ⟨g, i, none⟩ = some (.int .i64 v) := by rw [hX]; exact hcell
                have k1 := fun q2 => rhas_any s A0 n0 c0 v (X.drewN q2) (by rw [hX]; exact (hS.row.drewN q).drewN q2) hn0
                have k2 := fun q2 => rhas_any t A1 n1 c1 v (X.drewN q2) (by rw [hX]; exact (hT.row.drewN q).drewN q2) hn1
                have k3 := fun q2 => rhas_any ln An ln.length pn v (X.drewN q2) (by rw [hX]; exact (hN.row.drewN q).drewN q2) (Nat.le_trans bn (by decide))
                have k4 := fun q2 => rhas_any lo Ao lo.length po v (X.drewN q2) (by rw [hX]; exact (hO.row.drewN q).drewN q2) (Nat.le_trans bo (by decide))
                have k5 := fun q2 => rhas_any la Aa la.length pa v (X.drewN q2) (by rw [hX]; exact (hA.row.drewN q).drewN q2) (Nat.le_trans ba (by decide))
                rw [ha] at k1
                rw [hb] at k2
                rw [HMn.out v, hi, ha] at k3
                rw [HMo.out v, ha, hb] at k4
                rw [HMa.out v, ha, hb] at k5
                have K1 := Lib.hid (fun q2 => (k1 q2).mono fun e w' (h : _ ∧ _) => And.intro h.1 h.2.symm)
                have K2 := Lib.hid (fun q2 => (k2 q2).mono fun e w' (h : _ ∧ _) => And.intro h.1 h.2.symm)
                have K3 := Lib.hid k3
                have K4 := Lib.hid k4
                have K5 := Lib.hid k5
                have HX := Lib.hid hX
                clear k1 k2 k3 k4 k5 ha hb hi hX hcell
                go_wp2
                go_quiet (first | (go_at_call 14; with_reducible exact Calls.quiet_of_same (K1.out _)) | (go_at_call 14; with_reducible exact Calls.quiet_of_same (K2.out _)))
                go_wp2_with (first | (go_at_call 14; (with_reducible refine (K3.out _).mono ?_); rintro e w' ⟨rfl, rfl⟩) | (go_at_call 14; (with_reducible refine (K4.out _).mono ?_); rintro e w' ⟨rfl, rfl⟩) | (go_at_call 14; (with_reducible refine (K5.out _).mono ?_); rintro e w' ⟨rfl, rfl⟩))
                exact ⟨⟨i + 1, q + nq, by go_num, by omega, by rw [HX.out]; simp⟩, by simp [intOf]; omega⟩
              | true =>
                have b1 : (0 : Int) ≤ (i : Int) := by omega
                have b2 : (i : Int) < (Q : Int) := by omega
                obtain ⟨X, hX⟩ : ∃ X, X = W.drewN q := ⟨_, rfl⟩
                rw [← hX]
                have cX : X.cell? ⟨g, i, none⟩ = some (.int .i64 v) := by rw [hX]; exact hcell
                have k1 := fun q2 => rhas_any s A0 n0 c0 v (X.drewN q2) (by rw [hX]; exact (hS.row.drewN q).drewN q2) hn0
                have k2 := fun q2 => rhas_any t A1 n1 c1 v (X.drewN q2) (by rw [hX]; exact (hT.row.drewN q).drewN q2) hn1
                have k3 := fun q2 => rhas_any ln An ln.length pn v (X.drewN q2) (by rw [hX]; exact (hN.row.drewN q).drewN q2) (Nat.le_trans bn (by decide))
                have k4 := fun q2 => rhas_any lo Ao lo.length po v (X.drewN q2) (by rw [hX]; exact (hO.row.drewN q).drewN q2) (Nat.le_trans bo (by decide))
                have k5 := fun q2 => rhas_any la Aa la.length pa v (X.drewN q2) (by rw [hX]; exact (hA.row.drewN q).drewN q2) (Nat.le_trans ba (by decide))
                rw [ha] at k1
                rw [hb] at k2
                rw [HMn.out v, hi, ha] at k3
                rw [HMo.out v, ha, hb] at k4
                rw [HMa.out v, ha, hb] at k5
                have K1 := Lib.hid (fun q2 => (k1 q2).mono fun e w' (h : _ ∧ _) => And.intro h.1 h.2.symm)
                have K2 := Lib.hid (fun q2 => (k2 q2).mono fun e w' (h : _ ∧ _) => And.intro h.1 h.2.symm)
                have K3 := Lib.hid k3
                have K4 := Lib.hid k4
                have K5 := Lib.hid k5
                have HX := Lib.hid hX
                clear k1 k2 k3 k4 k5 ha hb hi hX hcell
                go_wp2
                go_quiet (first | (go_at_call 14; with_reducible exact Calls.quiet_of_same (K1.out _)) | (go_at_call 14; with_reducible exact Calls.quiet_of_same (K2.out _)))
                go_wp2_with (first | (go_at_call 14; (with_reducible refine (K3.out _).mono ?_); rintro e w' ⟨rfl, rfl⟩) | (go_at_call 14; (with_reducible refine (K4.out _).mono ?_); rintro e w' ⟨rfl, rfl⟩) | (go_at_call 14; (with_reducible refine (K5.out _).mono ?_); rintro e w' ⟨rfl, rfl⟩))
                exact ⟨⟨i + 1, q + nq, by go_num, by omega, by rw [HX.out]; simp⟩, by simp [intOf]; omega⟩
          · have hi : inR v = false := by unfold inR; rw [decide_eq_false (by omega)]
            have ha : hasL s v = false := inR_of hi
            have hb : hasL t v = false := inR_of hi
            have hv0 : 0 ≤ v := by omega
            have hv' : ¬ v ≤ 1114111 := by omega
            have b1 : (0 : Int) ≤ (i : Int) := by omega
            have b2 : (i : Int) < (Q : Int) := by omega
            obtain ⟨X, hX⟩ : ∃ X, X = W.drewN q := ⟨_, rfl⟩
            rw [← hX]
            have cX : X.cell? ⟨g, i, none⟩ = some (.int .i64 v) := by rw [hX]; exact hcell
            have k1 := fun q2 => rhas_any s A0 n0 c0 v (X.drewN q2) (by rw [hX]; exact (hS.row.drewN q).drewN q2) hn0
            have k2 := fun q2 => rhas_any t A1 n1 c1 v (X.drewN q2) (by rw [hX]; exact (hT.row.drewN q).drewN q2) hn1
            have k3 := fun q2 => rhas_any ln An ln.length pn v (X.drewN q2) (by rw [hX]; exact (hN.row.drewN q).drewN q2) (Nat.le_trans bn (by decide))
            have k4 := fun q2 => rhas_any lo Ao lo.length po v (X.drewN q2) (by rw [hX]; exact (hO.row.drewN q).drewN q2) (Nat.le_trans bo (by decide))
            have k5 := fun q2 => rhas_any la Aa la.length pa v (X.drewN q2) (by rw [hX]; exact (hA.row.drewN q).drewN q2) (Nat.le_trans ba (by decide))
            rw [ha] at k1
            rw [hb] at k2
            rw [HMn.out v, hi, ha] at k3
            rw [HMo.out v, ha, hb] at k4
            rw [HMa.out v, ha, hb] at k5
            have K1 := Lib.hid (fun q2 => (k1 q2).mono fun e w' (h : _ ∧ _) => And.intro h.1 h.2.symm)
            have K2 := Lib.hid (fun q2 => (k2 q2).mono fun e w' (h : _ ∧ _) => And.intro h.1 h.2.symm)
            have K3 := Lib.hid k3
            have K4 := Lib.hid k4
            have K5 := Lib.hid k5
            have HX := Lib.hid hX
            clear k1 k2 k3 k4 k5 ha hb hi hX hcell
            go_wp2
            go_quiet (first | (go_at_call 14; with_reducible exact Calls.quiet_of_same (K1.out _)) | (go_at_call 14; with_reducible exact Calls.quiet_of_same (K2.out _)))
            go_wp2_with (first | (go_at_call 14; (with_reducible refine (K3.out _).mono ?_); rintro e w' ⟨rfl, rfl⟩) | (go_at_call 14; (with_reducible refine (K4.out _).mono ?_); rintro e w' ⟨rfl, rfl⟩) | (go_at_call 14; (with_reducible refine (K5.out _).mono ?_); rintro e w' ⟨rfl, rfl⟩))
            exact ⟨⟨i + 1, q + nq, by go_num, by omega, by rw [HX.out]; simp⟩, by simp [intOf]; omega⟩
        · have hiq : i = Q := by omega
          subst hiq
          go_wp2
          go_ret
          exact ⟨rfl, below_drewN HBB.out q⟩
end Go.Proofs.Ytiiclhkibpmgmaa
