/- SetTwice: what isn't in what isn't in a set is the set, and both ways to say what is in neither are one: out of what set's calls are to answer. -/
import Derived.Test.YtiiclhkibpmgmaaAwake8
import Derived.Test.YtiiclhkibpmgmaaCanonX
import Derived.Test.YtiiclhkibpmgmaaOwnR
namespace Go.Proofs.Ytiiclhkibpmgmaa
open Go Go.RowKit
set_option linter.unusedVariables false

set_option maxHeartbeats 4000000 in
set_option maxRecDepth 10000 in
theorem setTwice_any (F : Faces) (A0 A1 : Option Addr) (n0 n1 c0 c1 : Nat) (s t : List (Int × Int)) (w : World) (hs : InG w A0 n0 c0 s) (ht : InG w A1 n1 c1 t) :
    Calls Try.prog 7 #[.slice A0 n0 c0, .slice A1 n1 c1] w fun e w' => e = .returned (.bool true) ∧ Below w.heap.size w w' := by
  rcases Nat.lt_or_ge 12 n0 with h0 | h0
  · have d0 : 12 < n0 := h0
    go_enter Try.func7, Try.ntmps7
    go_wp2_with (go_at_call 8; refine (awake_any F _).mono ?_; rintro e w1 ⟨rfl, hb⟩; have HB : Hid (Below w.heap.size w w1) := Lib.hid (by first | exact hb | exact then_ HB.out hb); clear hb)
    go_ret
    exact ⟨rfl, HB.out⟩
  · rcases Nat.lt_or_ge 12 n1 with h1 | h1
    · have d0 : ¬ 12 < n0 := by omega
      have d1 : 12 < n1 := h1
      go_enter Try.func7, Try.ntmps7
      go_wp2_with (go_at_call 8; refine (awake_any F _).mono ?_; rintro e w1 ⟨rfl, hb⟩; have HB : Hid (Below w.heap.size w w1) := Lib.hid (by first | exact hb | exact then_ HB.out hb); clear hb)
      go_ret
      exact ⟨rfl, HB.out⟩
    · have d0 : ¬ 12 < n0 := by omega
      have d1 : ¬ 12 < n1 := by omega
      have hs12 : n0 ≤ 12 := h0
      have ht12 : n1 ≤ 12 := h1
      obtain ⟨cs, hcs, hms⟩ := exists_canon s
      obtain ⟨ct, hct, hmt⟩ := exists_canon t
      have hcs := Lib.hid hcs
      have hct := Lib.hid hct
      have hms := Lib.hid hms
      have hmt := Lib.hid hmt
      have hwb : IntKind.i64.wrap (countL cs + countL ct) = countL cs + countL ct := by
        have h2 := count_small hcs.out
        have h3 := count_small hct.out
        rw [IntKind.wrap_i64]
        omega
      go_enter Try.func7, Try.ntmps7
      go_wp2_with (first
        | (go_at_call 8; refine (awake_any F _).mono ?_; rintro e w1 ⟨rfl, hb1⟩; have is1 := hs.below hb1; have it1 := ht.below hb1)
        | (go_at_call 16; (with_reducible refine (F.no w1 _ _ _ _ is1 (Nat.le_trans hs12 (by decide))).mono ?_); rintro e w2 ⟨V, ln1, rfl, ho, cn1, hm⟩; obtain ⟨An1, pn1, rfl, in1, bn1⟩ := canon_out ho cn1; have hb2 := ho.2; have HMn1 := Lib.hid hm; clear ho hm)
        | (go_at_call 16; (with_reducible refine (F.no w2 _ _ _ _ in1 (Nat.le_trans bn1 (by decide))).mono ?_); rintro e w3 ⟨V, ln2, rfl, ho, cn2, hm⟩; obtain ⟨An2, pn2, rfl, in2, bn2⟩ := canon_out ho cn2; have hb3 := ho.2; have HMn2 := Lib.hid hm; clear ho hm)
        | (go_at_call 9; (with_reducible refine (F.of w3 _ _ _ _ ((is1.below hb2).below hb3) (Nat.le_trans hs12 (by decide))).mono ?_); rintro e w4 ⟨V, lo1, rfl, ho, co1, hm⟩; obtain ⟨Ao1, po1, rfl, io1, bo1⟩ := canon_out ho co1; have hb4 := ho.2; have HMo1 := Lib.hid hm; clear ho hm; have heq : ln2 = lo1 := canon_one cn2 co1 (fun r => by rw [HMn2.out r, HMn1.out r, HMo1.out r]; exact not_not_has _ r); subst heq)
        | (go_at_call 12; (with_reducible refine (rsameG_any _ An2 Ao1 _ pn2 po1 w4 (in2.below hb4).row io1.row (Nat.le_trans bn2 (by decide))).mono ?_); rintro e w5 ⟨rfl, hq⟩; have hb5 : Below w4.heap.size w4 w5 := (by obtain ⟨q, rfl⟩ := hq; exact below_drewN (Below.refl _ _) q); clear hq)
        | (go_at_call 17; (with_reducible refine (F.or w5 _ _ _ _ _ _ _ _ ((((is1.below hb2).below hb3).below hb4).below hb5) ((((it1.below hb2).below hb3).below hb4).below hb5) (Nat.le_trans hs12 (by decide)) (Nat.le_trans ht12 (by decide))).mono ?_); rintro e w6 ⟨V, lu1, rfl, ho, cu1, hm⟩; obtain ⟨Au1, pu1, rfl, iu1, bu1⟩ := canon_out ho cu1; have hb6 := ho.2; have HMu1 := Lib.hid hm; clear ho hm)
        | (go_at_call 16; (with_reducible refine (F.no w6 _ _ _ _ iu1 (Nat.le_trans bu1 (by decide))).mono ?_); rintro e w7 ⟨V, lv1, rfl, ho, cv1, hm⟩; obtain ⟨Av1, pv1, rfl, iv1, bv1⟩ := canon_out ho cv1; have hb7 := ho.2; have HMv1 := Lib.hid hm; clear ho hm)
        | (go_at_call 16; (with_reducible refine (F.no w7 _ _ _ _ ((((((is1.below hb2).below hb3).below hb4).below hb5).below hb6).below hb7) (Nat.le_trans hs12 (by decide))).mono ?_); rintro e w8 ⟨V, ln3, rfl, ho, cn3, hm⟩; obtain ⟨An3, pn3, rfl, in3, bn3⟩ := canon_out ho cn3; have hb8 := ho.2; have HMn3 := Lib.hid hm; clear ho hm)
        | (go_at_call 16; (with_reducible refine (F.no w8 _ _ _ _ (((((((it1.below hb2).below hb3).below hb4).below hb5).below hb6).below hb7).below hb8) (Nat.le_trans ht12 (by decide))).mono ?_); rintro e w9 ⟨V, ln4, rfl, ho, cn4, hm⟩; obtain ⟨An4, pn4, rfl, in4, bn4⟩ := canon_out ho cn4; have hb9 := ho.2; have HMn4 := Lib.hid hm; clear ho hm)
        | (go_at_call 18; (with_reducible refine (F.and w9 _ _ _ _ _ _ _ _ (in3.below hb9) in4 (Nat.le_trans bn3 (by decide)) (Nat.le_trans bn4 (by decide))).mono ?_); rintro e w10 ⟨V, lv2, rfl, ho, cv2, hm⟩; obtain ⟨Av2, pv2, rfl, iv2, bv2⟩ := canon_out ho cv2; have hb10 := ho.2; have HMv2 := Lib.hid hm; clear ho hm; have heq : lv1 = lv2 := canon_one cv1 cv2 (fun r => by rw [HMv1.out r, HMu1.out r, HMv2.out r, HMn3.out r, HMn4.out r]; exact de_morgan _ _ _); subst heq)
        | (go_at_call 12; (with_reducible refine (rsameG_any _ Av1 Av2 _ pv1 pv2 w10 (((iv1.below hb8).below hb9).below hb10).row iv2.row (Nat.le_trans bv1 (by decide))).mono ?_); rintro e w11 ⟨rfl, hq⟩; have hb11 : Below w10.heap.size w10 w11 := (by obtain ⟨q, rfl⟩ := hq; exact below_drewN (Below.refl _ _) q); clear hq)
        | (go_at_call 17; (with_reducible refine (F.or w11 _ _ _ _ _ _ _ _ ((((((((((is1.below hb2).below hb3).below hb4).below hb5).below hb6).below hb7).below hb8).below hb9).below hb10).below hb11) ((((((((((it1.below hb2).below hb3).below hb4).below hb5).below hb6).below hb7).below hb8).below hb9).below hb10).below hb11) (Nat.le_trans hs12 (by decide)) (Nat.le_trans ht12 (by decide))).mono ?_); rintro e w12 ⟨V, lx1, rfl, ho, cx1, hm⟩; obtain ⟨Ax1, px1, rfl, ix1, bx1⟩ := canon_out ho cx1; have hb12 := ho.2; have HMx1 := Lib.hid hm; clear ho hm)
        | (go_at_call 17; (with_reducible refine (F.or w12 _ _ _ _ _ _ _ _ (((((((((((it1.below hb2).below hb3).below hb4).below hb5).below hb6).below hb7).below hb8).below hb9).below hb10).below hb11).below hb12) (((((((((((is1.below hb2).below hb3).below hb4).below hb5).below hb6).below hb7).below hb8).below hb9).below hb10).below hb11).below hb12) (Nat.le_trans ht12 (by decide)) (Nat.le_trans hs12 (by decide))).mono ?_); rintro e w13 ⟨V, lx2, rfl, ho, cx2, hm⟩; obtain ⟨Ax2, px2, rfl, ix2, bx2⟩ := canon_out ho cx2; have hb13 := ho.2; have HMx2 := Lib.hid hm; clear ho hm; have heq : lx1 = lx2 := canon_one cx1 cx2 (fun r => by rw [HMx1.out r, HMx2.out r, Bool.or_comm]); subst heq)
        | (go_at_call 12; (with_reducible refine (rsameG_any _ Ax1 Ax2 _ px1 px2 w13 (ix1.below hb13).row ix2.row (Nat.le_trans bx1 (by decide))).mono ?_); rintro e w14 ⟨rfl, hq⟩; have hb14 : Below w13.heap.size w13 w14 := (by obtain ⟨q, rfl⟩ := hq; exact below_drewN (Below.refl _ _) q); clear hq)
        | (go_at_call 18; (with_reducible refine (F.and w14 _ _ _ _ _ _ _ _ (((((((((((((is1.below hb2).below hb3).below hb4).below hb5).below hb6).below hb7).below hb8).below hb9).below hb10).below hb11).below hb12).below hb13).below hb14) (((((((((((((it1.below hb2).below hb3).below hb4).below hb5).below hb6).below hb7).below hb8).below hb9).below hb10).below hb11).below hb12).below hb13).below hb14) (Nat.le_trans hs12 (by decide)) (Nat.le_trans ht12 (by decide))).mono ?_); rintro e w15 ⟨V, ly1, rfl, ho, cy1, hm⟩; obtain ⟨Ay1, py1, rfl, iy1, by1⟩ := canon_out ho cy1; have hb15 := ho.2; have HMy1 := Lib.hid hm; clear ho hm)
        | (go_at_call 18; (with_reducible refine (F.and w15 _ _ _ _ _ _ _ _ ((((((((((((((it1.below hb2).below hb3).below hb4).below hb5).below hb6).below hb7).below hb8).below hb9).below hb10).below hb11).below hb12).below hb13).below hb14).below hb15) ((((((((((((((is1.below hb2).below hb3).below hb4).below hb5).below hb6).below hb7).below hb8).below hb9).below hb10).below hb11).below hb12).below hb13).below hb14).below hb15) (Nat.le_trans ht12 (by decide)) (Nat.le_trans hs12 (by decide))).mono ?_); rintro e w16 ⟨V, ly2, rfl, ho, cy2, hm⟩; obtain ⟨Ay2, py2, rfl, iy2, by2⟩ := canon_out ho cy2; have hb16 := ho.2; have HMy2 := Lib.hid hm; clear ho hm; have heq : ly1 = ly2 := canon_one cy1 cy2 (fun r => by rw [HMy1.out r, HMy2.out r, Bool.and_comm]); subst heq)
        | (go_at_call 12; (with_reducible refine (rsameG_any _ Ay1 Ay2 _ py1 py2 w16 (iy1.below hb16).row iy2.row (Nat.le_trans by1 (by decide))).mono ?_); rintro e w17 ⟨rfl, hq⟩; have hb17 : Below w16.heap.size w16 w17 := (by obtain ⟨q, rfl⟩ := hq; exact below_drewN (Below.refl _ _) q); clear hq)
        | (go_at_call 17; (with_reducible refine (F.or w17 _ _ _ _ _ _ _ _ ((((((((((((((((is1.below hb2).below hb3).below hb4).below hb5).below hb6).below hb7).below hb8).below hb9).below hb10).below hb11).below hb12).below hb13).below hb14).below hb15).below hb16).below hb17) ((((((((((((((((it1.below hb2).below hb3).below hb4).below hb5).below hb6).below hb7).below hb8).below hb9).below hb10).below hb11).below hb12).below hb13).below hb14).below hb15).below hb16).below hb17) (Nat.le_trans hs12 (by decide)) (Nat.le_trans ht12 (by decide))).mono ?_); rintro e w18 ⟨V, lz1, rfl, ho, cz1, hm⟩; obtain ⟨Az1, pz1, rfl, iz1, bz1⟩ := canon_out ho cz1; have hb18 := ho.2; have HMz1 := Lib.hid hm; clear ho hm)
        | (go_at_call 22; (with_reducible refine (F.count w18 _ _ _ _ lz1 iz1 (Nat.le_trans bz1 (by decide)) cz1 (fun _ => rfl)).mono ?_); rintro e w19 ⟨rfl, hb19⟩)
        | (go_at_call 18; (with_reducible refine (F.and w19 _ _ _ _ _ _ _ _ ((((((((((((((((((is1.below hb2).below hb3).below hb4).below hb5).below hb6).below hb7).below hb8).below hb9).below hb10).below hb11).below hb12).below hb13).below hb14).below hb15).below hb16).below hb17).below hb18).below hb19) ((((((((((((((((((it1.below hb2).below hb3).below hb4).below hb5).below hb6).below hb7).below hb8).below hb9).below hb10).below hb11).below hb12).below hb13).below hb14).below hb15).below hb16).below hb17).below hb18).below hb19) (Nat.le_trans hs12 (by decide)) (Nat.le_trans ht12 (by decide))).mono ?_); rintro e w20 ⟨V, lz2, rfl, ho, cz2, hm⟩; obtain ⟨Az2, pz2, rfl, iz2, bz2⟩ := canon_out ho cz2; have hb20 := ho.2; have HMz2 := Lib.hid hm; clear ho hm; have hwa : IntKind.i64.wrap (countL lz1 + countL lz2) = countL cs + countL ct := (by have h1 := count_or hcs.out hct.out cz1 cz2 (fun r => by rw [HMz1.out r, hms.out r, hmt.out r]) (fun r => by rw [HMz2.out r, hms.out r, hmt.out r]); have h2 := count_small hcs.out; have h3 := count_small hct.out; rw [IntKind.wrap_i64]; omega))
        | (go_at_call 22; (with_reducible refine (F.count w20 _ _ _ _ lz2 iz2 (Nat.le_trans bz2 (by decide)) cz2 (fun _ => rfl)).mono ?_); rintro e w21 ⟨rfl, hb21⟩)
        | (go_at_call 22; (with_reducible refine (F.count w21 _ _ _ _ cs ((((((((((((((((((((is1.below hb2).below hb3).below hb4).below hb5).below hb6).below hb7).below hb8).below hb9).below hb10).below hb11).below hb12).below hb13).below hb14).below hb15).below hb16).below hb17).below hb18).below hb19).below hb20).below hb21) (Nat.le_trans hs12 (by decide)) hcs.out hms.out).mono ?_); rintro e w22 ⟨rfl, hb22⟩)
        | (go_at_call 22; (with_reducible refine (F.count w22 _ _ _ _ ct (((((((((((((((((((((it1.below hb2).below hb3).below hb4).below hb5).below hb6).below hb7).below hb8).below hb9).below hb10).below hb11).below hb12).below hb13).below hb14).below hb15).below hb16).below hb17).below hb18).below hb19).below hb20).below hb21).below hb22) (Nat.le_trans ht12 (by decide)) hct.out hmt.out).mono ?_); rintro e w23 ⟨rfl, hb23⟩))
      go_ret
      exact ⟨rfl, (then_ (then_ (then_ (then_ (then_ (then_ (then_ (then_ (then_ (then_ (then_ (then_ (then_ (then_ (then_ (then_ (then_ (then_ (then_ (then_ (then_ (then_ hb1 hb2) hb3) hb4) hb5) hb6) hb7) hb8) hb9) hb10) hb11) hb12) hb13) hb14) hb15) hb16) hb17) hb18) hb19) hb20) hb21) hb22) hb23)⟩
end Go.Proofs.Ytiiclhkibpmgmaa
