/- The document's example of a ring; RingFull, of any ring that answers so. -/
import Derived.Test.YtmpemcooianfiaaGWin
namespace Go.Proofs.Ytmpemcooianfiaa
open Go Go.RowKit
set_option linter.unusedVariables false
set_option maxRecDepth 20000
section
variable {P : RP} (T : RinF P)
include T
set_option maxHeartbeats 2000000 in
theorem awake17_any (w0 : World) {w : World} (hb : Below w0.heap.size w0 w) :
    Calls Try.prog 6 #[] w fun e w' => e = .returned (.bool true) ∧ Below w0.heap.size w0 w' := by
  have HN := Lib.hid (rNew T 3 hb (by decide) (by decide))
  clear hb
  go_enter Try.func6, Try.ntmps6
  go_wp2_with fail
  refine HN.out.mono ?_; rintro e w1 ⟨g, rfl, h1, -⟩
  have H1 := Lib.hid h1; clear h1 HN
  go_wp2_with fail
  refine (rPut T H1.out (numIt 1) (by omega) (by decide) (by decide)).mono ?_; rintro e w2 ⟨rfl, h2, -⟩
  have H2 := Lib.hid h2; clear h2 H1
  rw [show putR 0 (List.replicate 3 none) (numIt 1).n = 0 by decide]
  go_wp2_with fail
  refine (rNxt T H2.out (by omega)).mono ?_; rintro e w3 ⟨rfl, h3, -⟩
  have H3 : Hid (Rin P w0 w3 (fun k => k < w.heap.size) g 0 [none, some (numIt 1), none]) := Lib.hid h3; clear h3 H2
  rw [show (nextX (putW 0 (List.replicate 3 none) (numIt 1))).val = (numIt 0).val from rfl, show (headW (putW 0 (List.replicate 3 none) (numIt 1))).isSome = false from rfl]
  unfold It.val numIt
  go_wp2_with fail
  obtain ⟨b1, hb1⟩ : ∃ b1, b1 = w3.heap.size := ⟨_, rfl⟩
  have hlo1 : w0.heap.size ≤ b1 := by rw [hb1]; exact H3.out.to.size
  have HM := H3.out.made T (.cells #[.int .i64 0, .int .i64 0, .int .i64 0, .int .i64 0, .string ⟨#[]⟩, .slice none 0 0, .int .i64 0] 36)
  have HA1 : (w3.alloc (.cells #[.int .i64 0, .int .i64 0, .int .i64 0, .int .i64 0, .string ⟨#[]⟩, .slice none 0 0, .int .i64 0] 36)).heap[b1]? = some (.cells #[.int .i64 0, .int .i64 0, .int .i64 0, .int .i64 0, .string ⟨#[]⟩, .slice none 0 0, .int .i64 0] 36 (0, 0)) := at_new _ _ hb1
  rw [← hb1] at HM ⊢
  have HP := Lib.hid (rPut T HM (numIt 0) (by omega) (by decide) (by decide))
  rw [show putR 0 [none, some (numIt 1), none] (numIt 0).n = 0 by decide, show putW 0 [none, some (numIt 1), none] (numIt 0) = [some (numIt 0), some (numIt 1), none] from rfl] at HP
  have HAH := Lib.hid HA1
  clear HM HA1 hb1
  refine HP.out.mono ?_; rintro e w4 ⟨rfl, h4, k4⟩
  have hx4 := (k4 b1 (.inr rfl)).trans HAH.out
  have H4 := Lib.hid h4; clear h4 k4 H3 HP HAH
  have HBL : Hid (w0.heap.size ≤ b1) := Lib.hid hlo1
  clear hlo1
  go_wp2_with fail
  refine (rNxt T H4.out (by omega)).mono ?_; rintro e w5 ⟨rfl, h5, k5⟩
  have hx5 := (k5 b1 (.inr rfl)).trans hx4
  rw [show (nextX [some (numIt 0), some (numIt 1), none]).val = (numIt 0).val from rfl, show (headW [some (numIt 0), some (numIt 1), none]).isSome = true from rfl]
  have H5 : Hid (Rin P w0 w5 (fun k => k < w.heap.size ∨ k = b1) g 1 [some (numIt 1), none, none]) := Lib.hid h5
  have HX5 := Lib.hid hx5
  clear h5 k5 H4 hx4 hx5
  unfold It.val numIt
  go_wp2_with fail
  obtain ⟨b2, hb2⟩ : ∃ b2, b2 = w5.heap.size := ⟨_, rfl⟩
  have HM := H5.out.made T (.cells #[.int .i64 0, .int .i64 0, .int .i64 0, .int .i64 0, .string ⟨#[]⟩, .slice none 0 0, .int .i64 0] 36)
  have hx2 : (w5.alloc (.cells #[.int .i64 0, .int .i64 0, .int .i64 0, .int .i64 0, .string ⟨#[]⟩, .slice none 0 0, .int .i64 0] 36)).heap[b2]? = some (.cells #[.int .i64 0, .int .i64 0, .int .i64 0, .int .i64 0, .string ⟨#[]⟩, .slice none 0 0, .int .i64 0] 36 (0, 0)) := at_new _ _ hb2
  rw [← hb2] at HM ⊢
  have HQ := Lib.hid (rNxt T HM (by omega))
  rw [show (nextX [some (numIt 1), none, none]).val = (numIt 1).val from rfl, show (headW [some (numIt 1), none, none]).isSome = true from rfl] at HQ
  unfold It.val numIt at HQ
  have HX2 := Lib.hid hx2
  clear HM hx2 hb2
  refine HQ.out.mono ?_; rintro e w6 ⟨rfl, h6, k6⟩
  have HX6 := Lib.hid ((k6 b2 (.inr rfl)).trans HX2.out)
  have H6 : Hid (Rin P w0 w6 (fun k => (k < w.heap.size ∨ k = b1) ∨ k = b2) g 2 [none, none, none]) := Lib.hid h6
  clear h6 k6 H5 HX2 HQ HX5
  have HM := H6.out.made T (.cells #[.int .i64 1, .int .i64 0, .int .i64 0, .int .i64 0, .string ⟨#[]⟩, .slice none 0 0, .int .i64 0] 36)
  have g1 := cell_of_row _ b2 0 _ _ (0, 0) (at_up HX6.out (.cells #[.int .i64 1, .int .i64 0, .int .i64 0, .int .i64 0, .string ⟨#[]⟩, .slice none 0 0, .int .i64 0] 36))
  simp only [List.getElem?_toArray, List.getElem?_cons_zero] at g1
  have HP := Lib.hid (rPut T HM (numIt 5) (by omega) (by decide) (by decide))
  rw [show putR 2 [none, none, none] (numIt 5).n = 16 by decide] at HP
  clear HM
  go_wp2_with fail
  refine HP.out.mono ?_; rintro e w7 ⟨rfl, h7, -⟩
  have H7 := Lib.hid h7.to
  clear h7 HP g1
  go_wp2_with fail
  go_ret
  exact ⟨rfl, H7.out⟩
set_option maxHeartbeats 4000000 in
theorem full17_any (n from' : Nat) (hn : n < 256) (hf : from' < 256) (w : World) :
    Calls Try.prog 5 #[.int .u8 (n : Int), .int .u8 (from' : Int)] w fun e w' => e = .returned (.bool true) ∧ Below w.heap.size w w' := by
  have HA := Lib.hid (awake17_any T w (Below.refl w.heap.size w))
  have HN := Lib.hid fun w2 (hb : Below w.heap.size w w2) k h1 h2 => rNew T k hb h1 h2
  go_enter Try.func5, Try.ntmps5
  go_wp2_with fail
  refine HA.out.mono ?_; rintro e w1 ⟨rfl, h1⟩
  have H1 := Lib.hid h1; clear h1 HA
  go_wp2_with fail
  obtain ⟨k, hk⟩ : ∃ k : Nat, k = 1 + n % 64 := ⟨_, rfl⟩
  obtain ⟨m, hm⟩ : ∃ m : Nat, m = from' % 100 := ⟨_, rfl⟩
  have ek : 1 + (n : Int) % 64 = (k : Int) := by omega
  have em : (from' : Int) % 100 = (m : Int) := by omega
  have hk1 : 1 ≤ k := by omega
  have hk2 : k ≤ 64 := by omega
  have hm2 : m < 100 := by omega
  rw [ek, em]
  clear hk hm ek em hn hf
  refine (HN.out _ H1.out k hk1 hk2).mono ?_; rintro e w2 ⟨g, rfl, h2, -⟩
  have H2 := Lib.hid (h2.sub (K' := fun _ => False) (fun _ h => h.elim)); clear h2 HN H1
  go_wp2_with fail
  go_loopw [9] (fun v9 wr => ∃ i : Nat, v9 = .int .i64 (i : Int) ∧ i ≤ m ∧ Hid (Rin P w wr (fun _ => False) g i (gW 0 0 i k))) (fun v9 _ => m - (intOf v9).toNat)
  case atStart => exact ⟨0, rfl, Nat.zero_le _, Lib.hid (by rw [gW_none]; exact H2.out)⟩
  case round =>
    obtain ⟨i, rfl, hi, HO⟩ := hrel
    clear H2
    by_cases hl : i < m
    · have HP := Lib.hid (rPut T HO.out (numIt ((i : Nat) : Int)) (by omega) (by show (-9223372036854775808 : Int) ≤ (i : Int); omega) (by show (i : Int) < 9223372036854775808; omega))
      rw [show (numIt ((i : Nat) : Int)).n = ((i + 0 : Nat) : Int) from rfl, gW_putR _ _ _ _ _ (show 0 < k by omega), if_neg (by omega), gW_put1 i k (by omega)] at HP
      unfold It.val numIt at HP
      have HX := Lib.hid fun w' (h : Rin P w w' (fun _ => False) g i (gW 0 1 i k)) => rNxt T h (by omega)
      rw [(gW_next 1 i k (by omega) hk1).2.1, (gW_next 1 i k (by omega) hk1).2.2] at HX
      unfold It.val at HX
      go_wp2_with fail
      refine HP.out.mono ?_; rintro e w3 ⟨rfl, h3, -⟩
      have H3 := Lib.hid (HX.out _ h3); clear h3 HP HX
      go_wp2_with fail
      refine H3.out.mono ?_; rintro e w4 ⟨rfl, h4, -⟩
      have H4 := Lib.hid h4; clear h4 H3
      go_wp2_with fail
      exact ⟨⟨i + 1, by go_num, by omega, H4⟩, by simp [intOf]; omega⟩
    · have hie : i = m := by omega
      subst hie
      clear hl hi
      go_wp2_with fail
      go_loopw [10] (fun v10 wr => ∃ j : Nat, v10 = .int .i64 ((i : Int) + (j : Int) - 1) ∧ j ≤ k ∧ Hid (Rin P w wr (fun _ => False) g i (gW j k i k))) (fun v10 _ => (intOf v10 + 1 - (i : Int)).toNat)
      case atStart => exact ⟨k, by go_num, Nat.le_refl _, Lib.hid (by rw [gW_none, ← gW_none i k 0]; exact HO.out)⟩
      case round =>
        obtain ⟨j, rfl, hj, HJ⟩ := hrel
        clear HO
        by_cases hl : 0 < j
        · obtain ⟨q, rfl⟩ : ∃ q, j = q + 1 := ⟨j - 1, by omega⟩
          have e1 : (i : Int) + ((q + 1 : Nat) : Int) - 1 = ((i + q : Nat) : Int) := by omega
          rw [e1]
          have hge : (i : Int) ≤ ((i + q : Nat) : Int) := by omega
          have HR := Lib.hid (rRdy T HJ.out (by omega))
          rw [gW_head _ _ _ _ (.inl (by omega))] at HR
          have HM := Lib.hid fun w' (h : Rin P w w' (fun _ => False) g i (gW (q + 1) k i k)) => rRom T h ((i + q : Nat) : Int) (by omega) (by omega) (by omega)
          rw [gW_putR _ _ _ _ _ (show q < k by omega), if_neg (by omega)] at HM
          have HP := Lib.hid fun w' (h : Rin P w w' (fun _ => False) g i (gW (q + 1) k i k)) => rPut T h (numIt ((i + q : Nat) : Int)) (by omega) (by show (-9223372036854775808 : Int) ≤ ((i + q : Nat) : Int); omega) (by show ((i + q : Nat) : Int) < 9223372036854775808; omega)
          rw [show (numIt ((i + q : Nat) : Int)).n = ((i + q : Nat) : Int) from rfl, gW_putR _ _ _ _ _ (show q < k by omega), if_neg (by omega), gW_putW _ _ _ (by omega)] at HP
          unfold It.val numIt at HP
          have HM2 := Lib.hid fun w' (h : Rin P w w' (fun _ => False) g i (gW q k i k)) => rRom T h ((i + q : Nat) : Int) (by omega) (by omega) (by omega)
          rw [gW_putR _ _ _ _ _ (show q < k by omega), if_pos ⟨Nat.le_refl _, by omega⟩] at HM2
          obtain ⟨t, ht⟩ : ∃ t, t = i + q := ⟨_, rfl⟩
          rw [← ht] at HM HP HM2 hge ⊢
          have HT := Lib.hid ht
          clear e1 ht
          go_wp2_with fail
          refine HR.out.mono ?_; rintro e w3 ⟨rfl, h3, -⟩
          have H3 := Lib.hid (HM.out _ h3); have H3' := Lib.hid h3; clear h3 HR HM
          go_wp2_with fail
          refine H3.out.mono ?_; rintro e w4 ⟨rfl, h4, -⟩
          have H4 := Lib.hid (HP.out _ h4); clear h4 H3 HP
          go_wp2_with fail
          refine H4.out.mono ?_; rintro e w5 ⟨rfl, h5, -⟩
          have H5 := Lib.hid (HM2.out _ h5); clear h5 H4 HM2
          go_wp2_with fail
          refine H5.out.mono ?_; rintro e w6 ⟨rfl, h6, -⟩
          have H6 := Lib.hid h6; clear h6 H5
          go_wp2_with fail
          have ht := HT.out
          have ew : RowKit.wrap64 ((t : Int) - 1) = (i : Int) + (q : Int) - 1 := by
            unfold RowKit.wrap64
            omega
          rw [ew]
          exact ⟨⟨q, rfl, by omega, H6⟩, by simp [intOf]; omega⟩
        · have hj0 : j = 0 := by omega
          subst hj0
          have hlt : (i : Int) + ((0 : Nat) : Int) - 1 < (i : Int) := by omega
          have hge : ¬ (i : Int) ≤ (i : Int) + ((0 : Nat) : Int) - 1 := by omega
          have HM := Lib.hid (rRom T HJ.out ((i + k : Nat) : Int) (by omega) (by omega) (by omega))
          rw [gW_putB _ _ _ _ _ (Nat.le_refl k)] at HM
          have HP := Lib.hid fun w' (h : Rin P w w' (fun _ => False) g i (gW 0 k i k)) => rPut T h (numIt ((i + k : Nat) : Int)) (by omega) (by show (-9223372036854775808 : Int) ≤ ((i + k : Nat) : Int); omega) (by show ((i + k : Nat) : Int) < 9223372036854775808; omega)
          rw [show (numIt ((i + k : Nat) : Int)).n = ((i + k : Nat) : Int) from rfl, gW_putB _ _ _ _ _ (Nat.le_refl k), show putW i (gW 0 k i k) (numIt ((i + k : Nat) : Int)) = gW 0 k i k by unfold putW; rw [show (numIt ((i + k : Nat) : Int)).n = ((i + k : Nat) : Int) from rfl, gW_putB _ _ _ _ _ (Nat.le_refl k)]; rfl] at HP
          unfold It.val numIt at HP
          have HH := Lib.hid fun w' (h : Rin P w w' (fun _ => False) g i (gW 0 k i k)) => rHel T h (by omega) (gW_hits _ _ _ _ _)
          rw [gW_hold, Nat.min_self, Nat.sub_zero] at HH
          have esum : (i : Int) + (k : Int) = ((i + k : Nat) : Int) := by omega
          obtain ⟨t, ht⟩ : ∃ t, t = i + k := ⟨_, rfl⟩
          rw [← ht] at HM HP esum
          have HES := Lib.hid esum
          have HT := Lib.hid ht
          clear ht esum hl hj
          go_wp2_with fail
          rw [HES.out]
          refine HM.out.mono ?_; rintro e w3 ⟨rfl, h3, -⟩
          have H3 := Lib.hid (HP.out _ h3); clear h3 HM HP
          rw [show decide ((16 : Int) = 0) = false by decide]
          go_wp2_with fail
          rw [HES.out]
          refine H3.out.mono ?_; rintro e w4 ⟨rfl, h4, -⟩
          have H4 := Lib.hid (HH.out _ h4); clear h4 H3 HH
          go_wp2_with fail
          refine H4.out.mono ?_; rintro e w5 ⟨A, c, rfl, h5, -⟩
          have H5 := Lib.hid h5; clear h5 H4
          go_wp2_with fail
          go_loopw [11] (fun v11 wr => ∃ c : Nat, v11 = .int .i64 ((i + c : Nat) : Int) ∧ c ≤ k ∧ Hid (Rin P w wr (fun _ => False) g (i + c) (gW 0 (k - c) (i + c) k))) (fun v11 _ => (i + k) - (intOf v11).toNat)
          case atStart => exact ⟨0, rfl, Nat.zero_le _, H5⟩
          case round =>
            obtain ⟨c, rfl, hc, HC⟩ := hrel
            by_cases hl : c < k
            · have HX := Lib.hid (rNxt T HC.out (by omega))
              obtain ⟨x1, x2, x3⟩ := gW_next (k - c) (i + c) k (by omega) (by omega)
              rw [show (nextX (gW 0 (k - c) (i + c) k)) = numIt ((i + c : Nat) : Int) by unfold nextX; rw [x1]; rfl, x1, x2, x3, show (some (numIt ((i + c : Nat) : Int))).isSome = true from rfl] at HX
              unfold It.val numIt at HX
              obtain ⟨t2, ht2⟩ : ∃ t2, t2 = i + c := ⟨_, rfl⟩
              have htt : (t2 : Int) < (i : Int) + (k : Int) := by omega
              rw [← ht2] at HX ⊢
              have HT2 := Lib.hid ht2
              clear ht2 x1 x2 x3
              go_wp2_with fail
              refine HX.out.mono ?_; rintro e w6 ⟨rfl, h6, -⟩
              have H6 := Lib.hid (h6.below T ((Below.refl w6.heap.size w6).alloc (Nat.le_refl _) (.cells #[.int .i64 (t2 : Int), .int .i64 0, .int .i64 0, .int .i64 0, .string ⟨#[]⟩, .slice none 0 0, .int .i64 0] 36))).1
              clear h6 HX
              go_wp2_with fail
              have ht2 := HT2.out
              have ew : RowKit.wrap64 ((t2 : Int) + 1) = ((i + (c + 1) : Nat) : Int) := by
                unfold RowKit.wrap64
                omega
              have ew2 : (t2 : Int) + 1 = ((i + (c + 1) : Nat) : Int) := by omega
              exact ⟨⟨c + 1, by first | (rw [ew]) | (rw [ew2]), by omega, (by rw [show i + (c + 1) = t2 + 1 by omega, show k - (c + 1) = k - c - 1 by omega]; exact H6)⟩, by simp [intOf]; omega⟩
            · have hce : c = k := by omega
              subst hce
              have htt : ¬ ((i + c : Nat) : Int) < (i : Int) + (c : Int) := by omega
              have HR := Lib.hid (rRdy T HC.out (by omega))
              rw [gW_head _ _ _ _ (.inr (by omega))] at HR
              have HTI := Lib.hid fun w' (h : Rin P w w' (fun _ => False) g (i + c) (gW 0 (c - c) (i + c) c)) => rTic T h (by omega)
              have HH := Lib.hid fun w' (h : Rin P w w' (fun _ => False) g (i + c) (gW 0 (c - c) (i + c) c)) => rHel T h (by omega) (gW_hits _ _ _ _ _)
              rw [gW_hold, show min (c - c) c - 0 = 0 by omega] at HH
              obtain ⟨t2, ht2⟩ : ∃ t2, t2 = i + c := ⟨_, rfl⟩
              have e2 : (i : Int) + (c : Int) = (t2 : Int) := by omega
              rw [← ht2] at HR HTI HH HC htt ⊢
              clear ht2
              go_wp2_with fail
              refine HR.out.mono ?_; rintro e w6 ⟨rfl, h6, -⟩
              rw [show (none : Option It).isSome = false from rfl]
              have H6 := Lib.hid (HTI.out _ h6); clear h6 HR HTI
              go_wp2_with fail
              refine H6.out.mono ?_; rintro e w7 ⟨rfl, h7, -⟩
              have H7 := Lib.hid (HH.out _ h7); clear h7 H6 HH
              go_wp2_with fail
              refine H7.out.mono ?_; rintro e w8 ⟨A2, c2, rfl, h8, -⟩
              have H8 := Lib.hid h8.to; clear h8 H7
              go_wp2_with fail
              go_ret
              exact ⟨rfl, H8.out⟩
end
end Go.Proofs.Ytmpemcooianfiaa
