/- SetNamed: out of what set's calls are to answer. -/
import Derived.Test.YtiiclhkibpmgmaaAwake8
import Derived.Test.YtiiclhkibpmgmaaRngI
import Derived.Test.YtiiclhkibpmgmaaRngN
namespace Go.Proofs.Ytiiclhkibpmgmaa
open Go Go.RowKit
set_option linter.unusedVariables false

theorem namedL_snd (c r : Int) : (namedL c r).2 = (namedL c 0).2 := by
  unfold namedL
  split
  · rfl
  · split
    · rfl
    · split
      · rfl
      · split
        · rfl
        · split
          · rfl
          · split <;> rfl

set_option maxHeartbeats 4000000 in
set_option maxRecDepth 10000 in
theorem setNamed_any (F : Faces) (c r : Int) (w : World) (hc : 0 ≤ c ∧ c < 256) :
    Calls Try.prog 5 #[.int .u8 c, .int .i64 r] w fun e w' => e = .returned (.bool true) ∧ Below w.heap.size w w' := by
  have HN := Lib.hid (fun w => F.named w c hc.1 hc.2)
  have HK0 := rnamed_any c 0
  obtain ⟨b0, hb0⟩ : ∃ b0, b0 = (namedL c 0).1 := ⟨_, rfl⟩
  rw [← hb0] at HK0
  cases hok : (namedL c 0).2 with
  | false =>
    rw [hok] at HN HK0
    have HK := Lib.hid HK0
    clear HK0 hb0 hok
    go_enter Try.func5, Try.ntmps5
    go_wp2_with (first
      | (go_at_call 8; refine (awake_any F _).mono ?_; rintro e w1 ⟨rfl, hb1⟩)
      | (go_at_call 19; (with_reducible refine (HN.out w1).mono ?_); rintro e w2 ⟨V, t, rfl, ho, hcan, h0, h1⟩; have ht := h0 (by first | rfl | trivial); subst ht; obtain ⟨A, p, rfl, _, _⟩ := canon_out ho hcan; have hb2 := ho.2; clear ho hcan h0 h1)
      | (go_at_call 20; (with_reducible refine (HK.out w2).mono ?_); rintro e w' ⟨rfl, rfl⟩))
    go_ret
    exact ⟨rfl, then_ hb1 hb2⟩
  | true =>
    rw [hok] at HN HK0
    have HK := Lib.hid HK0
    clear HK0 hb0
    have HOK := Lib.hid hok
    clear hok
    go_enter Try.func5, Try.ntmps5
    go_wp2_with (first
      | (go_at_call 8; refine (awake_any F _).mono ?_; rintro e w1 ⟨rfl, hb1⟩)
      | (go_at_call 19; (with_reducible refine (HN.out w1).mono ?_); rintro e w2 ⟨V, t, rfl, ho, hcan, h0, h1⟩; obtain ⟨A, p, rfl, it, bt⟩ := canon_out ho hcan; have hb2 := ho.2; have HMt := Lib.hid (h1 (by first | rfl | trivial)); clear ho h0 h1)
      | (go_at_call 20; (with_reducible refine (HK.out w2).mono ?_); rintro e w' ⟨rfl, rfl⟩))
    obtain ⟨W, hW⟩ : ∃ W, W = w2.alloc (.cells #[.int .i64 r, .int .i64 0, .int .i64 8, .int .i64 9, .int .i64 13, .int .i64 14, .int .i64 32, .int .i64 47, .int .i64 48, .int .i64 57, .int .i64 58, .int .i64 64, .int .i64 65, .int .i64 90, .int .i64 91, .int .i64 94, .int .i64 95, .int .i64 96, .int .i64 97, .int .i64 122, .int .i64 123, .int .i64 1114111] 3) := ⟨_, rfl⟩
    rw [← hW]
    have hb3 : Below w2.heap.size w2 W := by rw [hW]; exact (Below.refl _ _).alloc (Nat.le_refl _) _
    have hrow : W.ownsRow w2.heap.size 3 1 (.slice (some ⟨w2.heap.size, 0, none⟩) 22 22) 22 (([r, 0, 8, 9, 13, 14, 32, 47, 48, 57, 58, 64, 65, 90, 91, 94, 95, 96, 97, 122, 123, 1114111] : List Int).map (.int .i64)) := by
      rw [hW]
      exact ⟨rfl, .inr ⟨w2.heap.size, 22, _, rfl, Nat.le_refl _, heap_alloc_new w2 _, Nat.le_refl _, by unfold maxLen; omega, rfl, rfl⟩⟩
    have hT := it.below hb3
    have HROW := Lib.hid hrow
    have HBB := Lib.hid (then_ (then_ hb1 hb2) hb3)
    clear hW hrow it hb1 hb2 hb3
    go_loopw [10] (fun vi wr => ∃ i : Nat, vi = .int .i64 (i : Int) ∧ i ≤ 22 ∧ wr = W) (fun vi _ => 22 - (intOf vi).toNat)
    case atStart => exact ⟨0, rfl, Nat.zero_le _, rfl⟩
    case round =>
      obtain ⟨i, rfl, hiQ, rfl⟩ := hrel
      by_cases hlt : i < 22
      · obtain ⟨g, hg, hcell⟩ := cellI HROW.out hlt
        injection hg with hg
        injection hg with hg _
        subst hg
        generalize ([r, 0, 8, 9, 13, 14, 32, 47, 48, 57, 58, 64, 65, 90, 91, 94, 95, 96, 97, 122, 123, 1114111] : List Int).getD i 0 = z at hcell
        have hok := HOK.out
        rcases (show z < 0 ∨ (0 ≤ z ∧ z ≤ 1114111) ∨ 1114111 < z by omega) with hv | ⟨hv0, hv1⟩ | hv
        · have hi : inR z = false := by unfold inR; rw [decide_eq_false (by omega)]
          have hv' : ¬ 0 ≤ z := by omega
          cases hw : (namedL c z).1 with
          | false =>
            have k1 := rnamed_any c z wr
            have k2 := rhas_any t A t.length p z wr hT.row (Nat.le_trans bt (by decide))
            rw [HMt.out z, hi] at k2
            rw [namedL_snd, hok] at k1
            rw [hw] at k1 k2
            have K1 := Lib.hid k1
            have K2 := Lib.hid k2
            clear k1 k2 hw hi
            go_wp2_with (first | (go_at_call 20; (with_reducible refine K1.out.mono ?_); rintro e w' ⟨rfl, rfl⟩) | (go_at_call 14; (with_reducible refine K2.out.mono ?_); rintro e w' ⟨rfl, rfl⟩))
            exact ⟨⟨i + 1, by go_num, by omega, trivial⟩, by simp [intOf]; omega⟩
          | true =>
            have k1 := rnamed_any c z wr
            have k2 := rhas_any t A t.length p z wr hT.row (Nat.le_trans bt (by decide))
            rw [HMt.out z, hi] at k2
            rw [namedL_snd, hok] at k1
            rw [hw] at k1 k2
            have K1 := Lib.hid k1
            have K2 := Lib.hid k2
            clear k1 k2 hw hi
            go_wp2_with (first | (go_at_call 20; (with_reducible refine K1.out.mono ?_); rintro e w' ⟨rfl, rfl⟩) | (go_at_call 14; (with_reducible refine K2.out.mono ?_); rintro e w' ⟨rfl, rfl⟩))
            exact ⟨⟨i + 1, by go_num, by omega, trivial⟩, by simp [intOf]; omega⟩
        · have hi : inR z = true := by unfold inR; rw [decide_eq_true (by omega)]
          cases hw : (namedL c z).1 with
          | false =>
            have k1 := rnamed_any c z wr
            have k2 := rhas_any t A t.length p z wr hT.row (Nat.le_trans bt (by decide))
            rw [HMt.out z, hi] at k2
            rw [namedL_snd, hok] at k1
            rw [hw] at k1 k2
            have K1 := Lib.hid k1
            have K2 := Lib.hid k2
            clear k1 k2 hw hi
            go_wp2_with (first | (go_at_call 20; (with_reducible refine K1.out.mono ?_); rintro e w' ⟨rfl, rfl⟩) | (go_at_call 14; (with_reducible refine K2.out.mono ?_); rintro e w' ⟨rfl, rfl⟩))
            exact ⟨⟨i + 1, by go_num, by omega, trivial⟩, by simp [intOf]; omega⟩
          | true =>
            have k1 := rnamed_any c z wr
            have k2 := rhas_any t A t.length p z wr hT.row (Nat.le_trans bt (by decide))
            rw [HMt.out z, hi] at k2
            rw [namedL_snd, hok] at k1
            rw [hw] at k1 k2
            have K1 := Lib.hid k1
            have K2 := Lib.hid k2
            clear k1 k2 hw hi
            go_wp2_with (first | (go_at_call 20; (with_reducible refine K1.out.mono ?_); rintro e w' ⟨rfl, rfl⟩) | (go_at_call 14; (with_reducible refine K2.out.mono ?_); rintro e w' ⟨rfl, rfl⟩))
            exact ⟨⟨i + 1, by go_num, by omega, trivial⟩, by simp [intOf]; omega⟩
        · have hi : inR z = false := by unfold inR; rw [decide_eq_false (by omega)]
          have hv0 : 0 ≤ z := by omega
          have hv' : ¬ z ≤ 1114111 := by omega
          cases hw : (namedL c z).1 with
          | false =>
            have k1 := rnamed_any c z wr
            have k2 := rhas_any t A t.length p z wr hT.row (Nat.le_trans bt (by decide))
            rw [HMt.out z, hi] at k2
            rw [namedL_snd, hok] at k1
            rw [hw] at k1 k2
            have K1 := Lib.hid k1
            have K2 := Lib.hid k2
            clear k1 k2 hw hi
            go_wp2_with (first | (go_at_call 20; (with_reducible refine K1.out.mono ?_); rintro e w' ⟨rfl, rfl⟩) | (go_at_call 14; (with_reducible refine K2.out.mono ?_); rintro e w' ⟨rfl, rfl⟩))
            exact ⟨⟨i + 1, by go_num, by omega, trivial⟩, by simp [intOf]; omega⟩
          | true =>
            have k1 := rnamed_any c z wr
            have k2 := rhas_any t A t.length p z wr hT.row (Nat.le_trans bt (by decide))
            rw [HMt.out z, hi] at k2
            rw [namedL_snd, hok] at k1
            rw [hw] at k1 k2
            have K1 := Lib.hid k1
            have K2 := Lib.hid k2
            clear k1 k2 hw hi
            go_wp2_with (first | (go_at_call 20; (with_reducible refine K1.out.mono ?_); rintro e w' ⟨rfl, rfl⟩) | (go_at_call 14; (with_reducible refine K2.out.mono ?_); rintro e w' ⟨rfl, rfl⟩))
            exact ⟨⟨i + 1, by go_num, by omega, trivial⟩, by simp [intOf]; omega⟩
      · have hiq : i = 22 := by omega
        subst hiq
        have hr1 := rright_any t A t.length p wr hT.row (Nat.le_trans bt (by decide))
        rw [(canonB_all t).2 hcan] at hr1
        have HR1 := Lib.hid hr1
        clear hr1
        go_wp2_with (go_at_call 10; (with_reducible refine HR1.out.mono ?_); rintro e w9 ⟨rfl, q, rfl⟩)
        go_ret
        exact ⟨rfl, below_drewN HBB.out q⟩
end Go.Proofs.Ytiiclhkibpmgmaa
