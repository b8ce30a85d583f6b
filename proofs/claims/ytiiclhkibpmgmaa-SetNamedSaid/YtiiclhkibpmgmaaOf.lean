/- The program's Of: a set made of ranges. -/
import Derived.Test.YtiiclhkibpmgmaaClip
import Derived.Test.YtiiclhkibpmgmaaSortG
import Derived.BigQuiet
import Derived.BigRegion
namespace Go.Proofs.Ytiiclhkibpmgmaa
open Go Go.RowKit
set_option linter.unusedVariables false

set_option maxHeartbeats 4000000 in
theorem of_any (s : List (Int × Int)) (A : Option Addr) (n c : Nat) (W : World) (hin : RowG W A n s) (hn : n ≤ 2000000) :
    Calls Try.prog 9 #[.slice A n c] W fun e w' => ∃ V t, e = .returned V ∧ OutG W w' V t ∧ Canon t ∧ ∀ r, hasL t r = hasL s r := by
  have HC := Lib.hid (clip_any s A n c W hin hn)
  have HSL := Lib.hid hin.1
  clear hin
  go_enter Try.func9, Try.ntmps9
  go_wp2_with (first
    | (go_at_call 23; refine HC.out.mono ?_; rintro e w1 ⟨P, q, pc, rfl, hown, hb1⟩; have HQ := Lib.hid (show q = (clipL s).length by { have := hown.1; rw [cellsG_length] at this; omega }); have hqn : q ≤ 2000000 := by { have := clipL_length s; have := HQ.out; have := HSL.out; omega }; have HB1 := Lib.hid hb1; have HS := Lib.hid (sort_any hown (by omega)); clear hown hb1)
    | (go_at_call 24; refine HS.out.mono ?_; rintro e w2 ⟨rfl, t, hperm, hsort, hrow, hb2⟩; have hwf : ∀ p ∈ t, 0 ≤ p.1 ∧ p.1 ≤ p.2 ∧ p.2 ≤ 1114111 := (fun p hp => clipL_mem (hperm.mem_iff.1 hp)); have HT := Lib.hid (And.intro hrow (And.intro hsort (And.intro hwf (show ∀ r, hasL t r = hasL s r from fun r => (hasL_perm hperm r).trans (clipL_has s r))))); have HB2 := Lib.hid (HB1.out.trans (hb2.mono (Nat.le_refl _))); clear hperm hsort hrow hb2 hwf))
  go_loopw [4, 14] (fun vo vi wr => ∃ (k m pc2 : Nat) (P2 : Option Addr) (u : List (Int × Int)), vo = .slice P2 m pc2 ∧ vi = .int .i64 (k : Int) ∧ k ≤ q ∧ m ≤ k ∧ Hid (wr.ownsRow w2.heap.size 39 2 (.slice P2 m pc2) m (cellsG u) ∧ Below w2.heap.size w2 wr ∧ Half t k u)) (fun _ vi _ => q - (intOf vi).toNat)
  case atStart => exact ⟨0, 0, 0, none, [], rfl, rfl, Nat.zero_le _, Nat.le_refl _, Lib.hid ⟨nilG _ _, Below.refl _ _, half_zero t⟩⟩
  case round =>
    obtain ⟨k, m, pc2, P2, u, rfl, rfl, hk, hm, HO⟩ := hrel
    by_cases hlt : k < q
    · obtain ⟨b, o, rfl, hbw, hc⟩ := HT.out.1.2 (by omega)
      obtain ⟨c0, c1⟩ := hc k hlt
      have d0 := (HO.out.2.1.cell (p := ⟨b, o + k * 2, none⟩) hbw).trans c0
      have d1 := (HO.out.2.1.cell (p := ⟨b, o + k * 2 + 1, none⟩) hbw).trans c1
      have hkt : k < t.length := by have := HT.out.1.1; omega
      obtain ⟨p, hp⟩ : ∃ p, p = t.getD k (0, 0) := ⟨_, rfl⟩
      rw [← hp] at d0 d1
      obtain ⟨x, y⟩ := p
      have HP := Lib.hid hp
      have hal := (Below.refl wr.heap.size wr).alloc (Nat.le_refl _) (.cells #[.int .i64 x, .int .i64 y] 39)
      have HKT := Lib.hid hkt
      clear hc c0 c1 hp hkt
      dsimp only at d0 d1
      rcases List.eq_nil_or_concat u with rfl | ⟨v, ⟨z0, z⟩, rfl⟩
      · have hm0 : m = 0 := by have := HO.out.1.1; simp [cellsG] at this; omega
        subst hm0
        have HAL := Lib.hid hal
        clear hal
        go_wp2
        go_quiet (fail)
        have hb3 : Below wr.heap.size wr ((wr.alloc (.cells #[.int .i64 x, .int .i64 y] 39)).drewN nq) := below_drewN HAL.out nq
        obtain ⟨P', pc', w', happ, hown, hbel⟩ := push_rngs (ownG_kept HO.out.1 hb3) [(x, y)] (by omega) (by simp) (then_ HO.out.2.1 hb3)
        rw [show ((wr.alloc (.cells #[.int .i64 x, .int .i64 y] 39)).drewN nq).heap.size = wr.heap.size + 1 by simp] at happ
        have hh := half_push HO.out.2.2 HKT.out HT.out.2.1 HT.out.2.2.1 (fun q' hq' => by cases hq')
        rw [← HP.out] at hh
        have HA := Lib.hid happ
        have H2 := Lib.hid (And.intro hown (And.intro hbel hh))
        clear happ hown hbel hb3 hh
        go_wp2_with (at_builtin; refine wpList_append_run rfl _ _ 22 rfl rfl _ _ _ _ rfl rfl HA.out ?_)
        exact ⟨⟨k + 1, 0 + 1, pc', P', _, rfl, by go_num, by omega, by omega, H2⟩, by simp [intOf]; omega⟩
      · rw [List.concat_eq_append] at HO
        obtain ⟨g, rfl, hmv, hg0, hg1, _, _, c0, c1, hfz, hst⟩ := last_own (ownG_kept HO.out.1 hal) (then_ HO.out.2.1 hal)
        obtain ⟨_, _, hz1, hz2⟩ := (canonF_snoc (z0, z) v 0).1 HO.out.2.2.1
        have hmv2 : v.length = m - 1 := by omega
        rw [hmv2] at c0 c1 hfz hst
        dsimp only at c0 c1
        have hz0 : -1 ≤ z0 := by
          have := CanonF.wf (Int.le_refl _) HO.out.2.2.1 (z0, z) (by simp)
          dsimp only at this; omega
        have hw : IntKind.i64.wrap (z + 1) = z + 1 := by rw [IntKind.wrap_i64]; dsimp only at hz1 hz2; omega
        have hw2 : IntKind.i64.wrap ((m : Int) - 1) = (m : Int) - 1 := by rw [IntKind.wrap_i64]; omega
        have b1 : (0 : Int) ≤ (m : Int) - 1 := by omega
        have b2 : (m : Int) - 1 < (m : Int) := by omega
        have b3 : ((m : Int) - 1).toNat = m - 1 := by omega
        have b4 : (0 : Int) < (m : Int) := by omega
        have d4 : decide (0 < m) = true := decide_eq_true (by omega)
        have HMV := Lib.hid (And.intro hmv hmv2)
        have HST := Lib.hid hst
        have HAL := Lib.hid hal
        clear hmv hmv2 hst hz0 hg0 hz1 hz2 hal
        by_cases hxz : x ≤ z + 1
        · have d5 : decide (x ≤ z + 1) = true := by simpa using hxz
          go_wp2
          go_quiet (fail)
          go_wp2
          go_region
          have hb3 : Below wr.heap.size wr ((wr.alloc (.cells #[.int .i64 x, .int .i64 y] 39)).drewN (nq + 1)) := below_drewN HAL.out (nq + 1)
          obtain ⟨g', hgg, hmv, _, _, _, _, _, _, _, hst⟩ := last_own (ownG_kept HO.out.1 hb3) (then_ HO.out.2.1 hb3)
          injection hgg with hgg
          injection hgg with hgg
          subst hgg
          rw [HMV.out.2] at hst
          have hh := half_join HO.out.2.2 HKT.out HT.out.2.2.1 (by rw [← HP.out]; exact hxz)
          rw [← HP.out] at hh
          have H2 := Lib.hid (And.intro (hst (max z y)).1 (And.intro (hst (max z y)).2 hh))
          clear hmv hst hb3 hh
          go_wp2
          exact ⟨⟨k + 1, m, pc2, _, _, rfl, by go_num, by omega, by omega, H2⟩, by simp [intOf]; omega⟩
        · have d5 : decide (x ≤ z + 1) = false := by simpa using hxz
          go_wp2
          go_quiet (fail)
          have hb3 : Below wr.heap.size wr ((wr.alloc (.cells #[.int .i64 x, .int .i64 y] 39)).drewN nq) := below_drewN HAL.out nq
          obtain ⟨P', pc', w', happ, hown, hbel⟩ := push_rngs (ownG_kept HO.out.1 hb3) [(x, y)] (by omega) (by simp) (then_ HO.out.2.1 hb3)
          rw [show ((wr.alloc (.cells #[.int .i64 x, .int .i64 y] 39)).drewN nq).heap.size = wr.heap.size + 1 by simp] at happ
          have hh := half_push HO.out.2.2 HKT.out HT.out.2.1 HT.out.2.2.1 (fun q' hq' => by
            rw [← HP.out]
            have e : q' = (z0, z) := by simpa using hq'.symm
            rw [e]
            dsimp only
            omega)
          rw [← HP.out] at hh
          have HA := Lib.hid happ
          have H2 := Lib.hid (And.intro hown (And.intro hbel hh))
          clear happ hown hbel hb3 hh
          go_wp2_with (at_builtin; refine wpList_append_run rfl _ _ 22 rfl rfl _ _ _ _ rfl rfl HA.out ?_)
          exact ⟨⟨k + 1, m + 1, pc', P', _, rfl, by go_num, by omega, by omega, H2⟩, by simp [intOf]; omega⟩
    · have hkq : k = q := by omega
      subst hkq
      have HF := Lib.hid (show Canon u ∧ ∀ r, hasL u r = hasL s r from ⟨HO.out.2.2.1, fun r => (HO.out.2.2.2.1 r).trans (by rw [List.take_of_length_le (by have := HT.out.1.1; omega)]; exact HT.out.2.2.2 r)⟩)
      go_wp2
      go_ret
      have e : m = u.length := by have := HO.out.1.1; rw [cellsG_length] at this; omega
      subst e
      exact ⟨_, u, rfl, ⟨row_base HO.out.1 (fun j hj => Nat.le_trans HB2.out.size (row_lt HO.out.1 hj).1), HB2.out.trans (HO.out.2.1.mono HB2.out.size)⟩, HF.out.1, HF.out.2⟩
end Go.Proofs.Ytiiclhkibpmgmaa
