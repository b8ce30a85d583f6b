/- The contract of the document's own Open, where it tries what could come behind. -/
import Derived.Test.YtgkkflfkmedapaaRefOpen
namespace Go.Proofs.Ytgkkflfkmedapaa
open Go Go.RowKit

theorem nums_append (a b : ByteArray) : nums (a ++ b) = nums a ++ nums b := by
  unfold nums
  rw [← List.map_append]
  congr 1

set_option maxHeartbeats 2000000 in
theorem open_loop (s : ByteArray) (r n x v : Int) (eqb : Bool) (w : World) (hz : (s.toList == ([] : List UInt8)) = false) (hn : ¬ 1 < n) (h1 : 1 ≤ s.size) (h3 : s.size ≤ 3) (hxp : 128 ≤ x) (hxq : x < 256) (hvx : (v == x) = eqb)
    (hx0 : ∀ w, (Instr.index 9 (.string s) (.int .i64 0)).run Try.prog w = .ok (.int .u8 x) w)
    (hv : ∀ w, Calls Try.prog 30 #[.string (s.extract 0 1)] w fun e w' => e = .returned (.int .i64 v) ∧ w = w')
    (hg : ∀ w, Calls Try.prog 17 #[.string s] w fun e w' => e = .returned (.tuple #[.int .i64 r, .int .i64 n]) ∧ Below w.heap.size w w') :
    Calls Try.prog 19 #[.string s] w fun e w' => e = .returned (.bool (tries (nums s) (4 - s.size) 1)) ∧ Below w.heap.size w w' := by
  have HG := Lib.hid hg; clear hg
  have HV := Lib.hid hv; clear hv
  obtain ⟨T, hT⟩ : ∃ T, T = tries (nums s) (4 - s.size) 1 := ⟨_, rfl⟩
  rw [← hT]
  have HT := Lib.hid hT; clear hT
  have hst := str1
  have HST := Lib.hid hst; clear hst
  have hd : decide (1 < n) = false := by simpa using hn
  have hd2 : decide ((3 : Int) < (s.size : Int)) = false := by simp; omega
  have hd3 : decide (x < 128) = false := by simp; omega
  have hi1 : (1 : Int) ≤ (s.size : Int) := by omega
  have hl := nums_length s
  have HL := Lib.hid hl; clear hl
  rcases eqb with _ | _
  all_goals
    go_enter Try.func19, Try.ntmps19
    go_wp2_with fail
    refine (HG.out _).mono ?_; rintro e w1 ⟨rfl, hb⟩
    go_wp2_with fail
    go_quiet ((go_at_call 30; exact Calls.quiet_of_same ((HV.out _).mono fun e w' ⟨he, hw⟩ => ⟨he, hw.symm⟩)))
    go_wp2
    have hb2 := below_drewN hb nq
    generalize w1.drewN nq = w2 at *
    clear hb
    go_loopw [5] (fun vk wr => ∃ k : Nat, 1 ≤ k ∧ k + s.size ≤ 5 ∧ vk = .int .i64 k ∧ Hid (tries (nums s) (5 - s.size - k) k = T) ∧ Below w.heap.size w wr) (fun vk _ => 5 - (intOf vk).toNat)
    case atStart => exact ⟨1, by omega, by omega, rfl, Lib.hid (by rw [HT.out, show 5 - s.size - 1 = 4 - s.size by omega]), hb2⟩
    case round =>
      obtain ⟨k, hk1, hk5, rfl, HK, hbel⟩ := hrel
      obtain ⟨wo, hwo⟩ : ∃ wo : World, wo = wr := ⟨_, rfl⟩
      subst hwo
      by_cases hk : k + s.size ≤ 4
      · have hdk : decide ((s.size : Int) + (k : Int) ≤ 4) = true := by simp; omega
        go_wp2
        go_loopw [6] (fun vi wr => ∃ i : Nat, i ≤ 2 ∧ vi = .int .i64 i ∧ Hid (1 ≤ i → tailOk (nums s) k 128 = false) ∧ Hid (2 ≤ i → tailOk (nums s) k 191 = false) ∧ Below w.heap.size w wr) (fun vi _ => 2 - (intOf vi).toNat)
        case atStart => exact ⟨0, by omega, rfl, Lib.hid (by omega), Lib.hid (by omega), hbel⟩
        case round =>
          obtain ⟨i, hi2, rfl, HI1, HI2, hbeli⟩ := hrel
          obtain ⟨wi, hwi⟩ : ∃ wi : World, wi = wr := ⟨_, rfl⟩
          subst hwi
          by_cases hi : i < 2
          · have hk3 : k ≤ 3 := by omega
            have hdi : decide ((i : Int) < 2) = true := by simp; omega
            go_wp2
            go_loopw [7, 8] (fun vx vj wr => ∃ (j : Nat) (X : ByteArray), j ≤ k ∧ vj = .int .i64 j ∧ vx = .string X ∧ Hid (nums X = nums s ++ List.replicate j (128 + 63 * (i : Int))) ∧ Below w.heap.size w wr) (fun _ vj _ => k - (intOf vj).toNat)
            case atStart => exact ⟨0, s, by omega, rfl, rfl, Lib.hid (by simp), hbeli⟩
            case round =>
              obtain ⟨j, X, hjk, rfl, rfl, HX, hbelj⟩ := hrel
              obtain ⟨wj, hwj⟩ : ∃ wj : World, wj = wr := ⟨_, rfl⟩
              subst hwj
              have hXs : X.size = s.size + j := by
                have := congrArg List.length HX.out
                rw [nums_length, List.length_append, nums_length, List.length_replicate] at this
                exact this
              by_cases hj : j < k
              · have hcat : ¬ 9223372036854775807 < X.size + (strOfNums [128 + 63 * (i : Int)]).size := by rw [strOfNums_size, hXs]; simp; omega
                clear hXs
                have hs1 := HST.out wj.heap.size (128 + 63 * (i : Int)) wj rfl
                go_wp2
                refine ⟨⟨j + 1, _, by omega, by go_num, rfl, Lib.hid ?_, hbelj.trans (Below.mono (B := wj.heap.size) (by go_grown) hbelj.size)⟩, by simp [intOf]; omega⟩
                rw [nums_append, HX.out, nums_strOfNums _ (by intro c hc; simp at hc; omega), List.append_assoc, List.replicate_succ']
              · obtain rfl : j = k := by omega
                have hgx := fun w => refGet_any X w (by unfold maxLen; omega)
                rw [HX.out] at hgx
                obtain ⟨g1, hg1⟩ : ∃ g, g = (getI (nums s ++ List.replicate j (128 + 63 * (i : Int)))).1 := ⟨_, rfl⟩
                obtain ⟨g2, hg2⟩ : ∃ g, g = (getI (nums s ++ List.replicate j (128 + 63 * (i : Int)))).2 := ⟨_, rfl⟩
                rw [← hg1, ← hg2] at hgx
                have HGX := Lib.hid hgx; clear hgx hg1
                have HG2 := Lib.hid hg2; clear hg2
                have HXS := Lib.hid hXs
                have hok : tailOk (nums s) j (128 + 63 * (i : Int)) = (decide (g2 = (s.size : Int) + j) && decide (1 < g2)) := by
                  unfold tailOk; rw [← HG2.out, nums_length]
                have HOK := Lib.hid hok; clear hok
                by_cases hgo : g2 = (s.size : Int) + j
                · have e1 : (g2 == (X.size : Int)) = true := by rw [beq_iff_eq, hXs]; omega
                  have e2 : decide (1 < g2) = true := by simp; omega
                  have hTT : Hid (T = true) := Lib.hid (by
                    have h1 : tailOk (nums s) j (128 + 63 * (i : Int)) = true := by rw [HOK.out, decide_eq_true hgo, e2]; rfl
                    rw [← HK.out, show 5 - s.size - j = (4 - s.size - j) + 1 by omega, tries]
                    rcases (show i = 0 ∨ i = 1 by omega) with h | h
                    · subst h; simp at h1; rw [h1]; rfl
                    · subst h; simp at h1; rw [h1, Bool.or_true, Bool.true_or])
                  clear hgo hXs
                  go_wp2_with fail
                  refine (HGX.out _).mono ?_; rintro e w3 ⟨rfl, hb3⟩
                  go_wp2_with fail
                  go_ret
                  exact ⟨by rw [hTT.out]; rfl, hbelj.trans (Below.mono hb3 hbelj.size)⟩
                · have e1 : (g2 == (X.size : Int)) = false := by rw [beq_eq_false_iff_ne, hXs]; omega
                  have hTF : tailOk (nums s) j (128 + 63 * (i : Int)) = false := by rw [HOK.out, decide_eq_false hgo]; rfl
                  have HTF := Lib.hid hTF; clear hTF
                  clear hgo hXs
                  go_wp2_with fail
                  refine (HGX.out _).mono ?_; rintro e w3 ⟨rfl, hb3⟩
                  go_wp2_with fail
                  refine ⟨⟨i + 1, by omega, by go_num, Lib.hid ?_, Lib.hid ?_, hbelj.trans (Below.mono hb3 hbelj.size)⟩, by simp [intOf]; omega⟩
                  · intro _
                    rcases (show i = 0 ∨ 1 ≤ i by omega) with h | h
                    · subst h; simpa using HTF.out
                    · exact HI1.out h
                  · intro h2
                    obtain rfl : i = 1 := by omega
                    simpa using HTF.out
          · obtain rfl : i = 2 := by omega
            have hstep : Hid (tries (nums s) (5 - s.size - (k + 1)) (k + 1) = T) := Lib.hid (by
              rw [← HK.out, show 5 - s.size - k = (5 - s.size - (k + 1)) + 1 by omega, tries, HI1.out (by omega), HI2.out (by omega)]
              rfl)
            go_wp2
            refine ⟨⟨k + 1, by omega, by omega, by go_num, hstep, hbeli⟩, by simp [intOf]; omega⟩
      · have hT0 : Hid (T = false) := Lib.hid (by rw [← HK.out, show 5 - s.size - k = 0 by omega]; rfl)
        go_wp2
        go_ret
        exact ⟨by rw [hT0.out]; rfl, hbel⟩
end Go.Proofs.Ytgkkflfkmedapaa
