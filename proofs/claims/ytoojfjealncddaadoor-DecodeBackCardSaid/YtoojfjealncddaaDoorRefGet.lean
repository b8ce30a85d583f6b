/- The contract of the document's own Get. -/
import Derived.Test.YtoojfjealncddaaDoorValue
import Derived.Test.YtoojfjealncddaaDoorRefA
import Derived.Test.YtoojfjealncddaaDoorMem
import Derived.Deep.RegionHeld
import Derived.WalkSpells
import Derived.Deep.QuietTactic
import Derived.BigQuiet
namespace Go.Proofs.YtoojfjealncddaaDoor
open Go Go.RowKit

/-- Do the first n octets be a code point's? -/
def okI (l : List Int) (n : Nat) : Bool := decide (n ≤ l.length) && isI (valI (l.take n)) && decide (putI (valI (l.take n)) = l.take n)
def rgetF (l : List Int) : Nat → Nat → Int × Int
  | 0, _ => (65533, 1)
  | f + 1, n => if okI l n = true then (valI (l.take n), n) else rgetF l f (n + 1)

theorem rgetF_end (l : List Int) : ∀ (f n : Nat), l.length < n → rgetF l f n = (65533, 1)
  | 0, _, _ => rfl
  | f + 1, n, h => by
    unfold rgetF
    have : okI l n = false := by unfold okI; rw [decide_eq_false (by omega)]; rfl
    rw [this]
    simp only [Bool.false_eq_true, if_false]
    exact rgetF_end l f (n + 1) (by omega)
theorem nums_extract (s : ByteArray) (k : Nat) : nums (s.extract 0 k) = (nums s).take k := by
  unfold nums
  rw [← List.map_take]
  congr 1
  simp [ByteArray.data_extract]
theorem putI_byte (r : Int) (h : isI r = true) : ∀ c ∈ putI r, 0 ≤ c ∧ c < 256 := by
  have h0 := isI_cases h
  intro c hc
  unfold putI at hc
  (repeat' split at hc) <;> simp at hc <;> omega
/-- Two strings, as their octets' numbers. -/
theorem str_cmp (x : List Int) (s : ByteArray) (hx : ∀ c ∈ x, 0 ≤ c ∧ c < 256) {y : List Int} (hs : nums s = y) : ((strOfNums x).toList == s.toList) = decide (x = y) := by
  subst hs
  rw [Bool.eq_iff_iff, beq_iff_eq, decide_eq_true_iff, ByteArray.toList_eq, ByteArray.toList_eq]
  constructor
  · intro h
    have e : strOfNums x = s := ByteArray.ext (Array.toList_inj.1 h)
    rw [← e, nums_strOfNums x hx]
  · intro h
    rw [h, strOfNums_nums]

theorem refGet_nil (s : ByteArray) (w : World) (h : s.size = 0) : Calls Tryd.prog 18 #[.string s] w fun e w' => e = .returned (.tuple #[.int .i64 65533, .int .i64 0]) ∧ Below w.heap.size w w' := by
  go_enter Tryd.func18, Tryd.ntmps18
  go_wp2
  go_ret2
  exact ⟨rfl, Below.refl _ _⟩

set_option maxHeartbeats 1000000 in
theorem refGet_some (s : ByteArray) (w : World) (h1 : 1 ≤ s.size) (hm : s.size ≤ maxLen) :
    Calls Tryd.prog 18 #[.string s] w fun e w' => e = .returned (.tuple #[.int .i64 (rgetF (nums s) 4 1).1, .int .i64 (rgetF (nums s) 4 1).2]) ∧ Below w.heap.size w w' := by
  unfold maxLen at hm
  have hz : ((s.size : Int) == 0) = false := by rw [beq_eq_false_iff_ne]; omega
  obtain ⟨G, hG⟩ : ∃ G, G = rgetF (nums s) 4 1 := ⟨_, rfl⟩
  rw [← hG]
  have HG := Lib.hid hG; clear hG
  go_enter Tryd.func18, Tryd.ntmps18
  go_wp2
  go_loopw [4] (fun vi wr => ∃ (k : Nat), 1 ≤ k ∧ k ≤ 5 ∧ vi = .int .i64 k ∧ Hid (rgetF (nums s) (5 - k) k = G) ∧ Below w.heap.size w wr) (fun vi _ => 5 - (intOf vi).toNat)
  case atStart => exact ⟨1, by omega, by omega, rfl, Lib.hid HG.out.symm, Below.refl _ _⟩
  case round =>
    obtain ⟨k, hk1, hk5, rfl, HK, hbel⟩ := hrel
    by_cases hk : k ≤ 4
    · by_cases hks : k ≤ s.size
      · have hsz : (s.extract 0 k).size = k := by rw [ByteArray.size_extract]; omega
        have hv := value_any (s.extract 0 k)
        rw [nums_extract] at hv
        have hok : okI (nums s) k = (isI (valI ((nums s).take k)) && decide (putI (valI ((nums s).take k)) = (nums s).take k)) := by
          unfold okI; rw [nums_length, decide_eq_true hks, Bool.true_and]
        have hstep : rgetF (nums s) (5 - k) k = if okI (nums s) k = true then (valI ((nums s).take k), (k : Int)) else rgetF (nums s) (5 - (k + 1)) (k + 1) := by
          rw [show 5 - k = (5 - (k + 1)) + 1 by omega]; rfl
        rw [HK.out, hok] at hstep
        clear hok
        have hcmp : ∀ x : List Int, (∀ c ∈ x, 0 ≤ c ∧ c < 256) → ((strOfNums x).toList == (s.extract 0 k).toList) = decide (x = (nums s).take k) := fun x hx => str_cmp x _ hx (nums_extract s k)
        obtain ⟨v, hv'⟩ : ∃ v, v = valI ((nums s).take k) := ⟨_, rfl⟩
        rw [← hv'] at hv hstep
        have HSZ := Lib.hid hsz; clear hsz
        have HV := Lib.hid hv; clear hv
        have HST := Lib.hid hstep; clear hstep
        have HCM := Lib.hid hcmp; clear hcmp
        clear hv'
        rcases hi : isI v with _ | _
        · have ia := fun w => (refIs_any v w)
          rw [hi] at ia
          have HI := Lib.hid hi; clear hi
          have HIA := Lib.hid ia; clear ia
          go_wp2_with fail
          refine (HV.out _ (by rw [HSZ.out]; omega) (by rw [HSZ.out]; omega)).mono ?_; rintro e w' ⟨rfl, rfl⟩
          go_wp2_with fail
          go_quiet ((go_at_call 21; exact Calls.quiet_of_same ((HIA.out _).mono fun e w' ⟨he, hw⟩ => ⟨he, hw.symm⟩)))
          go_wp2
          refine ⟨⟨k + 1, by omega, by omega, by go_num, Lib.hid ?_, below_drewN hbel nq⟩, by simp [intOf]; omega⟩
          have := HST.out
          rw [HI.out] at this
          simp only [Bool.false_and, Bool.false_eq_true, if_false] at this
          exact this.symm
        · have ia := fun w => (refIs_any v w)
          rw [hi] at ia
          have hp := fun w => refPut_is v w hi
          have hcm := HCM.out (putI v) (putI_byte v hi)
          have HI := Lib.hid hi; clear hi
          have HIA := Lib.hid ia; clear ia
          have HP := Lib.hid hp; clear hp
          by_cases heq : putI v = (nums s).take k
          · rw [decide_eq_true heq] at hcm
            have HGG : Hid (G = (v, (k : Int))) := by
              have := HST.out
              rw [HI.out, decide_eq_true heq] at this
              simp only [Bool.true_and, if_true] at this
              exact this
            clear heq
            go_wp2_with fail
            refine (HV.out _ (by rw [HSZ.out]; omega) (by rw [HSZ.out]; omega)).mono ?_; rintro e w' ⟨rfl, rfl⟩
            go_wp2_with fail
            go_region_held (fun _ => True) (trivial) (first
              | (go_at_call 21; refine (HIA.out _).mono ?_; rintro e w' ⟨rfl, rfl⟩)
              | (go_at_call 10; refine (HP.out _).mono ?_; rintro e w2 ⟨rfl, hb2⟩))
            all_goals
              go_wp2
              go_ret2
              exact ⟨by rw [HGG.out]; rfl, hbel.trans (Below.mono (((Below.refl wr.heap.size wr).drew).trans hb2) hbel.size)⟩
          · rw [decide_eq_false heq] at hcm
            have HGG : Hid (G = rgetF (nums s) (5 - (k + 1)) (k + 1)) := by
              have := HST.out
              rw [HI.out, decide_eq_false heq] at this
              simp only [Bool.true_and, Bool.false_eq_true, if_false] at this
              exact this
            clear heq
            go_wp2_with fail
            refine (HV.out _ (by rw [HSZ.out]; omega) (by rw [HSZ.out]; omega)).mono ?_; rintro e w' ⟨rfl, rfl⟩
            go_wp2_with fail
            go_region_held (fun _ => True) (trivial) (first
              | (go_at_call 21; refine (HIA.out _).mono ?_; rintro e w' ⟨rfl, rfl⟩)
              | (go_at_call 10; refine (HP.out _).mono ?_; rintro e w2 ⟨rfl, hb2⟩))
            all_goals
              go_wp2
              refine ⟨⟨k + 1, by omega, by omega, by go_num, Lib.hid HGG.out.symm, hbel.trans (Below.mono (((Below.refl wr.heap.size wr).drew).trans hb2) hbel.size)⟩, by simp [intOf]; omega⟩
      · have HE : Hid (G = (65533, 1)) := Lib.hid (by rw [← HK.out]; exact rgetF_end _ _ _ (by rw [nums_length]; omega))
        go_wp2
        go_ret2
        exact ⟨by rw [HE.out]; rfl, hbel⟩
    · obtain rfl : k = 5 := by omega
      have HE : Hid (G = (65533, 1)) := Lib.hid (by rw [← HK.out]; rfl)
      go_wp2
      go_ret2
      exact ⟨by rw [HE.out]; rfl, hbel⟩
end Go.Proofs.YtoojfjealncddaaDoor
