/- open: do octets behind tell what stands ahead? unit. -/
import Derived.Test.YtoojfjealncddaaDoorSpec
import Derived.Test.YtoojfjealncddaaDoorPoint
import Derived.Test.YtoojfjealncddaaDoorConcat
import Derived.BigRegion
namespace Go.Proofs.YtoojfjealncddaaDoor
open Go Go.RowKit
set_option linter.unusedVariables false

theorem encL_pair_len {k : Int} (hk : k = 2 ∨ k = 3) : (encL k [65536]).length = 4 := by
  rcases hk with rfl | rfl
  · rw [pair2]; rfl
  · rw [pair3]; rfl
theorem encL_pair_byte {k : Int} (hk : k = 2 ∨ k = 3) : ∀ c ∈ encL k [65536], 0 ≤ c ∧ c < 256 := by
  rcases hk with rfl | rfl
  · rw [pair2]; decide
  · rw [pair3]; decide

theorem open_short (k : Int) (A : Option Addr) (h c : Nat) (w : World) (hh : h < 2) :
    Calls Tryd.prog 34 #[.int .i64 k, .slice A h c] w fun e w' => e = .returned (.bool true) ∧ w' = w := by
  have d : decide ((h : Int) < 2) = true := by simp; omega
  go_enter Tryd.func34, Tryd.ntmps34
  go_wp2_with fail
  go_ret
  exact ⟨rfl, rfl⟩
theorem open_long (k : Int) (A : Option Addr) (h c : Nat) (w : World) (hh : 3 < h) (h2 : h ≤ 4) :
    Calls Tryd.prog 34 #[.int .i64 k, .slice A h c] w fun e w' => e = .returned (.bool false) ∧ w' = w := by
  have d : decide ((h : Int) < 2) = false := by simp; omega
  have d2 : decide ((3 : Int) < (h : Int)) = true := by simp; omega
  go_enter Tryd.func34, Tryd.ntmps34
  go_wp2_with fail
  go_ret
  exact ⟨rfl, rfl⟩

set_option maxHeartbeats 1000000 in
theorem open_mid (k : Int) (hk : k = 2 ∨ k = 3) (A : Option Addr) (h c : Nat) (xs : List Int) (w : World) (hh : h = 2 ∨ h = 3) (hr : RowI .u8 w A h xs) (hby : ∀ c ∈ xs, 0 ≤ c ∧ c < 256) :
    Calls Tryd.prog 34 #[.int .i64 k, .slice A h c] w fun e w' => e = .returned (.bool (openU k xs)) ∧ Below w.heap.size w w' := by
  have hl := hr.1
  have hd : openU k xs = decide ((joinI (unitsL k (xs ++ (encL k [65536]).drop h))).2 = 2) := by
    unfold openU
    rw [if_neg (by omega), if_neg (by omega), hl]
  have hen : Calls Tryd.prog 43 #[.int .i64 k, .slice (some ⟨w.heap.size, 0, none⟩) 1 1] (w.alloc (.cells #[.int .i64 65536] 3)) fun e w' => ∃ A' c', e = .returned (.slice A' 4 c') ∧ RowI .u8 w' A' 4 (encL k [65536]) ∧ Below w.heap.size w w' ∧ 4 ≤ c' := by
    have q := oencode_cap k (some ⟨w.heap.size, 0, none⟩) 1 1 [65536] _ (RowI.new .i64 w [65536] 3) (by decide)
    rw [encL_pair_len hk] at q
    exact q.mono fun e w' ⟨A', c', he, hr, hb, hc⟩ => ⟨A', c', he, hr, ((Below.refl _ _).alloc (Nat.le_refl _) _).trans (Below.mono hb (by simp)), hc⟩
  have HEN := Lib.hid hen; clear hen
  have HR := Lib.hid hr; clear hr
  have HB := Lib.hid hby; clear hby
  have pb := encL_pair_byte hk
  have pl := encL_pair_len hk
  obtain ⟨P, hP⟩ : ∃ P, P = encL k [65536] := ⟨_, rfl⟩
  rw [← hP] at HEN hd pb pl
  have HP := Lib.hid hP; clear hP
  obtain ⟨us, hus⟩ : ∃ us, us = unitsL k (xs ++ P.drop h) := ⟨_, rfl⟩
  rw [← hus] at hd
  rw [hd]
  have HUS := Lib.hid hus; clear hus hd
  have HPB := Lib.hid pb; clear pb
  have HPL := Lib.hid pl; clear pl
  have hbe : ((joinI us).2 == 2) = decide ((joinI us).2 = 2) := by rw [Bool.eq_iff_iff, beq_iff_eq, decide_eq_true_iff]
  obtain ⟨j1, hj1⟩ : ∃ j, j = (joinI us).1 := ⟨_, rfl⟩
  obtain ⟨j2, hj2⟩ : ∃ j, j = (joinI us).2 := ⟨_, rfl⟩
  rw [← hj2] at hbe ⊢
  have HJ1 := Lib.hid hj1; clear hj1
  have HJ2 := Lib.hid hj2; clear hj2
  have hd2 : (decide ((2 : Int) ≤ 4)) = true := by decide
  rcases hh with rfl | rfl
  · go_enter Tryd.func34, Tryd.ntmps34
    go_wp2_with fail
    refine HEN.out.mono ?_; rintro e w1 ⟨Ap, cp, rfl, hrp, hb1, hcp⟩
    obtain ⟨Aq, hsl, hrow, _, _⟩ := slice_from Ap 4 cp 2 (by decide)
    have hs2 : ∀ w : World, (Instr.slice 22 (.slice Ap 4 cp) (some (.int .i64 2)) none none).run Tryd.prog w = .ok (.slice Aq 2 (cp - 2)) w := hsl
    have hrq := hrow w1 P hrp hcp
    have hcc := concat4 w1.heap.size A Aq 2 c 2 (cp - 2) xs (P.drop 2) (w1.alloc (.cells #[.slice A 2 c, .slice Aq 2 (cp - 2)] 22)) (.inl ⟨rfl, rfl⟩) (by simp) (by simp) ((HR.out.below hb1 (Nat.le_refl _)).alloc _) (hrq.alloc _)
    have hb1a : Below w.heap.size w (w1.alloc (.cells #[.slice A 2 c, .slice Aq 2 (cp - 2)] 22)) := hb1.alloc hb1.size _
    have HCC := Lib.hid hcc; clear hcc
    clear hsl hrow hrp hrq
    go_wp2_with fail
    refine HCC.out.mono ?_; rintro e w2 ⟨Ac, cc, rfl, hrc, q1, q2, hb2⟩
    have hou := ounits_any k Ac 4 cc _ w2 hrc (by
      intro c hc
      rcases List.mem_append.1 hc with h | h
      · exact HB.out c h
      · exact HPB.out c (List.mem_of_mem_drop h)) (by decide)
    rw [← HUS.out] at hou
    have hb2a : Below w.heap.size w w2 := hb1a.trans (Below.mono hb2 hb1a.size)
    have HOU := Lib.hid hou; clear hou
    clear hrc hb2 q1 q2
    go_wp2_with fail
    refine HOU.out.mono ?_; rintro e w3 ⟨Au, cu, rfl, hru, hb3⟩
    have hjo := (join_any Au us.length cu us w3 hru (by have h5 := congrArg List.length HUS.out; rw [unitsL_length hk, List.length_append, List.length_drop, HPL.out, hl] at h5; omega)).1
    rw [← HJ1.out, ← HJ2.out] at hjo
    have hb3a : Below w.heap.size w w3 := hb2a.trans (Below.mono hb3 hb2a.size)
    have HJO := Lib.hid hjo; clear hjo
    clear hru hb3
    go_wp2_with fail
    refine HJO.out.mono ?_; rintro e w4 ⟨rfl, q, rfl⟩
    go_wp2_with fail
    go_ret
    exact ⟨rfl, below_drewN hb3a q⟩
  · go_enter Tryd.func34, Tryd.ntmps34
    go_wp2_with fail
    refine HEN.out.mono ?_; rintro e w1 ⟨Ap, cp, rfl, hrp, hb1, hcp⟩
    obtain ⟨Aq, hsl, hrow, _, _⟩ := slice_from Ap 4 cp 3 (by decide)
    have hs2 : ∀ w : World, (Instr.slice 22 (.slice Ap 4 cp) (some (.int .i64 3)) none none).run Tryd.prog w = .ok (.slice Aq 1 (cp - 3)) w := hsl
    have hrq := hrow w1 P hrp hcp
    have hcc := concat4 w1.heap.size A Aq 3 c 1 (cp - 3) xs (P.drop 3) (w1.alloc (.cells #[.slice A 3 c, .slice Aq 1 (cp - 3)] 22)) (.inr ⟨rfl, rfl⟩) (by simp) (by simp) ((HR.out.below hb1 (Nat.le_refl _)).alloc _) (hrq.alloc _)
    have hb1a : Below w.heap.size w (w1.alloc (.cells #[.slice A 3 c, .slice Aq 1 (cp - 3)] 22)) := hb1.alloc hb1.size _
    have HCC := Lib.hid hcc; clear hcc
    clear hsl hrow hrp hrq
    go_wp2_with fail
    refine HCC.out.mono ?_; rintro e w2 ⟨Ac, cc, rfl, hrc, q1, q2, hb2⟩
    have hou := ounits_any k Ac 4 cc _ w2 hrc (by
      intro c hc
      rcases List.mem_append.1 hc with h | h
      · exact HB.out c h
      · exact HPB.out c (List.mem_of_mem_drop h)) (by decide)
    rw [← HUS.out] at hou
    have hb2a : Below w.heap.size w w2 := hb1a.trans (Below.mono hb2 hb1a.size)
    have HOU := Lib.hid hou; clear hou
    clear hrc hb2 q1 q2
    go_wp2_with fail
    refine HOU.out.mono ?_; rintro e w3 ⟨Au, cu, rfl, hru, hb3⟩
    have hjo := (join_any Au us.length cu us w3 hru (by have h5 := congrArg List.length HUS.out; rw [unitsL_length hk, List.length_append, List.length_drop, HPL.out, hl] at h5; omega)).1
    rw [← HJ1.out, ← HJ2.out] at hjo
    have hb3a : Below w.heap.size w w3 := hb2a.trans (Below.mono hb3 hb2a.size)
    have HJO := Lib.hid hjo; clear hjo
    clear hru hb3
    go_wp2_with fail
    refine HJO.out.mono ?_; rintro e w4 ⟨rfl, q, rfl⟩
    go_wp2_with fail
    go_ret
    exact ⟨rfl, below_drewN hb3a q⟩

/-- WHAT open GIVES, of at most four octets. -/
theorem open_any (k : Int) (hk : k = 2 ∨ k = 3) (A : Option Addr) (h c : Nat) (xs : List Int) (w : World) (hh : h ≤ 4) (hr : RowI .u8 w A h xs) (hby : ∀ c ∈ xs, 0 ≤ c ∧ c < 256) :
    Calls Tryd.prog 34 #[.int .i64 k, .slice A h c] w fun e w' => e = .returned (.bool (openU k xs)) ∧ Below w.heap.size w w' := by
  have hl := hr.1
  by_cases h2 : h < 2
  · rw [show openU k xs = true by unfold openU; rw [if_pos (by omega)]]
    exact (open_short k A h c w h2).mono fun e w' ⟨he, hw⟩ => ⟨he, by rw [hw]; exact Below.refl _ _⟩
  · by_cases h3 : 3 < h
    · rw [show openU k xs = false by unfold openU; rw [if_neg (by omega), if_pos (by omega)]]
      exact (open_long k A h c w h3 hh).mono fun e w' ⟨he, hw⟩ => ⟨he, by rw [hw]; exact Below.refl _ _⟩
    · exact open_mid k hk A h c xs w (by omega) hr hby

set_option maxHeartbeats 1000000 in
theorem unit_wait (g : Nat) (k : Int) (A : Option Addr) (n c m : Nat) (w : World) (hd : DecAt w g k (.slice A n c) false) (hm : min (n : Int) 4 = (m : Int)) (hmn : m ≤ n) (hnc : n ≤ c)
    (ho : ∀ q, Calls Tryd.prog 34 #[.int .i64 k, .slice A m c] (w.drewN q) fun e w' => e = .returned (.bool true) ∧ Below w.heap.size w w') :
    Calls Tryd.prog 28 #[.pointer (some ⟨g, 0, none⟩)] w fun e w' => e = .returned (.tuple #[.int .i64 0, .int .i64 0]) ∧ Below w.heap.size w w' := by
  have d0 := hd.c0
  have d1 := hd.c1
  have d2 := hd.c2
  have hsl := slice_upto A n c m (by omega)
  have HO := Lib.hid ho; clear ho hd
  go_enter Tryd.func28, Tryd.ntmps28
  go_wp2_with fail
  go_region
  go_wp2_with fail
  refine (HO.out _).mono ?_; rintro e w' ⟨rfl, hb⟩
  go_wp2_with fail
  go_ret2
  exact ⟨rfl, hb⟩

set_option maxHeartbeats 1000000 in
theorem unit_short (g : Nat) (k : Int) (A : Option Addr) (n c m : Nat) (w : World) (hd : DecAt w g k (.slice A n c) true) (hm : min (n : Int) 4 = (m : Int)) (hmn : m ≤ n) (hnc : n ≤ c) (h2 : m < 2) :
    Calls Tryd.prog 28 #[.pointer (some ⟨g, 0, none⟩)] w fun e w' => e = .returned (.tuple #[.int .i64 65533, .int .i64 m]) ∧ Below w.heap.size w w' := by
  have d0 := hd.c0
  have d1 := hd.c1
  have d2 := hd.c2
  have hsl := slice_upto A n c m (by omega)
  have e2 : decide ((m : Int) < 2) = true := by simp; omega
  clear hd
  go_enter Tryd.func28, Tryd.ntmps28
  go_wp2_with fail
  go_region
  go_wp2_with fail
  go_ret2
  exact ⟨rfl, below_drewN (Below.refl _ _) _⟩

set_option maxHeartbeats 1000000 in
theorem unit_closed (g : Nat) (k : Int) (A : Option Addr) (n c m : Nat) (j1 j2 : Int) (u : Nat) (w : World) (hd : DecAt w g k (.slice A n c) true) (hm : min (n : Int) 4 = (m : Int)) (hmn : m ≤ n) (hnc : n ≤ c) (h2 : 2 ≤ m) (hj0 : 0 ≤ j2) (hj2 : j2 ≤ 2)
    (hou : ∀ q, Calls Tryd.prog 36 #[.int .i64 k, .slice A m c] (w.drewN q) fun e w' => ∃ A' c', e = .returned (.slice A' u c') ∧ Below w.heap.size w w' ∧
      (Calls Tryd.prog 35 #[.slice A' u c'] w' fun e w' => e = .returned (.tuple #[.int .i64 j1, .int .i64 j2]) ∧ Below w.heap.size w w')) :
    Calls Tryd.prog 28 #[.pointer (some ⟨g, 0, none⟩)] w fun e w' => e = .returned (.tuple #[.int .i64 j1, .int .i64 (2 * j2)]) ∧ Below w.heap.size w w' := by
  have d0 := hd.c0
  have d1 := hd.c1
  have d2 := hd.c2
  have hsl := slice_upto A n c m (by omega)
  have e2 : decide ((m : Int) < 2) = false := by simp; omega
  have HOU := Lib.hid hou; clear hou hd
  go_enter Tryd.func28, Tryd.ntmps28
  go_wp2_with fail
  go_region
  go_wp2_with fail
  refine (HOU.out _).mono ?_; rintro e w' ⟨A', c', rfl, hb, hjo⟩
  have HJO := Lib.hid hjo; clear hjo
  go_wp2_with fail
  refine HJO.out.mono ?_; rintro e w2 ⟨rfl, hb2⟩
  go_wp2_with fail
  go_ret2
  exact ⟨rfl, hb2⟩

set_option maxHeartbeats 1000000 in
theorem unit_open (g : Nat) (k : Int) (A : Option Addr) (n c m : Nat) (j1 j2 : Int) (u : Nat) (w : World) (hd : DecAt w g k (.slice A n c) false) (hm : min (n : Int) 4 = (m : Int)) (hmn : m ≤ n) (hnc : n ≤ c) (h2 : 2 ≤ m) (hj0 : 0 ≤ j2) (hj2 : j2 ≤ 2)
    (ho : ∀ q, Calls Tryd.prog 34 #[.int .i64 k, .slice A m c] (w.drewN q) fun e w' => e = .returned (.bool false) ∧ Below w.heap.size w w')
    (hou : ∀ w0, Below w.heap.size w w0 → Calls Tryd.prog 36 #[.int .i64 k, .slice A m c] w0 fun e w' => ∃ A' c', e = .returned (.slice A' u c') ∧ Below w.heap.size w w' ∧
      (Calls Tryd.prog 35 #[.slice A' u c'] w' fun e w' => e = .returned (.tuple #[.int .i64 j1, .int .i64 j2]) ∧ Below w.heap.size w w')) :
    Calls Tryd.prog 28 #[.pointer (some ⟨g, 0, none⟩)] w fun e w' => e = .returned (.tuple #[.int .i64 j1, .int .i64 (2 * j2)]) ∧ Below w.heap.size w w' := by
  have d0 := hd.c0
  have d1 := hd.c1
  have d2 := hd.c2
  have hsl := slice_upto A n c m (by omega)
  have e2 : decide ((m : Int) < 2) = false := by simp; omega
  have HD := Lib.hid hd; clear hd
  have HO := Lib.hid ho; clear ho
  have HOU := Lib.hid hou; clear hou
  go_enter Tryd.func28, Tryd.ntmps28
  go_wp2_with fail
  go_region
  go_wp2_with fail
  refine (HO.out _).mono ?_; rintro e w0 ⟨rfl, hb0⟩
  have hd0 := HD.out.below hb0 HD.out.lt
  have k0 := hd0.c0
  clear hd0
  go_wp2_with fail
  refine (HOU.out w0 hb0).mono ?_; rintro e w' ⟨A', c', rfl, hb, hjo⟩
  have HJO := Lib.hid hjo; clear hjo
  go_wp2_with fail
  refine HJO.out.mono ?_; rintro e w2 ⟨rfl, hb2⟩
  go_wp2_with fail
  go_ret2
  exact ⟨rfl, hb2⟩

/-- WHAT unit GIVES. -/
theorem unit_any (g : Nat) (k : Int) (hk : k = 2 ∨ k = 3) (A : Option Addr) (n c : Nat) (xs : List Int) (cl : Bool) (w : World) (hd : DecAt w g k (.slice A n c) cl) (hr : RowI .u8 w A n xs) (hby : ∀ c ∈ xs, 0 ≤ c ∧ c < 256) (hcap : n ≤ c) :
    Calls Tryd.prog 28 #[.pointer (some ⟨g, 0, none⟩)] w fun e w' => e = .returned (.tuple #[.int .i64 (stepI k cl xs).1, .int .i64 (stepI k cl xs).2]) ∧ Below w.heap.size w w' := by
  have hl := hr.1
  obtain ⟨m, hm⟩ : ∃ m : Nat, m = min n 4 := ⟨_, rfl⟩
  have hmi : min (n : Int) 4 = (m : Int) := by omega
  have hrm : RowI .u8 w A m (xs.take 4) := by
    have := hr.to (m := m) (by omega)
    rwa [show xs.take m = xs.take 4 by
      rcases Nat.lt_or_ge n 4 with h | h
      · rw [List.take_of_length_le (by omega), List.take_of_length_le (by omega)]
      · rw [show m = 4 by omega]] at this
  have hbm : ∀ c ∈ xs.take 4, 0 ≤ c ∧ c < 256 := fun c hc => hby c (List.mem_of_mem_take hc)
  have hk1 : ¬ k = 1 := by omega
  have hw : waitI k xs = openU k (xs.take 4) := by unfold waitI; rw [if_neg hk1]
  have ho : ∀ q, Calls Tryd.prog 34 #[.int .i64 k, .slice A m c] (w.drewN q) fun e w' => e = .returned (.bool (openU k (xs.take 4))) ∧ Below w.heap.size w w' := fun q =>
    (open_any k hk A m c (xs.take 4) (w.drewN q) (by omega) (hrm.drewN q) hbm).mono fun e w' ⟨he, hb⟩ => ⟨he, (below_drewN (Below.refl _ _) q).trans hb⟩
  have hou : 2 ≤ m → ∀ w0, Below w.heap.size w w0 → Calls Tryd.prog 36 #[.int .i64 k, .slice A m c] w0 fun e w' => ∃ A' c', e = .returned (.slice A' (unitsL k (xs.take 4)).length c') ∧ Below w.heap.size w w' ∧
      (Calls Tryd.prog 35 #[.slice A' (unitsL k (xs.take 4)).length c'] w' fun e w' => e = .returned (.tuple #[.int .i64 (joinI (unitsL k (xs.take 4))).1, .int .i64 (joinI (unitsL k (xs.take 4))).2]) ∧ Below w.heap.size w w') := fun h2 w0 hb0 =>
    (ounits_any k A m c (xs.take 4) w0 (hrm.below hb0 (Nat.le_refl _)) hbm (by omega)).mono fun e w' ⟨A', c', he, hru, hb⟩ => by
      have hb' := hb0.trans (Below.mono hb hb0.size)
      refine ⟨A', c', he, hb', ?_⟩
      exact (join_any A' _ c' _ w' hru (by rw [unitsL_length hk]; simp; omega)).1.mono fun e w2 ⟨he, q, hq⟩ => ⟨he, by rw [hq]; exact below_drewN hb' q⟩
  have hnx : 2 ≤ m → nextI k xs = ((joinI (unitsL k (xs.take 4))).1, 2 * (joinI (unitsL k (xs.take 4))).2) := by
    intro h2
    unfold nextI
    rw [if_neg hk1, if_neg (by omega)]
  have hjb : 2 ≤ m → 0 ≤ (joinI (unitsL k (xs.take 4))).2 ∧ (joinI (unitsL k (xs.take 4))).2 ≤ 2 := by
    intro h2
    have := joinI_bounds (unitsL_ne hk (l := xs.take 4) (by rw [List.length_take]; omega))
    omega
  have hq0 : ∀ q, Below w.heap.size w (w.drewN q) := fun q => below_drewN (Below.refl _ _) q
  cases cl
  · cases hoe : openU k (xs.take 4)
    · rw [hoe] at ho
      have h2 : 2 ≤ m := by
        rcases Nat.lt_or_ge m 2 with h | h
        · unfold openU at hoe
          rw [if_pos (by rw [List.length_take]; omega)] at hoe
          cases hoe
        · exact h
      rw [show stepI k false xs = nextI k xs by unfold stepI; rw [hw, hoe]; rfl, hnx h2]
      exact unit_open g k A n c m _ _ _ w hd hmi (by omega) hcap h2 (hjb h2).1 (hjb h2).2 ho (hou h2)
    · rw [hoe] at ho
      rw [show stepI k false xs = (0, 0) by unfold stepI; rw [hw, hoe]; rfl]
      exact unit_wait g k A n c m w hd hmi (by omega) hcap ho
  · rw [stepI_true]
    rcases Nat.lt_or_ge m 2 with h | h
    · rw [show nextI k xs = (65533, (m : Int)) by unfold nextI; rw [if_neg hk1, if_pos (by omega)]; congr 1; omega]
      exact unit_short g k A n c m w hd hmi (by omega) hcap h
    · rw [hnx h]
      exact unit_closed g k A n c m _ _ _ w hd hmi (by omega) hcap h (hjb h).1 (hjb h).2 (fun q => hou h _ (hq0 q))
end Go.Proofs.YtoojfjealncddaaDoor
