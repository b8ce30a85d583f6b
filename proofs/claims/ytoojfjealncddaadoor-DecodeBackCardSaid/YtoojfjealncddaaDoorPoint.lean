/- What stands ahead: point; settle: the kind, and its mark. -/
import Derived.Test.YtoojfjealncddaaDoorSpec
import Derived.Test.YtoojfjealncddaaDoorDec
import Derived.BigRegion
namespace Go.Proofs.YtoojfjealncddaaDoor
open Go Go.RowKit
set_option linter.unusedVariables false

theorem below_of_drewN {w w' : World} (h : ∃ q, w' = w.drewN q) : Below w.heap.size w w' := by
  obtain ⟨q, rfl⟩ := h
  exact below_drewN (Below.refl _ _) q

set_option maxHeartbeats 1000000 in
theorem point_any (g : Nat) (k : Int) (A : Option Addr) (n c : Nat) (xs : List Int) (cl : Bool) (w : World) (hd : DecAt w g k (.slice A n c) cl) (hr : RowI .u8 w A n xs) (hby : ∀ c ∈ xs, 0 ≤ c ∧ c < 256) (hcap : n ≤ c) (hcm : c ≤ maxLen) (hlen : (n : Int) ≤ 4611686018427387904) :
    Calls Tryd.prog 29 #[.pointer (some ⟨g, 0, none⟩)] w fun e w' => e = .returned (.tuple #[.int .i64 (stepI 1 cl xs).1, .int .i64 (stepI 1 cl xs).2]) ∧ Below w.heap.size w w' := by
  have hget := fun q => get_any A n c xs (w.drewN q) hr hby hcap hcm hlen
  have hopen := copen_any A n c xs w hr hby hcap hcm hlen
  have d1 := hd.c1
  have d2 := hd.c2
  have HGET := Lib.hid hget; clear hget
  have HOPEN := Lib.hid hopen; clear hopen
  have hs : stepI 1 cl xs = if (!cl && openI xs) = true then (0, 0) else getI xs := rfl
  rw [hs]
  clear hs hd hr hby hcap hcm hlen
  cases cl
  · cases ho : openI xs
    · rw [ho] at HOPEN
      clear ho
      go_enter Tryd.func29, Tryd.ntmps29
      go_wp2_with fail
      refine HOPEN.out.mono ?_; rintro e w' ⟨rfl, q, rfl⟩
      go_wp2_with fail
      refine (HGET.out q).mono ?_; rintro e w' ⟨rfl, q2, rfl⟩
      go_wp2_with fail
      go_ret2
      exact ⟨rfl, below_drewN (Below.refl _ _) _⟩
    · rw [ho] at HOPEN
      clear ho
      go_enter Tryd.func29, Tryd.ntmps29
      go_wp2_with fail
      refine HOPEN.out.mono ?_; rintro e w' ⟨rfl, q, rfl⟩
      go_wp2_with fail
      go_ret2
      exact ⟨rfl, below_drewN (Below.refl _ _) q⟩
  · go_enter Tryd.func29, Tryd.ntmps29
    go_wp2_with fail
    refine (HGET.out 0).mono ?_; rintro e w' ⟨rfl, q2, rfl⟩
    go_wp2_with fail
    go_ret2
    exact ⟨rfl, below_drewN (Below.refl _ _) q2⟩

set_option maxHeartbeats 1000000 in
/-- It isn't sure yet, or it was before: nothing is set. -/
theorem settle_kind (g : Nat) (k : Int) (v : Value) (cl : Bool) (w : World) (hd : DecAt w g k v cl) (hk : k ≠ 0) :
    Calls Tryd.prog 27 #[.pointer (some ⟨g, 0, none⟩)] w fun e w' => e = .returned (.tuple #[]) ∧ w' = w := by
  have d0 := hd.c0
  have e0 : (k != 0) = true := by rw [bne_iff_ne]; exact hk
  clear hk hd
  go_enter Tryd.func27, Tryd.ntmps27
  go_wp2_with fail
  (try simp only [Exit.inBlock, Exit.then]); refine bodyPost_ret (results_none rfl _ _ _) rfl ?_
  exact ⟨rfl, rfl⟩

set_option maxHeartbeats 1000000 in
theorem settle_wait (g : Nat) (A : Option Addr) (n c : Nat) (xs : List Int) (w : World) (hm : Marks w) (hd : DecAt w g 0 (.slice A n c) false) (hr : RowI .u8 w A n xs) (hby : ∀ c ∈ xs, 0 ≤ c ∧ c < 256) (hcap : n ≤ c) (hcm : c ≤ 9223372036854775807) (hs : sureI xs = false) :
    Calls Tryd.prog 27 #[.pointer (some ⟨g, 0, none⟩)] w fun e w' => e = .returned (.tuple #[]) ∧ Below w.heap.size w w' := by
  have d0 := hd.c0
  have d1 := hd.c1
  have d2 := hd.c2
  have hsure := sure_any A n c xs w hm hr hby hcap hcm
  rw [hs] at hsure
  have HS := Lib.hid hsure; clear hsure
  clear hd hm hr hby hcap hcm hs
  go_enter Tryd.func27, Tryd.ntmps27
  go_wp2_with fail
  refine HS.out.mono ?_; rintro e w' ⟨rfl, hb⟩
  go_wp2_with fail
  (try simp only [Exit.inBlock, Exit.then]); refine bodyPost_ret (results_none rfl _ _ _) rfl ?_
  exact ⟨rfl, hb⟩

theorem markI_bounds (l : List Int) : 0 ≤ (markI l).2 ∧ (markI l).2 ≤ l.length := by
  unfold markI
  split
  · rename_i h; have := congrArg List.length h; simp at this ⊢; omega
  · split
    · rename_i h; have := congrArg List.length h; simp at this ⊢; omega
    · split
      · rename_i h; have := congrArg List.length h; simp at this ⊢; omega
      · simp
/-- The kind that is set: the mark's, or Eight. -/
def kindI (l : List Int) : Int := if (markI l).1 = 0 then 1 else (markI l).1
theorem kindI_or (l : List Int) : kindI l = 1 ∨ kindI l = 2 ∨ kindI l = 3 := by
  unfold kindI markI
  (repeat' split) <;> simp_all

set_option maxHeartbeats 1000000 in
theorem settle_closed (g : Nat) (A A' : Option Addr) (n c m : Nat) (k : Int) (w : World) (hd : DecAt w g 0 (.slice A n c) true) 
    (hmk : Calls Tryd.prog 33 #[.slice A n c] w fun e w' => e = .returned (.tuple #[.int .i64 k, .int .i64 m]) ∧ Below w.heap.size w w')
    (hsl : ∀ w : World, (Instr.slice 22 (.slice A n c) (some (.int .i64 (m : Int))) none none).run Tryd.prog w = .ok (.slice A' (n - m) (c - m)) w) :
    Calls Tryd.prog 27 #[.pointer (some ⟨g, 0, none⟩)] w fun e w' => e = .returned (.tuple #[]) ∧ ∃ w1, Below w.heap.size w w1 ∧ ∃ q, w' = ((w1.setCell ⟨g, 0, none⟩ (.int .i64 (if k = 0 then 1 else k))).setCell ⟨g, 1, none⟩ (.slice A' (n - m) (c - m))).drewN q := by
  have d0 := hd.c0
  have d1 := hd.c1
  have d2 := hd.c2
  have HM := Lib.hid hmk; clear hmk
  have HD := Lib.hid hd; clear hd
  by_cases hk : k = 0
  · subst hk
    rw [if_pos rfl]
    go_enter Tryd.func27, Tryd.ntmps27
    go_wp2_with fail
    refine HM.out.mono ?_; rintro e w1 ⟨rfl, hb⟩
    have hd1 := HD.out.below hb HD.out.lt
    have k1 := hd1.c1
    have f0 := hd1.fz 0
    have f1 := hd1.fz 1
    have k0 := hd1.c0
    clear hd1
    go_wp2_with fail
    go_region
    go_wp2
    go_end0
    exact ⟨rfl, w1, hb, _, rfl⟩
  · rw [if_neg hk]
    have e0 : (k == 0) = false := by rw [beq_eq_false_iff_ne]; exact hk
    clear hk
    go_enter Tryd.func27, Tryd.ntmps27
    go_wp2_with fail
    refine HM.out.mono ?_; rintro e w1 ⟨rfl, hb⟩
    have hd1 := HD.out.below hb HD.out.lt
    have k1 := hd1.c1
    have f0 := hd1.fz 0
    have f1 := hd1.fz 1
    have k0 := hd1.c0
    clear hd1
    go_wp2_with fail
    go_region
    go_wp2
    go_end0
    exact ⟨rfl, w1, hb, _, rfl⟩
set_option maxHeartbeats 1000000 in
theorem settle_open (g : Nat) (A A' : Option Addr) (n c m : Nat) (k : Int) (w : World) (hd : DecAt w g 0 (.slice A n c) false)
    (hsu : Calls Tryd.prog 32 #[.slice A n c] w fun e w' => e = .returned (.bool true) ∧ Below w.heap.size w w') 
    (hmk : ∀ w0, Below w.heap.size w w0 → Calls Tryd.prog 33 #[.slice A n c] w0 fun e w' => e = .returned (.tuple #[.int .i64 k, .int .i64 m]) ∧ Below w.heap.size w w')
    (hsl : ∀ w : World, (Instr.slice 22 (.slice A n c) (some (.int .i64 (m : Int))) none none).run Tryd.prog w = .ok (.slice A' (n - m) (c - m)) w) :
    Calls Tryd.prog 27 #[.pointer (some ⟨g, 0, none⟩)] w fun e w' => e = .returned (.tuple #[]) ∧ ∃ w1, Below w.heap.size w w1 ∧ ∃ q, w' = ((w1.setCell ⟨g, 0, none⟩ (.int .i64 (if k = 0 then 1 else k))).setCell ⟨g, 1, none⟩ (.slice A' (n - m) (c - m))).drewN q := by
  have d0 := hd.c0
  have d1 := hd.c1
  have d2 := hd.c2
  have HM := Lib.hid hmk; clear hmk
  have HSU := Lib.hid hsu; clear hsu
  have HD := Lib.hid hd; clear hd
  by_cases hk : k = 0
  · subst hk
    rw [if_pos rfl]
    go_enter Tryd.func27, Tryd.ntmps27
    go_wp2_with fail
    refine HSU.out.mono ?_; rintro e w0 ⟨rfl, hb0⟩
    have hd0 := HD.out.below hb0 HD.out.lt
    have j1 := hd0.c1
    clear hd0
    go_wp2_with fail
    refine (HM.out w0 hb0).mono ?_; rintro e w1 ⟨rfl, hb⟩
    have hd1 := HD.out.below hb HD.out.lt
    have k1 := hd1.c1
    have f0 := hd1.fz 0
    have f1 := hd1.fz 1
    have k0 := hd1.c0
    clear hd1
    go_wp2_with fail
    go_region
    go_wp2
    go_end0
    exact ⟨rfl, w1, hb, _, rfl⟩
  · rw [if_neg hk]
    have e0 : (k == 0) = false := by rw [beq_eq_false_iff_ne]; exact hk
    clear hk
    go_enter Tryd.func27, Tryd.ntmps27
    go_wp2_with fail
    refine HSU.out.mono ?_; rintro e w0 ⟨rfl, hb0⟩
    have hd0 := HD.out.below hb0 HD.out.lt
    have j1 := hd0.c1
    clear hd0
    go_wp2_with fail
    refine (HM.out w0 hb0).mono ?_; rintro e w1 ⟨rfl, hb⟩
    have hd1 := HD.out.below hb HD.out.lt
    have k1 := hd1.c1
    have f0 := hd1.fz 0
    have f1 := hd1.fz 1
    have k0 := hd1.c0
    clear hd1
    go_wp2_with fail
    go_region
    go_wp2
    go_end0
    exact ⟨rfl, w1, hb, _, rfl⟩

/-- WHAT settle DOES, where the kind is told now. -/
theorem settle_do (g : Nat) (A : Option Addr) (n c : Nat) (xs : List Int) (cl : Bool) (w : World) (hm : Marks w) (hd : DecAt w g 0 (.slice A n c) cl) (hr : RowI .u8 w A n xs) (hab : Above (g + 1) A) (hby : ∀ c ∈ xs, 0 ≤ c ∧ c < 256) (hcap : n ≤ c) (hcm : c ≤ 9223372036854775807) (hs : cl = true ∨ sureI xs = true) :
    Calls Tryd.prog 27 #[.pointer (some ⟨g, 0, none⟩)] w fun e w' => e = .returned (.tuple #[]) ∧
      ∃ A', DecAt w' g (kindI xs) (.slice A' (n - (markI xs).2.toNat) (c - (markI xs).2.toNat)) cl ∧ RowI .u8 w' A' (n - (markI xs).2.toNat) (xs.drop (markI xs).2.toNat) ∧ Above (g + 1) A' ∧ (A' = none → A = none) ∧ Below g w w' := by
  have hl := hr.1
  have hmb := markI_bounds xs
  obtain ⟨A', hsl, hrow, hab', hn'⟩ := slice_from A n c (markI xs).2.toNat (by omega)
  have hmk : ∀ w0, Below w.heap.size w w0 → Calls Tryd.prog 33 #[.slice A n c] w0 fun e w' => e = .returned (.tuple #[.int .i64 (markI xs).1, .int .i64 ((markI xs).2.toNat : Int)]) ∧ Below w.heap.size w w' := by
    intro w0 hb0
    have := mark_any A n c xs w0 (hm.below hb0 (Nat.le_refl _)) (hr.below hb0 (Nat.le_refl _)) hby hcap hcm
    rw [show ((markI xs).2.toNat : Int) = (markI xs).2 by omega]
    exact this.mono fun e w' ⟨he, hb⟩ => ⟨he, hb0.trans (Below.mono hb hb0.size)⟩
  have fin : ∀ (w1 w' : World), Below w.heap.size w w1 → (∃ q, w' = ((w1.setCell ⟨g, 0, none⟩ (.int .i64 (kindI xs))).setCell ⟨g, 1, none⟩ (.slice A' (n - (markI xs).2.toNat) (c - (markI xs).2.toNat))).drewN q) →
      ∃ A', DecAt w' g (kindI xs) (.slice A' (n - (markI xs).2.toNat) (c - (markI xs).2.toNat)) cl ∧ RowI .u8 w' A' (n - (markI xs).2.toNat) (xs.drop (markI xs).2.toNat) ∧ Above (g + 1) A' ∧ (A' = none → A = none) ∧ Below g w w' := by
    rintro w1 w' hb ⟨q, rfl⟩
    have hd1 := hd.below hb hd.lt
    have hr1 := hrow w1 xs (hr.below hb (Nat.le_refl _)) hcap
    refine ⟨A', DecAt.drewN ((hd1.set0 (kindI xs)).set1 _) q, RowI.drewN ((hr1.set (hab' _ hab) 0 _).set (hab' _ hab) 1 _) q, hab' _ hab, hn', ?_⟩
    exact below_drewN (((Below.mono hb (Nat.le_of_lt hd.lt)).setCell (p := ⟨g, 0, none⟩) (Nat.le_refl _) _).setCell (p := ⟨g, 1, none⟩) (Nat.le_refl _) _) q
  cases cl
  · have hs' : sureI xs = true := by simpa using hs
    have hsu := sure_any A n c xs w hm hr hby hcap hcm
    rw [hs'] at hsu
    exact (settle_open g A A' n c (markI xs).2.toNat (markI xs).1 w hd hsu hmk hsl).mono fun e w' ⟨he, w1, hb, hq⟩ => ⟨he, fin w1 w' hb hq⟩
  · exact (settle_closed g A A' n c (markI xs).2.toNat (markI xs).1 w hd (hmk w (Below.refl _ _)) hsl).mono fun e w' ⟨he, w1, hb, hq⟩ => ⟨he, fin w1 w' hb hq⟩
end Go.Proofs.YtoojfjealncddaaDoor
