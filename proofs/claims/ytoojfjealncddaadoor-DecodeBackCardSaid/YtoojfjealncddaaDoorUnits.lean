/- Contracts of Units, and of the document's Units. -/
import Derived.Test.YtoojfjealncddaaDoorInts
namespace Go.Proofs.YtoojfjealncddaaDoor
open Go Go.RowKit

/-- The units of r, a number that is a code point. -/
def unitsI (r : Int) : List Int := if r < 65536 then [r] else [55296 + (r - 65536) / 1024, 56320 + (r - 65536) % 1024]

theorem units1 (r s : Int) (w : World) (h1 : s < 65536)
    (hc : ∀ w, Calls Tryd.prog 39 #[.int .i64 r] w fun e w' => e = .returned (.int .i64 s) ∧ w = w') :
    Calls Tryd.prog 53 #[.int .i64 r] w fun e w' => e = .returned (.slice (some ⟨w.heap.size, 0, none⟩) 1 1) ∧ w' = w.alloc (.cells #[.int .i64 s] 3) := by
  have HC := Lib.hid hc; clear hc
  go_enter Tryd.func53, Tryd.ntmps53
  go_wp2_with fail
  refine (HC.out _).mono ?_; rintro e w' ⟨rfl, rfl⟩
  go_wp2_with fail
  go_ret
  exact ⟨rfl, rfl⟩
theorem units2 (r s : Int) (w : World) (h1 : 65536 ≤ s) (h2 : s ≤ 1114111)
    (hc : ∀ w, Calls Tryd.prog 39 #[.int .i64 r] w fun e w' => e = .returned (.int .i64 s) ∧ w = w') :
    Calls Tryd.prog 53 #[.int .i64 r] w fun e w' => e = .returned (.slice (some ⟨w.heap.size, 0, none⟩) 2 2) ∧ w' = w.alloc (.cells #[.int .i64 (55296 + (s - 65536) / 1024), .int .i64 (56320 + (s - 65536) % 1024)] 3) := by
  have HC := Lib.hid hc; clear hc
  have e1 := i64_and1023 (x := s - 65536) (by omega) (by omega)
  have e2 := i64_or10 (x := 55296) (y := (s - 65536) / 1024) (by omega) (by omega) (by omega) (by omega) (by omega)
  have e3 := i64_or10 (x := 56320) (y := (s - 65536) % 1024) (by omega) (by omega) (by omega) (by omega) (by omega)
  have b1 : 0 ≤ (s - 65536) / 1024 := by omega
  have b2 : (s - 65536) / 1024 < 1024 := by omega
  have b3 : 0 ≤ (s - 65536) % 1024 := by omega
  have b4 : (s - 65536) % 1024 < 1024 := by omega
  go_enter Tryd.func53, Tryd.ntmps53
  go_wp2_with fail
  refine (HC.out _).mono ?_; rintro e w' ⟨rfl, rfl⟩
  go_wp2_with fail
  go_ret
  exact ⟨rfl, rfl⟩

theorem units_any (r : Int) (w : World) : Calls Tryd.prog 53 #[.int .i64 r] w fun e w' =>
    e = .returned (.slice (some ⟨w.heap.size, 0, none⟩) (unitsI (sndI r)).length (unitsI (sndI r)).length) ∧ w' = w.alloc (.cells ((unitsI (sndI r)).map (Value.int .i64)).toArray 3) := by
  have hc := fun w => sound_any r w
  have hs := sndI_is r
  generalize sndI r = s at *
  have h0 := isI_cases hs
  rcases Int.lt_or_le s 65536 with h1 | h1
  · have e : unitsI s = [s] := by unfold unitsI; rw [if_pos h1]
    rw [e]
    exact units1 r s w h1 hc
  · have e : unitsI s = [55296 + (s - 65536) / 1024, 56320 + (s - 65536) % 1024] := by unfold unitsI; rw [if_neg (by omega)]
    rw [e]
    exact units2 r s w h1 h0.2 hc

theorem refUnits_no (r : Int) (w : World) (hs : isI r = false) : Calls Tryd.prog 24 #[.int .i64 r] w fun e w' => e = .returned (.slice (some ⟨w.heap.size, 0, none⟩) 1 1) ∧ w' = w.alloc (.cells #[.int .i64 65533] 3) := by
  have hc := fun w => refIs_any r w
  rw [hs] at hc
  clear hs
  have HC := Lib.hid hc; clear hc
  go_enter Tryd.func24, Tryd.ntmps24
  go_wp2_with fail
  refine (HC.out _).mono ?_; rintro e w' ⟨rfl, rfl⟩
  go_wp2_with fail
  go_ret
  exact ⟨rfl, rfl⟩
theorem refUnits1 (r : Int) (w : World) (h1 : r < 65536)
    (hc : ∀ w, Calls Tryd.prog 21 #[.int .i64 r] w fun e w' => e = .returned (.bool true) ∧ w = w') :
    Calls Tryd.prog 24 #[.int .i64 r] w fun e w' => e = .returned (.slice (some ⟨w.heap.size, 0, none⟩) 1 1) ∧ w' = w.alloc (.cells #[.int .i64 r] 3) := by
  have HC := Lib.hid hc; clear hc
  go_enter Tryd.func24, Tryd.ntmps24
  go_wp2_with fail
  refine (HC.out _).mono ?_; rintro e w' ⟨rfl, rfl⟩
  go_wp2_with fail
  go_ret
  exact ⟨rfl, rfl⟩
theorem refUnits2 (r : Int) (w : World) (h1 : 65536 ≤ r) (h2 : r ≤ 1114111)
    (hc : ∀ w, Calls Tryd.prog 21 #[.int .i64 r] w fun e w' => e = .returned (.bool true) ∧ w = w') :
    Calls Tryd.prog 24 #[.int .i64 r] w fun e w' => e = .returned (.slice (some ⟨w.heap.size, 0, none⟩) 2 2) ∧ w' = w.alloc (.cells #[.int .i64 (55296 + (r - 65536) / 1024), .int .i64 (56320 + (r - 65536) % 1024)] 3) := by
  have HC := Lib.hid hc; clear hc
  go_enter Tryd.func24, Tryd.ntmps24
  go_wp2_with fail
  refine (HC.out _).mono ?_; rintro e w' ⟨rfl, rfl⟩
  go_wp2_with fail
  go_ret
  exact ⟨rfl, rfl⟩
theorem refUnits_any (r : Int) (w : World) : Calls Tryd.prog 24 #[.int .i64 r] w fun e w' =>
    e = .returned (.slice (some ⟨w.heap.size, 0, none⟩) (unitsI (sndI r)).length (unitsI (sndI r)).length) ∧ w' = w.alloc (.cells ((unitsI (sndI r)).map (Value.int .i64)).toArray 3) := by
  rcases hb : isI r with _ | _
  · rw [show sndI r = 65533 by simp [sndI, hb]]
    exact refUnits_no r w hb
  · rw [show sndI r = r by simp [sndI, hb]]
    have hc := fun w => refIs_any r w
    rw [hb] at hc
    have h0 := isI_cases hb
    rcases Int.lt_or_le r 65536 with h1 | h1
    · have e : unitsI r = [r] := by unfold unitsI; rw [if_pos h1]
      rw [e]
      exact refUnits1 r w h1 hc
    · have e : unitsI r = [55296 + (r - 65536) / 1024, 56320 + (r - 65536) % 1024] := by unfold unitsI; rw [if_neg (by omega)]
      rw [e]
      exact refUnits2 r w h1 h0.2 hc
end Go.Proofs.YtoojfjealncddaaDoor
