/- The contract of the document's Join, and what both Joins give. -/
import Derived.Test.YtoojfjealncddaaDoorJoin
namespace Go.Proofs.YtoojfjealncddaaDoor
open Go Go.RowKit
set_option linter.unusedVariables false

set_option maxHeartbeats 1000000 in
theorem rjoin_out (b o m cap : Nat) (a c : Int) (w : World) (hm : (m : Int) ≤ 4611686018427387904) (hc : w.cell? ⟨b, o, none⟩ = some (.int .i64 a)) (hc1 : 1 ≤ m → w.cell? ⟨b, o + 1, none⟩ = some (.int .i64 c)) (hi : ¬ (a < 65536 ∧ isI a = true))
    (hno : m = 0 ∨ ¬ ((55296 ≤ a ∧ a < 56320) ∧ (56320 ≤ c ∧ c ≤ 57343))) :
    Calls Tryd.prog 20 #[.slice (some ⟨b, o, none⟩) ((m + 1 : Nat) : Nat) cap] w fun e w' => e = .returned (.tuple #[.int .i64 65533, .int .i64 1]) ∧ ∃ q, w' = w.drewN q := by
  have ia := fun w => refIs_any a w
  have hz : (((m + 1 : Nat) : Int) == 0) = false := by simp; omega
  have hp : (0 : Int) < (m : Int) + 1 := by omega
  have hif : a < 65536 → isI a = false := fun ha => by cases h : isI a with | false => rfl | true => exact absurd ⟨ha, h⟩ hi
  clear hi
  have HIF := Lib.hid hif; clear hif
  by_cases hup : 55296 ≤ a ∧ a < 56320
  · have ha : a < 65536 := by omega
    rw [HIF.out ha] at ia
    have IA := Lib.hid ia; clear ia
    have d1 : decide (55296 ≤ a) = true := by simp; omega
    have d2 : decide (a < 56320) = true := by simp; omega
    rcases Nat.eq_zero_or_pos m with h0 | h0
    · subst h0
      clear hc1 hno hup
      go_enter Tryd.func20, Tryd.ntmps20
      go_wp2_with fail
      refine (IA.out _).mono ?_; rintro e w' ⟨rfl, rfl⟩
      go_wp2_with fail
      go_ret2
      exact ⟨rfl, 0, rfl⟩
    · have hcc := hc1 h0
      have hp1 : (1 : Int) < (m : Int) + 1 := by omega
      have hp2 : decide ((1 : Int) < (m : Int) + 1) = true := by simp; omega
      have hlo : c < 56320 ∨ 57344 ≤ c := by omega
      clear hc1 hno hup
      rcases hlo with hlo | hlo
      · have d3 : decide (56320 ≤ c) = false := by simp; omega
        go_enter Tryd.func20, Tryd.ntmps20
        go_wp2_with fail
        refine (IA.out _).mono ?_; rintro e w' ⟨rfl, rfl⟩
        go_wp2_with fail
        go_ret2
        exact ⟨rfl, 0, rfl⟩
      · have d3 : decide (56320 ≤ c) = true := by simp; omega
        have d4 : decide (c < 57344) = false := by simp; omega
        go_enter Tryd.func20, Tryd.ntmps20
        go_wp2_with fail
        refine (IA.out _).mono ?_; rintro e w' ⟨rfl, rfl⟩
        go_wp2_with fail
        go_ret2
        exact ⟨rfl, 0, rfl⟩
  · have hcase : a < 55296 ∨ (56320 ≤ a ∧ a < 65536) ∨ 65536 ≤ a := by omega
    clear hno hc1 hup
    rcases hcase with h | ⟨h, h'⟩ | h
    · have d1 : decide (55296 ≤ a) = false := by simp; omega
      rw [HIF.out (by omega)] at ia
      have IA := Lib.hid ia; clear ia
      go_enter Tryd.func20, Tryd.ntmps20
      go_wp2_with fail
      refine (IA.out _).mono ?_; rintro e w' ⟨rfl, rfl⟩
      go_wp2_with fail
      go_ret2
      exact ⟨rfl, 0, rfl⟩
    · have d1 : decide (55296 ≤ a) = true := by simp; omega
      have d2 : decide (a < 56320) = false := by simp; omega
      rw [HIF.out (by omega)] at ia
      have IA := Lib.hid ia; clear ia
      go_enter Tryd.func20, Tryd.ntmps20
      go_wp2_with fail
      refine (IA.out _).mono ?_; rintro e w' ⟨rfl, rfl⟩
      go_wp2_with fail
      go_ret2
      exact ⟨rfl, 0, rfl⟩
    · have d1 : decide (55296 ≤ a) = true := by simp; omega
      have d2 : decide (a < 56320) = false := by simp; omega
      clear ia
      go_enter Tryd.func20, Tryd.ntmps20
      go_wp2_with fail
      go_ret2
      exact ⟨rfl, 0, rfl⟩

theorem rjoin_pair (b o m cap : Nat) (a c : Int) (w : World) (hm : (m : Int) ≤ 4611686018427387904) (hm1 : 1 ≤ m) (hc : w.cell? ⟨b, o, none⟩ = some (.int .i64 a)) (hcc : w.cell? ⟨b, o + 1, none⟩ = some (.int .i64 c))
    (ha : 55296 ≤ a) (ha2 : a < 56320) (hl : 56320 ≤ c) (hl2 : c ≤ 57343) :
    Calls Tryd.prog 20 #[.slice (some ⟨b, o, none⟩) ((m + 1 : Nat) : Nat) cap] w fun e w' => e = .returned (.tuple #[.int .i64 (65536 + (a - 55296) * 1024 + c - 56320), .int .i64 2]) ∧ ∃ q, w' = w.drewN q := by
  have ia := fun w => refIs_any a w
  rw [show isI a = false by rw [isI_false]; omega] at ia
  have IA := Lib.hid ia; clear ia
  have hz : (((m + 1 : Nat) : Int) == 0) = false := by simp; omega
  have hp : (0 : Int) < (m : Int) + 1 := by omega
  have hp1 : (1 : Int) < (m : Int) + 1 := by omega
  have hp2 : decide ((1 : Int) < (m : Int) + 1) = true := by simp; omega
  have d1 : decide (55296 ≤ a) = true := by simp; omega
  have d2 : decide (a < 56320) = true := by simp; omega
  have d3 : decide (56320 ≤ c) = true := by simp; omega
  have d4 : decide (c < 57344) = true := by simp; omega
  go_enter Tryd.func20, Tryd.ntmps20
  go_wp2_with fail
  refine (IA.out _).mono ?_; rintro e w' ⟨rfl, rfl⟩
  go_wp2_with fail
  go_ret2
  refine ⟨?_, 0, rfl⟩
  simp [Int.mul_comm]

/-- WHAT Join GIVES, of units that read as a list. -/
theorem join_any (A : Option Addr) (len cap : Nat) (l : List Int) (w : World) (hr : RowI .i64 w A len l) (hlen : (len : Int) ≤ 4611686018427387904) :
    (Calls Tryd.prog 35 #[.slice A len cap] w fun e w' => e = .returned (.tuple #[.int .i64 (joinI l).1, .int .i64 (joinI l).2]) ∧ ∃ q, w' = w.drewN q) ∧
    (Calls Tryd.prog 20 #[.slice A len cap] w fun e w' => e = .returned (.tuple #[.int .i64 (joinI l).1, .int .i64 (joinI l).2]) ∧ ∃ q, w' = w.drewN q) := by
  obtain ⟨hl, hc⟩ := hr
  rcases l with _ | ⟨a, t⟩
  · obtain rfl : len = 0 := hl.symm
    exact ⟨join_nil A cap w, rjoin_nil A cap w⟩
  · obtain rfl : len = t.length + 1 := by simpa using hl.symm
    obtain ⟨b, o, rfl, _, hcell⟩ := hc (by omega)
    have hc0 : w.cell? ⟨b, o, none⟩ = some (.int .i64 a) := by simpa using hcell 0 (by omega)
    by_cases hi : a < 65536 ∧ isI a = true
    · have e : joinI (a :: t) = (a, 1) := by cases t <;> simp only [joinI] <;> rw [if_pos hi]
      rw [e]
      exact ⟨join_bmp b o t.length cap a w (by omega) hc0 hi.1 hi.2, rjoin_bmp b o t.length cap a w (by omega) hc0 hi.1 hi.2⟩
    · rcases t with _ | ⟨c, t⟩
      · have e : joinI [a] = (65533, 1) := by simp only [joinI]; rw [if_neg hi]
        rw [e]
        exact ⟨join_out b o 0 cap a 0 w (by omega) hc0 (fun h => absurd h (by omega)) hi (Or.inl rfl), rjoin_out b o 0 cap a 0 w (by omega) hc0 (fun h => absurd h (by omega)) hi (Or.inl rfl)⟩
      · have hc1 : w.cell? ⟨b, o + 1, none⟩ = some (.int .i64 c) := by simpa using hcell 1 (by simp)
        by_cases hp : (55296 ≤ a ∧ a < 56320) ∧ (56320 ≤ c ∧ c ≤ 57343)
        · have e : joinI (a :: c :: t) = (65536 + (a - 55296) * 1024 + c - 56320, 2) := by simp only [joinI]; rw [if_neg hi, if_pos hp]
          rw [e]
          exact ⟨join_pair b o (c :: t).length cap a c w (by omega) (by simp) hc0 hc1 hp.1.1 hp.1.2 hp.2.1 hp.2.2, rjoin_pair b o (c :: t).length cap a c w (by omega) (by simp) hc0 hc1 hp.1.1 hp.1.2 hp.2.1 hp.2.2⟩
        · have e : joinI (a :: c :: t) = (65533, 1) := by simp only [joinI]; rw [if_neg hi, if_neg hp]
          rw [e]
          exact ⟨join_out b o (c :: t).length cap a c w (by omega) hc0 (fun _ => hc1) hi (Or.inr hp), rjoin_out b o (c :: t).length cap a c w (by omega) hc0 (fun _ => hc1) hi (Or.inr hp)⟩

/-- There and back. -/
theorem join_units (r : Int) (us : List Int) (h : isI r = true) : joinI (unitsI r ++ us) = (r, ((unitsI r).length : Int)) := by
  have h0 := isI_cases h
  unfold unitsI
  by_cases h1 : r < 65536
  · rw [if_pos h1]
    simp only [List.cons_append, joinI]
    rw [if_pos ⟨h1, h⟩]
    rfl
  · rw [if_neg h1]
    simp only [List.cons_append, joinI]
    rw [if_neg (by rw [isI_true]; omega), if_pos (by omega)]
    congr 1
    omega
end Go.Proofs.YtoojfjealncddaaDoor
