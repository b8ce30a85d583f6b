/- places: where a unit's octets stand; units and their octets, in plain words. -/
import Derived.Test.YtoojfjealncddaaDoorCodeB
import Derived.Test.YtoojfjealncddaaDoorMem
import Derived.Laws.ResultCell
namespace Go.Proofs.YtoojfjealncddaaDoor
open Go Go.RowKit
set_option linter.unusedVariables false

theorem places2 (w : World) : Calls Tryd.prog 48 #[.int .i64 2] w fun e w' => e = .returned (.tuple #[.agg #[.int .i64 0, .int .i64 8], .bool true]) ∧ w' = w.alloc (.cells #[.int .i64 0, .int .i64 8] 65) := by
  go_enter Tryd.func48, Tryd.ntmps48
  go_wp2
  (try simp only [Exit.inBlock, Exit.then])
  refine bodyPost_ret (v := .tuple #[.agg #[.int .i64 0, .int .i64 8], .bool true]) ?_ rfl ⟨rfl, rfl⟩
  rw [results_cell_tmp rfl]; go_simp
theorem places3 (w : World) : Calls Tryd.prog 48 #[.int .i64 3] w fun e w' => e = .returned (.tuple #[.agg #[.int .i64 8, .int .i64 0], .bool true]) ∧ w' = w.alloc (.cells #[.int .i64 8, .int .i64 0] 65) := by
  go_enter Tryd.func48, Tryd.ntmps48
  go_wp2
  (try simp only [Exit.inBlock, Exit.then])
  refine bodyPost_ret (v := .tuple #[.agg #[.int .i64 8, .int .i64 0], .bool true]) ?_ rfl ⟨rfl, rfl⟩
  rw [results_cell_tmp rfl]; go_simp
theorem placesNo (k : Int) (w : World) (h2 : k ≠ 2) (h3 : k ≠ 3) : Calls Tryd.prog 48 #[.int .i64 k] w fun e w' => e = .returned (.tuple #[.agg #[.int .i64 0, .int .i64 0], .bool false]) ∧ w' = w.alloc (.cells #[.int .i64 0, .int .i64 0] 65) := by
  have e2 : (k == 2) = false := by simpa using h2
  have e3 : (k == 3) = false := by simpa using h3
  clear h2 h3
  go_enter Tryd.func48, Tryd.ntmps48
  go_wp2
  (try simp only [Exit.inBlock, Exit.then])
  refine bodyPost_ret (v := .tuple #[.agg #[.int .i64 0, .int .i64 0], .bool false]) ?_ rfl ⟨rfl, rfl⟩
  rw [results_cell_tmp rfl]; go_simp

/-- A unit, out of two octets. -/
def unit2 (k a b : Int) : Int := if k = 2 then a + 256 * b else b + 256 * a
/-- The first j units. -/
def unitsAt (k : Int) (l : List Int) (j : Nat) : List Int := (List.range j).map fun i => unit2 k (l.getD (2 * i) 0) (l.getD (2 * i + 1) 0)
/-- The units of octets. -/
def unitsL (k : Int) (l : List Int) : List Int := if k = 2 ∨ k = 3 then unitsAt k l (l.length / 2) else []
/-- A unit's octets. -/
def oct2 (k u : Int) : List Int := if k = 2 then [u % 256, u / 256 % 256] else if k = 3 then [u / 256 % 256, u % 256] else []
/-- The octets of units. -/
def octL (k : Int) (us : List Int) : List Int := us.flatMap (oct2 k)

theorem unitsAt_succ (k : Int) (l : List Int) (j : Nat) : unitsAt k l (j + 1) = unitsAt k l j ++ [unit2 k (l.getD (2 * j) 0) (l.getD (2 * j + 1) 0)] := by
  simp [unitsAt, List.range_succ]
theorem unitsAt_length (k : Int) (l : List Int) (j : Nat) : (unitsAt k l j).length = j := by simp [unitsAt]
theorem unitsL_length {k : Int} (h : k = 2 ∨ k = 3) (l : List Int) : (unitsL k l).length = l.length / 2 := by
  rw [unitsL, if_pos h, unitsAt_length]
theorem unitsL_is {k : Int} (h : k = 2 ∨ k = 3) (l : List Int) : unitsL k l = unitsAt k l (l.length / 2) := by rw [unitsL, if_pos h]
theorem unitsL_no {k : Int} (h : ¬ (k = 2 ∨ k = 3)) (l : List Int) : unitsL k l = [] := by rw [unitsL, if_neg h]
theorem octL_append (k : Int) (us vs : List Int) : octL k (us ++ vs) = octL k us ++ octL k vs := by simp [octL]
theorem octL_one (k u : Int) : octL k [u] = oct2 k u := by simp [octL]
theorem octL_nil (k : Int) : octL k [] = [] := rfl
theorem octL_no {k : Int} (h : ¬ (k = 2 ∨ k = 3)) (us : List Int) : octL k us = [] := by
  have h2 : ¬ k = 2 := fun e => h (.inl e)
  have h3 : ¬ k = 3 := fun e => h (.inr e)
  simp [octL, oct2, h2, h3]
theorem oct2_length {k : Int} (h : k = 2 ∨ k = 3) (u : Int) : (oct2 k u).length = 2 := by
  rcases h with rfl | rfl <;> simp [oct2]
theorem octL_length {k : Int} (h : k = 2 ∨ k = 3) : ∀ us : List Int, (octL k us).length = 2 * us.length
  | [] => rfl
  | u :: us => by
    have := octL_length h us
    rw [show u :: us = [u] ++ us from rfl, octL_append, List.length_append, octL_one, oct2_length h, this]
    simp; omega
theorem octL_le (k : Int) (us : List Int) : (octL k us).length ≤ 2 * us.length := by
  by_cases h : k = 2 ∨ k = 3
  · exact Nat.le_of_eq (octL_length h us)
  · rw [octL_no h]; simp
theorem oct2_byte (k u : Int) : ∀ c ∈ oct2 k u, 0 ≤ c ∧ c < 256 := by
  intro c hc
  unfold oct2 at hc
  split at hc
  · simp at hc; omega
  · split at hc
    · simp at hc; omega
    · simp at hc
theorem octL_byte (k : Int) (us : List Int) : ∀ c ∈ octL k us, 0 ≤ c ∧ c < 256 := by
  intro c hc
  obtain ⟨u, _, h⟩ := List.mem_flatMap.1 hc
  exact oct2_byte k u c h

/-- There and back: octets' units' octets. -/
theorem oct_units {k : Int} (h : k = 2 ∨ k = 3) (l : List Int) (hb : ∀ c ∈ l, 0 ≤ c ∧ c < 256) : ∀ j, 2 * j ≤ l.length → octL k (unitsAt k l j) = l.take (2 * j)
  | 0, _ => by simp [unitsAt, octL]
  | j + 1, hj => by
    have ih := oct_units h l hb j (by omega)
    have e1 : l.getD (2 * j) 0 = l[2 * j] := by simp [List.getD, show 2 * j < l.length by omega]
    have e2 : l.getD (2 * j + 1) 0 = l[2 * j + 1] := by simp [List.getD, show 2 * j + 1 < l.length by omega]
    have b1 := hb l[2 * j] (List.getElem_mem _)
    have b2 := hb l[2 * j + 1] (List.getElem_mem _)
    rw [unitsAt_succ, octL_append, ih, octL_one, e1, e2, show 2 * (j + 1) = 2 * j + 1 + 1 by omega, List.take_succ_eq_append_getElem (by omega), List.take_succ_eq_append_getElem (by omega), List.append_assoc]
    congr 1
    rcases h with rfl | rfl
    · simp [oct2, unit2]; omega
    · simp [oct2, unit2]; omega
end Go.Proofs.YtoojfjealncddaaDoor
