/- The document's Named. -/
import Derived.Test.YtiiclhkibpmgmaaRngR
namespace Go.Proofs.Ytiiclhkibpmgmaa
open Go Go.RowKit
set_option linter.unusedVariables false

set_option maxHeartbeats 4000000 in
theorem rnamed100 (r : Int) (W : World) :
    Calls Try.prog 20 #[.int .u8 100, .int .i64 r] W fun e w' => e = .returned (.tuple #[.bool (digitL r), .bool true]) ∧ W = w' := by
  go_enter Try.func20, Try.ntmps20
  go_wp2
  all_goals (go_ret2; refine ⟨?_, rfl⟩; simp only [digitL, Ending.returned.injEq, Value.tuple.injEq]; (simp_all <;> (first | omega | (by_cases h95 : r = 95 <;> simp_all <;> omega) | grind)))

set_option maxHeartbeats 4000000 in
theorem rnamed119 (r : Int) (W : World) :
    Calls Try.prog 20 #[.int .u8 119, .int .i64 r] W fun e w' => e = .returned (.tuple #[.bool (wordL r), .bool true]) ∧ W = w' := by
  go_enter Try.func20, Try.ntmps20
  go_wp2
  all_goals (go_ret2; refine ⟨?_, rfl⟩; simp only [wordL, digitL, Ending.returned.injEq, Value.tuple.injEq]; (simp_all <;> (first | omega | (by_cases h95 : r = 95 <;> simp_all <;> omega) | grind)))

set_option maxHeartbeats 4000000 in
theorem rnamed115 (r : Int) (W : World) :
    Calls Try.prog 20 #[.int .u8 115, .int .i64 r] W fun e w' => e = .returned (.tuple #[.bool (spaceL r), .bool true]) ∧ W = w' := by
  go_enter Try.func20, Try.ntmps20
  go_wp2
  all_goals (go_ret2; refine ⟨?_, rfl⟩; simp only [spaceL, Ending.returned.injEq, Value.tuple.injEq]; (simp_all <;> (first | omega | (by_cases h95 : r = 95 <;> simp_all <;> omega) | grind)))

set_option maxHeartbeats 4000000 in
theorem rnamed68 (r : Int) (W : World) :
    Calls Try.prog 20 #[.int .u8 68, .int .i64 r] W fun e w' => e = .returned (.tuple #[.bool (!digitL r), .bool true]) ∧ W = w' := by
  go_enter Try.func20, Try.ntmps20
  go_wp2
  all_goals (go_ret2; refine ⟨?_, rfl⟩; simp only [digitL, Ending.returned.injEq, Value.tuple.injEq]; (simp_all <;> (first | omega | (by_cases h95 : r = 95 <;> simp_all <;> omega) | grind)))

set_option maxHeartbeats 4000000 in
theorem rnamed87 (r : Int) (W : World) :
    Calls Try.prog 20 #[.int .u8 87, .int .i64 r] W fun e w' => e = .returned (.tuple #[.bool (!wordL r), .bool true]) ∧ W = w' := by
  go_enter Try.func20, Try.ntmps20
  go_wp2
  all_goals (go_ret2; refine ⟨?_, rfl⟩; simp only [wordL, digitL, Ending.returned.injEq, Value.tuple.injEq]; (simp_all <;> (first | omega | (by_cases h95 : r = 95 <;> simp_all <;> omega) | grind)))

set_option maxHeartbeats 4000000 in
theorem rnamed83 (r : Int) (W : World) :
    Calls Try.prog 20 #[.int .u8 83, .int .i64 r] W fun e w' => e = .returned (.tuple #[.bool (!spaceL r), .bool true]) ∧ W = w' := by
  go_enter Try.func20, Try.ntmps20
  go_wp2
  all_goals (go_ret2; refine ⟨?_, rfl⟩; simp only [spaceL, Ending.returned.injEq, Value.tuple.injEq]; (simp_all <;> (first | omega | (by_cases h95 : r = 95 <;> simp_all <;> omega) | grind)))

set_option maxHeartbeats 4000000 in
theorem rnamedNo (c r : Int) (W : World) (h1 : c ≠ 100) (h2 : c ≠ 119) (h3 : c ≠ 115) (h4 : c ≠ 68) (h5 : c ≠ 87) (h6 : c ≠ 83) :
    Calls Try.prog 20 #[.int .u8 c, .int .i64 r] W fun e w' => e = .returned (.tuple #[.bool false, .bool false]) ∧ W = w' := by
  have e1 : (c == 100) = false := by simpa using h1
  have e2 : (c == 119) = false := by simpa using h2
  have e3 : (c == 115) = false := by simpa using h3
  have e4 : (c == 68) = false := by simpa using h4
  have e5 : (c == 87) = false := by simpa using h5
  have e6 : (c == 83) = false := by simpa using h6
  clear h1 h2 h3 h4 h5 h6
  go_enter Try.func20, Try.ntmps20
  go_wp2
  all_goals (go_ret2; exact ⟨rfl, rfl⟩)
theorem rnamed_any (c r : Int) (W : World) :
    Calls Try.prog 20 #[.int .u8 c, .int .i64 r] W fun e w' => e = .returned (.tuple #[.bool (namedL c r).1, .bool (namedL c r).2]) ∧ W = w' := by
  unfold namedL
  by_cases h1 : c = 100
  · subst h1; rw [if_pos rfl]; exact rnamed100 r W
  rw [if_neg h1]
  by_cases h2 : c = 119
  · subst h2; rw [if_pos rfl]; exact rnamed119 r W
  rw [if_neg h2]
  by_cases h3 : c = 115
  · subst h3; rw [if_pos rfl]; exact rnamed115 r W
  rw [if_neg h3]
  by_cases h4 : c = 68
  · subst h4; rw [if_pos rfl]; exact rnamed68 r W
  rw [if_neg h4]
  by_cases h5 : c = 87
  · subst h5; rw [if_pos rfl]; exact rnamed87 r W
  rw [if_neg h5]
  by_cases h6 : c = 83
  · subst h6; rw [if_pos rfl]; exact rnamed83 r W
  rw [if_neg h6]
  exact rnamedNo c r W h1 h2 h3 h4 h5 h6
end Go.Proofs.Ytiiclhkibpmgmaa
