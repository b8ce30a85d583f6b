/- The document's example. -/
import Derived.Test.YtnfekbmmnenbfaaSplA
import Derived.Test.YtnfekbmmnenbfaaRAll
import Derived.Test.YtnfekbmmnenbfaaRSame
namespace Go.Proofs.Ytnfekbmmnenbfaa
open Go Go.RowKit
set_option linter.unusedVariables false

theorem awake_all : allR 9 (nums ⟨#[97, 13, 10, 98]⟩) true = ([⟨0, 0, [97]⟩, ⟨1, 3, [98]⟩], 0, 0) := rfl

set_option maxHeartbeats 1000000 in
theorem awake_any (w : World) : Calls Try.prog 7 #[] w fun e w' => e = .returned (.bool true) ∧ Below w.heap.size w w' := by
  have HALL := Lib.hid (all_any 9 ⟨#[97, 13, 10, 98]⟩ w (by decide) (by decide) (by decide))
  rw [awake_all] at HALL
  go_enter Try.func7, Try.ntmps7
  go_wp2_with (go_at_call 8; refine HALL.out.mono ?_; rintro e w' ⟨A, c, rfl, hown, hb⟩; obtain ⟨g, rfl, q0, q1, q2, q3, q4, q5⟩ : ∃ g, A = some ⟨g, 0, none⟩ ∧ w'.cell? ⟨g, 0, none⟩ = some (.int .i64 0) ∧ w'.cell? ⟨g, 1, none⟩ = some (.int .i64 0) ∧ w'.cell? ⟨g, 2, none⟩ = some (.string ⟨#[97]⟩) ∧ w'.cell? ⟨g, 3, none⟩ = some (.int .i64 1) ∧ w'.cell? ⟨g, 4, none⟩ = some (.int .i64 3) ∧ w'.cell? ⟨g, 5, none⟩ = some (.string ⟨#[98]⟩) := (by
    rcases hown.2 with ⟨h1, h2⟩ | ⟨g, cap, cu, h1, _⟩
    · exact absurd h2 (by decide)
    · injection h1 with h3 h4 h5
      subst h3
      exact ⟨g, rfl, hown.cellAt 0 (by decide), hown.cellAt 1 (by decide), hown.cellAt 2 (by decide), hown.cellAt 3 (by decide), hown.cellAt 4 (by decide), hown.cellAt 5 (by decide)⟩); clear hown)
  go_ret
  exact ⟨rfl, hb⟩
end Go.Proofs.Ytnfekbmmnenbfaa
