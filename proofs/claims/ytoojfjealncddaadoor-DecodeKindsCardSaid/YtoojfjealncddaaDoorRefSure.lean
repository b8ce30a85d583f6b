/- The document's own Sure. -/
import Derived.Test.YtoojfjealncddaaDoorMarkAny
namespace Go.Proofs.YtoojfjealncddaaDoor
open Go Go.RowKit
set_option linter.unusedVariables false

theorem strEqN (s : ByteArray) (t : List UInt8) : (s.toList == t) = decide (nums s = t.map fun c => (c.toNat : Int)) := by
  have h := strEq (nums s) (nums_byte s) t
  rw [strOfNums_nums] at h
  exact h

set_option maxHeartbeats 1000000 in
theorem refSure_any (s : ByteArray) (w : World) :
    Calls Tryd.prog 14 #[.string s] w fun e w' => e = .returned (.bool (sureI (nums s))) ∧ w' = w := by
  have e0 := strEqN s []
  have e1 := strEqN s [239]
  have e2 := strEqN s [239, 187]
  have e3 := strEqN s [255]
  have e4 := strEqN s [254]
  rw [show ([] : List UInt8).map (fun c => (c.toNat : Int)) = [] from rfl] at e0
  rw [show ([239] : List UInt8).map (fun c => (c.toNat : Int)) = [239] by decide] at e1
  rw [show ([239, 187] : List UInt8).map (fun c => (c.toNat : Int)) = [239, 187] by decide] at e2
  rw [show ([255] : List UInt8).map (fun c => (c.toNat : Int)) = [255] by decide] at e3
  rw [show ([254] : List UInt8).map (fun c => (c.toNat : Int)) = [254] by decide] at e4
  unfold sureI
  generalize decide (nums s = []) = d0 at *
  generalize decide (nums s = [239]) = d1 at *
  generalize decide (nums s = [239, 187]) = d2 at *
  generalize decide (nums s = [255]) = d3 at *
  generalize decide (nums s = [254]) = d4 at *
  rcases d0 with _ | _
  · rcases d1 with _ | _
    · rcases d2 with _ | _
      · rcases d3 with _ | _
        · rcases d4 with _ | _
          all_goals
            go_enter Tryd.func14, Tryd.ntmps14
            go_wp2
            go_ret
            exact ⟨rfl, rfl⟩
        · go_enter Tryd.func14, Tryd.ntmps14
          go_wp2
          go_ret
          exact ⟨by simp, rfl⟩
      · go_enter Tryd.func14, Tryd.ntmps14
        go_wp2
        go_ret
        exact ⟨by simp, rfl⟩
    · go_enter Tryd.func14, Tryd.ntmps14
      go_wp2
      go_ret
      exact ⟨by simp, rfl⟩
  · go_enter Tryd.func14, Tryd.ntmps14
    go_wp2
    go_ret
    exact ⟨by simp, rfl⟩
end Go.Proofs.YtoojfjealncddaaDoor
