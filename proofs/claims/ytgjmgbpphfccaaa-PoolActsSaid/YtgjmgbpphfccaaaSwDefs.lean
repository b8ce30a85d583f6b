/- PoolActs: the switch's code, the rest's code; what they leave. -/
import Derived.Test.YtgjmgbpphfccaaaBoth
import Derived.Test.YtgjmgbpphfccaaaActs
import Derived.Test.YtgjmgbpphfccaaaAwake6
import Derived.Deep.DeepCutAuto
import Derived.Deep.CutBlock
import Derived.Deep.LoopGhost
import Derived.Deep.RegionHeldLaw
namespace Go.Proofs.Ytgjmgbpphfccaaa
open Go Go.RowKit
set_option linter.unusedVariables false

/-- The switch, out of the function's own text. -/
def findSw : Code → Option Code
  | .block 2 c => some (.block 2 c)
  | .block _ c => findSw c
  | .seq a b => match findSw a with
    | some c => some c
    | none => findSw b
  | .loop c => findSw c
  | .cond _ a b => match findSw a with
    | some c => some c
    | none => findSw b
  | _ => none
/-- What stands behind the switch in the round. -/
def findRest : Code → Option Code
  | .seq (.seq _ (.block 2 _)) b => some b
  | .block _ c => findRest c
  | .seq a b => match findRest a with
    | some c => some c
    | none => findRest b
  | .loop c => findRest c
  | .cond _ a b => match findRest a with
    | some c => some c
    | none => findRest b
  | _ => none
noncomputable def swCode : Code := (Try.f3.body.bind findSw).getD .skip
noncomputable def restCode : Code := (Try.f3.body.bind findRest).getD .skip
/-- A post that speaks of an end in order alone. -/
def OnlyN (R : Act → World → Prop) : Exit → Act → World → Prop
  | .normal, a, w => R a w
  | _, _, _ => False
theorem OnlyN.imp (Q : Exit → Act → World → Prop) : ∀ (e : Exit) (a : Act) (w : World), OnlyN (fun a w => Q .normal a w) e a w → Q e a w := fun e a w h => by
  cases e <;> first | exact h | exact (h : False).elim
/-- What the switch leaves. -/
def SwRel (W : World) (B g g2 gs ga k z i : Nat) (kd ai aa ab : Int) (D : Option Addr) (d : Nat) (ys : List Int) (wx : World) : Prop :=
  ∃ (F F2 : Nat → Prop) (s : St), Hid (Both wx B F F2 g g2 z s s) ∧ Hid (Safe wx F F2 gs #[.int .i64 (k : Int), .int .i64 (z : Int)] 22) ∧ Hid (Safe wx F F2 ga #[.int .i64 kd, .int .i64 ai, .int .i64 aa, .int .i64 ab, .slice D ys.length d] 33) ∧ Hid (Good k z (i + 2) s) ∧ Hid (Below W.heap.size W wx)
end Go.Proofs.Ytgjmgbpphfccaaa
