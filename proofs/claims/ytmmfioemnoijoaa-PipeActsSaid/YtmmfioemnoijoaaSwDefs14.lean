/- PipeActs: the switch's code, the rest's code; what they leave. -/
import Derived.Test.YtmmfioemnoijoaaBoth14
import Derived.Deep.DeepCutAuto
import Derived.Deep.CutBlock
import Derived.Deep.LoopGhost
import Derived.Deep.RegionHeldLaw
namespace Go.Proofs.Ytmmfioemnoijoaa
open Go Go.RowKit
set_option linter.unusedVariables false

/-- The switch, out of the function's own text. -/
def findSw14 : Code → Option Code
  | .block 2 c => some (.block 2 c)
  | .block _ c => findSw14 c
  | .seq a b => match findSw14 a with
    | some c => some c
    | none => findSw14 b
  | .loop c => findSw14 c
  | .cond _ a b => match findSw14 a with
    | some c => some c
    | none => findSw14 b
  | _ => none
/-- What stands behind the switch in the round. -/
def findRest14 : Code → Option Code
  | .seq (.seq _ (.block 2 _)) b => some b
  | .block _ c => findRest14 c
  | .seq a b => match findRest14 a with
    | some c => some c
    | none => findRest14 b
  | .loop c => findRest14 c
  | .cond _ a b => match findRest14 a with
    | some c => some c
    | none => findRest14 b
  | _ => none
noncomputable def sw14Code : Code := (Try.f3.body.bind findSw14).getD .skip
noncomputable def rest14Code : Code := (Try.f3.body.bind findRest14).getD .skip
/-- A post that speaks of an end in order alone. -/
def OnlyN (R : Act → World → Prop) : Exit → Act → World → Prop
  | .normal, a, w => R a w
  | _, _, _ => False
theorem OnlyN.imp (Q : Exit → Act → World → Prop) : ∀ (e : Exit) (a : Act) (w : World), OnlyN (fun a w => Q .normal a w) e a w → Q e a w := fun e a w h => by
  cases e <;> first | exact h | exact (h : False).elim
/-- An act in a block. -/
def actObj (kd who : Int) (x : It) : Obj := .cells (Act14.cells ⟨kd, who, x⟩).toArray 38 (0, 0)
/-- What the switch leaves. -/
def SwRel14 (w0 : World) (g r k i ga : Nat) (kd who : Int) (x : It) (wx : World) : Prop :=
  ∃ (L : List (Int × It)) (s : Int) (cl : Bool), Hid (Both14 w0 wx [(ga, actObj kd who x)] g r k L s cl L s cl) ∧ Hid (OkL w0 (i + 1) L s)
theorem act_facts {w : World} {ga : Nat} {kd who : Int} {x : It} (h : w.heap[ga]? = some (actObj kd who x)) :
    w.cell? ⟨ga, 0, none⟩ = some (.int .i64 kd) ∧ w.cell? ⟨ga, 1, none⟩ = some (.int .i64 who) ∧ w.cell? ⟨ga, 2, none⟩ = some (.int .i64 x.n) ∧ w.cell? ⟨ga, 3, none⟩ = some (.int .i64 x.b) ∧ w.cell? ⟨ga, 4, none⟩ = some (.int .i64 x.rn) ∧ w.cell? ⟨ga, 5, none⟩ = some (.int .i64 x.ra) ∧ w.cell? ⟨ga, 6, none⟩ = some (.string x.tx) ∧ w.cell? ⟨ga, 7, none⟩ = some (.slice x.hA x.hm x.hc) ∧ w.cell? ⟨ga, 8, none⟩ = some (.int .i64 x.e) :=
  ⟨cell_of_row w ga 0 _ _ (0, 0) h, cell_of_row w ga 1 _ _ (0, 0) h, cell_of_row w ga 2 _ _ (0, 0) h, cell_of_row w ga 3 _ _ (0, 0) h, cell_of_row w ga 4 _ _ (0, 0) h, cell_of_row w ga 5 _ _ (0, 0) h, cell_of_row w ga 6 _ _ (0, 0) h, cell_of_row w ga 7 _ _ (0, 0) h, cell_of_row w ga 8 _ _ (0, 0) h⟩
/-- The loop over the items, out of the function's own text. -/
def findLoop14 : Code → Option Code
  | .block 3 c => some (.block 3 c)
  | .block _ c => findLoop14 c
  | .seq a b => match findLoop14 a with
    | some c => some c
    | none => findLoop14 b
  | .loop c => findLoop14 c
  | .cond _ a b => match findLoop14 a with
    | some c => some c
    | none => findLoop14 b
  | _ => none
noncomputable def loop14Code : Code := (Try.f3.body.bind findLoop14).getD .skip
end Go.Proofs.Ytmmfioemnoijoaa
