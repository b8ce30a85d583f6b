/- The program's find: errors.As behind a guard that catches what may panic. -/
import Derived.Test.YtlgpidpnjmbknaaDoorIs16
import Derived.Defers
import Derived.Recover
namespace Go.Proofs.YtlgpidpnjmbknaaDoor
open Go Go.RowKit
set_option linter.unusedVariables false
set_option maxRecDepth 20000
theorem guard_idle (w : World) :
    CallsD Tryd.prog 15 #[] .returning w fun e u' w' => e = .returned (.tuple #[]) ∧ u' = .returning ∧ w' = w := by
  refine callsD_of_wpS Tryd.func15 rfl fun c₀ cs hu => ?_
  apply wpS_region
  simp [wpOpsS, go_sem, recoverD, hu, Tryd.ntmps15]
  cases c₀
  simp_all [bodyPostS, results]
theorem find_any (e t : Value) (b : Bool) (R : World → Prop) (w : World) (h : Calls Tryd.prog 16 #[e, t] w fun ev w' => ev = .returned (.bool b) ∧ R w') :
    Calls Tryd.prog 12 #[e, t] w fun ev w' => ev = .returned (.bool b) ∧ R w' := by
  have hmf : ∀ (fn : Fn) (first cap : Array Value) (w : World), (Instr.makeFunc fn first cap).run Tryd.prog w = .ok (.func fn first cap) w := fun _ _ _ _ => rfl
  have H := Lib.hid h
  clear h
  go_enter_defers Tryd.func12, Tryd.ntmps12
  go_wp2_with fail
  refine H.out.mono ?_; rintro ev w1 ⟨rfl, hR⟩
  have HR := Lib.hid hR
  clear hR
  go_wp2_with fail
  refine leaves_cons (f := 15) (args := #[]) (by simp) (by simp [go_sem]) ?_
  refine (guard_idle _).mono ?_
  rintro e u' w'' ⟨rfl, rfl, rfl⟩
  simp [Leaves, settle, results, go_sem]
  exact HR.out
end Go.Proofs.YtlgpidpnjmbknaaDoor
