/- TreeStays of the program's tree, for all that comes in. -/
import Derived.Test.YtcgjpmokhpcnnaaTprC
import Derived.Test.YtcgjpmokhpcnnaaLawStay15
namespace Go.Proofs.Ytcgjpmokhpcnnaa
open Go Go.RowKit
set_option linter.unusedVariables false
set_option maxRecDepth 40000
set_option maxHeartbeats 4000000 in
theorem stay15_bad (A : Option Addr) (m c : Nat) (n cause : Int) (w : World) (h : 60 < m ∨ cause = 0) :
    Calls Try.prog 4 #[.slice A m c, .int .i64 n, .int .i64 cause] w fun e w' => e = .returned (.bool true) ∧ Below w.heap.size w w' := by
  have HA := Lib.hid fun (w1 : World) (hb : Below w.heap.size w w1) => awake15_any treF w hb
  by_cases hm : 60 < m
  · have hd : decide ((60 : Int) < (m : Int)) = true := by simp; omega
    clear h hm
    go_enter Try.func4, Try.ntmps4
    go_wp2_with fail
    refine (HA.out _ (Below.refl _ _)).mono ?_; rintro e w1 ⟨rfl, h1⟩
    have H1 := Lib.hid h1; clear h1
    go_wp2_with fail
    refine (HA.out _ H1.out).mono ?_; rintro e w2 ⟨rfl, h2⟩
    have H2 := Lib.hid h2; clear h2
    go_wp2_with fail
    go_ret
    exact ⟨rfl, H2.out⟩
  · have hc : cause = 0 := h.resolve_left hm
    subst hc
    have hd : decide ((60 : Int) < (m : Int)) = false := by simp; omega
    clear h hm
    go_enter Try.func4, Try.ntmps4
    go_wp2_with fail
    refine (HA.out _ (Below.refl _ _)).mono ?_; rintro e w1 ⟨rfl, h1⟩
    have H1 := Lib.hid h1; clear h1
    go_wp2_with fail
    refine (HA.out _ H1.out).mono ?_; rintro e w2 ⟨rfl, h2⟩
    have H2 := Lib.hid h2; clear h2
    go_wp2_with fail
    go_ret
    exact ⟨rfl, H2.out⟩
theorem stay15W (A : Option Addr) (m c : Nat) (acts : List (Int × Int × Int)) (n cause : Int) (w : World) (hr : RowA15 w A m acts) :
    Calls Try.prog 4 #[.slice A m c, .int .i64 n, .int .i64 cause] w fun e w' => e = .returned (.bool true) ∧ Below w.heap.size w w' := by
  by_cases h : 60 < m ∨ cause = 0
  · exact stay15_bad A m c n cause w h
  · exact stay15_any treF A m c acts n cause w hr (by omega) (fun e => h (.inr e))
end Go.Proofs.Ytcgjpmokhpcnnaa
