/- What came in: an array of two octets. -/
import Derived.Test.YtcgjpmokhpcnnaaRows
import Derived.ChangeOld
import Derived.Deep.Slices
import Derived.Deep.Fields
import Derived.ChangeSame
import Derived.OpenShut
import Derived.ProofKit
namespace Go.Proofs.Ytcgjpmokhpcnnaa
open Go Go.RowKit Go.ChangeShapes Go.WideShapes Go.ChangeAt
set_option linter.unusedVariables false
set_option maxRecDepth 20000

theorem oct_cells : Try.prog.cellsOf 5 = 1 := by kernel_rfl
section
variable {H : Type} {enc : TypeId × Value → H} {W : World} {base : Nat} {held : Bool}
/-- The pair, opened. -/
theorem pair8_of {r : Reach} {b0 : Nat} {v : Value} {d : DataW H} {p : List MemPlace} (hv : Value.okWide Try.prog W r b0 49 v) (h : DataW.Trod enc Try.prog W base (fun _ => true) held 49 v d p) :
    ∃ x y : Nat, v = .agg #[.int .u8 (x : Int), .int .u8 (y : Int)] ∧ x < 256 ∧ y < 256 := by
  simp only [Value.okWide, Try.underlying49] at hv
  obtain ⟨cs, rfl, hsz, _⟩ := hv
  obtain ⟨fuel, hf⟩ := h
  obtain ⟨xs, m, _, _, _, hxl, hel⟩ := DataW.trod_array Try.underlying49 hf
  obtain ⟨l⟩ := cs
  match l, hsz.trans (show Try.prog.cellsOf 49 = 2 by kernel_rfl) with
  | [c0, c1], _ =>
    match xs, hxl with
    | [y0, y1], _ =>
      have q0 : DataW.trod enc Try.prog W base (fun _ => true) held m 5 [c0] = some y0 := by
        have h := hel 0 (by omega)
        rw [oct_cells] at h
        exact h
      have q1 : DataW.trod enc Try.prog W base (fun _ => true) held m 5 [c1] = some y1 := by
        have h := hel 1 (by omega)
        rw [oct_cells] at h
        exact h
      obtain ⟨a, e0, _, w0⟩ := DataW.trod_int Try.underlying5 q0
      obtain ⟨b, e1, _, w1⟩ := DataW.trod_int Try.underlying5 q1
      injection e0 with e0
      injection e1 with e1
      have f0 : 0 ≤ a ∧ a < 256 := by simp [Lit.wf, show IntKind.u8.min = 0 from rfl, show IntKind.u8.max = 255 from rfl] at w0; omega
      have f1 : 0 ≤ b ∧ b < 256 := by simp [Lit.wf, show IntKind.u8.min = 0 from rfl, show IntKind.u8.max = 255 from rfl] at w1; omega
      refine ⟨a.toNat, b.toNat, ?_, by omega, by omega⟩
      rw [e0, e1, Int.toNat_of_nonneg f0.1, Int.toNat_of_nonneg f1.1]
end
end Go.Proofs.Ytcgjpmokhpcnnaa
