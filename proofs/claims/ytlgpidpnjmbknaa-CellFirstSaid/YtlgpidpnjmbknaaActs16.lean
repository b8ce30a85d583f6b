/- A list of reports that came in: each a cause, a note, when. -/
import Derived.Test.YtlgpidpnjmbknaaReads
import Derived.Test.YtlgpidpnjmbknaaRef16
namespace Go.Proofs.Ytlgpidpnjmbknaa
open Go Go.RowKit Go.ChangeShapes Go.WideShapes Go.ChangeAt
set_option linter.unusedVariables false
set_option maxRecDepth 20000
def RowB16 (w : World) (A : Option Addr) (n c : Nat) (xs : List Rep) : Prop := RowA16 w A n xs ∧ n ≤ c
theorem c_int16 : Try.prog.cellsOf 3 = 1 := by kernel_rfl
theorem c_str16 : Try.prog.cellsOf 9 = 1 := by kernel_rfl
section
variable {H : Type} {enc : TypeId × Value → H} {W : World} {base : Nat} {held : Bool}
theorem rep16_of {n : Nat} {cs : List Value} {x : DataW H × List MemPlace} (hf : DataW.trod enc Try.prog W base (fun _ => true) held n 27 cs = some x) : ∃ y : Rep, cs = R16 y ∧ True := by
  obtain ⟨ys, n', _, _, hcl, hyl, hfl⟩ := DataW.trod_struct Try.underlying27 hf
  rw [rep_cells] at hcl
  match cs, hcl with
  | [c0, c1, c2], _ =>
    match ys, hyl with
    | [y0, y1, y2], _ =>
      have q0 : DataW.trod enc Try.prog W base (fun _ => true) held n' 3 [c0] = some y0 := by
        have h := hfl 0 _ rfl
        change DataW.trod enc Try.prog W base (fun _ => true) held n' 3 (List.take (Try.prog.cellsOf 3) [c0, c1, c2]) = some y0 at h
        rw [c_int16] at h
        exact h
      have q1 : DataW.trod enc Try.prog W base (fun _ => true) held n' 9 [c1] = some y1 := by
        have h := hfl 1 _ rfl
        change DataW.trod enc Try.prog W base (fun _ => true) held n' 9 (List.take (Try.prog.cellsOf 9) [c1, c2]) = some y1 at h
        rw [c_str16] at h
        exact h
      have q2 : DataW.trod enc Try.prog W base (fun _ => true) held n' 3 [c2] = some y2 := by
        have h := hfl 2 _ rfl
        change DataW.trod enc Try.prog W base (fun _ => true) held n' 3 (List.take (Try.prog.cellsOf 3) [c2]) = some y2 at h
        rw [c_int16] at h
        exact h
      obtain ⟨i0, e0, _, _⟩ := DataW.trod_int Try.underlying3 q0
      obtain ⟨i1, e1, _, _⟩ := DataW.trod_string Try.underlying9 q1
      obtain ⟨i2, e2, _, _⟩ := DataW.trod_int Try.underlying3 q2
      injection e0 with e0
      injection e1 with e1
      injection e2 with e2
      exact ⟨(i0, i1, i2), by rw [e0, e1, e2]; rfl, trivial⟩
theorem acts16_of {a : Option Addr} {len cap fuel : Nat} {x : DataW H × List MemPlace} (hf : DataW.trod enc Try.prog W base (fun _ => true) held fuel 22 [.slice a len cap] = some x) : ∃ xs, RowB16 W a len cap xs := by
  obtain ⟨xs, h1, _, _, h2, _⟩ := reads_of Try.underlying22 rep_cells (by decide) R16 (fun _ => True) R16_wide (fun n cs x h => rep16_of h) hf
  exact ⟨xs, h1, h2⟩
end
end Go.Proofs.Ytlgpidpnjmbknaa
