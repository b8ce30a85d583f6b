/- A list of acts that came in: each a kind, a node, a cause. -/
import Derived.Test.YtcgjpmokhpcnnaaReads
namespace Go.Proofs.Ytcgjpmokhpcnnaa
open Go Go.RowKit Go.ChangeShapes Go.WideShapes Go.ChangeAt
set_option linter.unusedVariables false
set_option maxRecDepth 20000
theorem act15_cells : Try.prog.cellsOf 30 = 3 := by kernel_rfl
/-- An act: its kind, its node, its cause. -/
def A15 (a : Int × Int × Int) : List Value := [.int .i64 a.1, .int .i64 a.2.1, .int .i64 a.2.2]
def RowA15 (w : World) (A : Option Addr) (n : Nat) (xs : List (Int × Int × Int)) : Prop := ReadR 0 w A n 3 (xs.map A15)
theorem c_int15 : Try.prog.cellsOf 3 = 1 := by kernel_rfl
theorem c_err15 : Try.prog.cellsOf 28 = 1 := by kernel_rfl
section
variable {H : Type} {enc : TypeId × Value → H} {W : World} {base : Nat} {held : Bool}
theorem act15_of {n : Nat} {cs : List Value} {x : DataW H × List MemPlace} (hf : DataW.trod enc Try.prog W base (fun _ => true) held n 30 cs = some x) : ∃ y : Int × Int × Int, cs = A15 y ∧ True := by
  obtain ⟨ys, n', _, _, hcl, hyl, hfl⟩ := DataW.trod_struct Try.underlying30 hf
  rw [act15_cells] at hcl
  match cs, hcl with
  | [c0, c1, c2], _ =>
    match ys, hyl with
    | [y0, y1, y2], _ =>
      have q0 : DataW.trod enc Try.prog W base (fun _ => true) held n' 3 [c0] = some y0 := by
        have h := hfl 0 _ rfl
        change DataW.trod enc Try.prog W base (fun _ => true) held n' 3 (List.take (Try.prog.cellsOf 3) [c0, c1, c2]) = some y0 at h
        rw [c_int15] at h
        exact h
      have q1 : DataW.trod enc Try.prog W base (fun _ => true) held n' 3 [c1] = some y1 := by
        have h := hfl 1 _ rfl
        change DataW.trod enc Try.prog W base (fun _ => true) held n' 3 (List.take (Try.prog.cellsOf 3) [c1, c2]) = some y1 at h
        rw [c_int15] at h
        exact h
      have q2 : DataW.trod enc Try.prog W base (fun _ => true) held n' 28 [c2] = some y2 := by
        have h := hfl 2 _ rfl
        change DataW.trod enc Try.prog W base (fun _ => true) held n' 28 (List.take (Try.prog.cellsOf 28) [c2]) = some y2 at h
        rw [c_err15] at h
        exact h
      obtain ⟨i0, e0, _, _⟩ := DataW.trod_int Try.underlying3 q0
      obtain ⟨i1, e1, _, _⟩ := DataW.trod_int Try.underlying3 q1
      obtain ⟨i2, e2, _, _⟩ := DataW.trod_int Try.underlying28 q2
      injection e0 with e0
      injection e1 with e1
      injection e2 with e2
      exact ⟨(i0, i1, i2), by rw [e0, e1, e2]; rfl, trivial⟩
theorem acts15_of {a : Option Addr} {len cap fuel : Nat} {x : DataW H × List MemPlace} (hf : DataW.trod enc Try.prog W base (fun _ => true) held fuel 22 [.slice a len cap] = some x) : ∃ xs, RowA15 W a len xs := by
  obtain ⟨xs, h1, _⟩ := reads_of Try.underlying22 act15_cells (by decide) A15 (fun _ => True) (fun y => ⟨rfl, fun u hu => by
    simp only [A15, List.mem_cons, List.not_mem_nil, or_false] at hu
    rcases hu with rfl | rfl | rfl <;> rfl⟩) (fun n cs x h => act15_of h) hf
  exact ⟨xs, h1⟩
end
end Go.Proofs.Ytcgjpmokhpcnnaa
