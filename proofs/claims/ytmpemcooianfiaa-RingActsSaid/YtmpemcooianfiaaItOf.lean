/- Items that came in: a struct in which a record and hits lie. -/
import Derived.Test.YtmpemcooianfiaaItM
import Derived.Test.YtmpemcooianfiaaReads
import Derived.Deep.Slices
import Derived.Deep.Fields
import Derived.ChangeSame
namespace Go.Proofs.Ytmpemcooianfiaa
open Go Go.RowKit Go.ChangeShapes Go.WideShapes Go.ChangeAt
set_option linter.unusedVariables false
set_option maxRecDepth 20000

theorem int_bounds {c : Int} (h : (Lit.int .i64 c).wf = true) : -9223372036854775808 ≤ c ∧ c < 9223372036854775808 := by
  simp [Lit.wf, IntKind.min, IntKind.max, IntKind.signed, IntKind.bits] at h
  omega
section
variable {H : Type} {enc : TypeId × Value → H} {W : World} {base : Nat} {held : Bool}
theorem c_int : Try.prog.cellsOf 3 = 1 := by kernel_rfl
theorem c_str : Try.prog.cellsOf 9 = 1 := by kernel_rfl
theorem c_err : Try.prog.cellsOf 25 = 1 := by kernel_rfl
theorem c_hits : Try.prog.cellsOf 34 = 1 := by kernel_rfl
theorem c_rec : Try.prog.cellsOf 33 = 3 := by kernel_rfl
/-- A hit that came in. -/
theorem hit_of {n : Nat} {cs : List Value} {x : DataW H × List MemPlace} (hf : DataW.trod enc Try.prog W base (fun _ => true) held n 61 cs = some x) : ∃ y : Int × Int, cs = hcells y ∧ True := by
  obtain ⟨ys, n', _, _, hcl, hyl, hfl⟩ := DataW.trod_struct Try.underlying61 hf
  rw [hit_cells] at hcl
  match cs, hcl with
  | [c0, c1], _ =>
    match ys, hyl with
    | [y0, y1], _ =>
      have q0 : DataW.trod enc Try.prog W base (fun _ => true) held n' 3 [c0] = some y0 := by
        have h := hfl 0 _ rfl
        change DataW.trod enc Try.prog W base (fun _ => true) held n' 3 (List.take (Try.prog.cellsOf 3) [c0, c1]) = some y0 at h
        rw [c_int] at h
        exact h
      have q1 : DataW.trod enc Try.prog W base (fun _ => true) held n' 3 [c1] = some y1 := by
        have h := hfl 1 _ rfl
        change DataW.trod enc Try.prog W base (fun _ => true) held n' 3 (List.take (Try.prog.cellsOf 3) [c1]) = some y1 at h
        rw [c_int] at h
        exact h
      obtain ⟨i0, e0, _, _⟩ := DataW.trod_int Try.underlying3 q0
      obtain ⟨i1, e1, _, _⟩ := DataW.trod_int Try.underlying3 q1
      injection e0 with e0
      injection e1 with e1
      exact ⟨(i0, i1), by rw [e0, e1]; rfl, trivial⟩
/-- A record that came in. -/
theorem rec_of {n : Nat} {cs : List Value} {x : DataW H × List MemPlace} (hf : DataW.trod enc Try.prog W base (fun _ => true) held n 33 cs = some x) : ∃ (p q : Int) (s : ByteArray), cs = [.int .i64 p, .int .i64 q, .string s] := by
  obtain ⟨ys, n', _, _, hcl, hyl, hfl⟩ := DataW.trod_struct Try.underlying33 hf
  rw [c_rec] at hcl
  match cs, hcl with
  | [c0, c1, c2], _ =>
    match ys, hyl with
    | [y0, y1, y2], _ =>
      have q0 : DataW.trod enc Try.prog W base (fun _ => true) held n' 3 [c0] = some y0 := by
        have h := hfl 0 _ rfl
        change DataW.trod enc Try.prog W base (fun _ => true) held n' 3 (List.take (Try.prog.cellsOf 3) [c0, c1, c2]) = some y0 at h
        rw [c_int] at h
        exact h
      have q1 : DataW.trod enc Try.prog W base (fun _ => true) held n' 3 [c1] = some y1 := by
        have h := hfl 1 _ rfl
        change DataW.trod enc Try.prog W base (fun _ => true) held n' 3 (List.take (Try.prog.cellsOf 3) [c1, c2]) = some y1 at h
        rw [c_int] at h
        exact h
      have q2 : DataW.trod enc Try.prog W base (fun _ => true) held n' 9 [c2] = some y2 := by
        have h := hfl 2 _ rfl
        change DataW.trod enc Try.prog W base (fun _ => true) held n' 9 (List.take (Try.prog.cellsOf 9) [c2]) = some y2 at h
        rw [c_str] at h
        exact h
      obtain ⟨i0, e0, _, _⟩ := DataW.trod_int Try.underlying3 q0
      obtain ⟨i1, e1, _, _⟩ := DataW.trod_int Try.underlying3 q1
      obtain ⟨s2, e2, _, _⟩ := DataW.trod_string Try.underlying9 q2
      injection e0 with e0
      injection e1 with e1
      injection e2 with e2
      exact ⟨i0, i1, s2, by rw [e0, e1, e2]⟩
/-- An item that came in. -/
theorem item_of {n : Nat} {cs : List Value} {x : DataW H × List MemPlace} (hf : DataW.trod enc Try.prog W base (fun _ => true) held n 36 cs = some x) : ∃ y : It, cs = y.cells ∧ HitsAt 0 W y ∧ -9223372036854775808 ≤ y.n ∧ y.n < 9223372036854775808 := by
  obtain ⟨ys, n', _, _, hcl, hyl, hfl⟩ := DataW.trod_struct Try.underlying36 hf
  rw [item_cells] at hcl
  match cs, hcl with
  | [c0, c1, c2, c3, c4, c5, c6], _ =>
    match ys, hyl with
    | [y0, y1, y2, y3, y4], _ =>
      have q0 : DataW.trod enc Try.prog W base (fun _ => true) held n' 3 [c0] = some y0 := by
        have h := hfl 0 _ rfl
        change DataW.trod enc Try.prog W base (fun _ => true) held n' 3 (List.take (Try.prog.cellsOf 3) [c0, c1, c2, c3, c4, c5, c6]) = some y0 at h
        rw [c_int] at h
        exact h
      have q1 : DataW.trod enc Try.prog W base (fun _ => true) held n' 3 [c1] = some y1 := by
        have h := hfl 1 _ rfl
        change DataW.trod enc Try.prog W base (fun _ => true) held n' 3 (List.take (Try.prog.cellsOf 3) [c1, c2, c3, c4, c5, c6]) = some y1 at h
        rw [c_int] at h
        exact h
      have q2 : DataW.trod enc Try.prog W base (fun _ => true) held n' 33 [c2, c3, c4] = some y2 := by
        have h := hfl 2 _ rfl
        change DataW.trod enc Try.prog W base (fun _ => true) held n' 33 (List.take (Try.prog.cellsOf 33) [c2, c3, c4, c5, c6]) = some y2 at h
        rw [c_rec] at h
        exact h
      have q3 : DataW.trod enc Try.prog W base (fun _ => true) held n' 34 [c5] = some y3 := by
        have h := hfl 3 _ rfl
        change DataW.trod enc Try.prog W base (fun _ => true) held n' 34 (List.take (Try.prog.cellsOf 34) [c5, c6]) = some y3 at h
        rw [c_hits] at h
        exact h
      have q4 : DataW.trod enc Try.prog W base (fun _ => true) held n' 25 [c6] = some y4 := by
        have h := hfl 4 _ rfl
        change DataW.trod enc Try.prog W base (fun _ => true) held n' 25 (List.take (Try.prog.cellsOf 25) [c6]) = some y4 at h
        rw [c_err] at h
        exact h
      obtain ⟨i0, e0, _, hwf⟩ := DataW.trod_int Try.underlying3 q0
      obtain ⟨i1, e1, _, _⟩ := DataW.trod_int Try.underlying3 q1
      obtain ⟨p, q, s, e2⟩ := rec_of q2
      obtain ⟨i4, e4, _, _⟩ := DataW.trod_int Try.underlying25 q4
      obtain ⟨D', l', d', hc5⟩ : ∃ D' l' d', c5 = .slice D' l' d' := by
        rcases Go.Deep.open_slice Try.underlying34 q3 with ⟨hcs, _⟩ | ⟨ad', l', c', m', n'', D', Pl', hcs, _⟩
        · simp at hcs
          exact ⟨_, _, _, hcs⟩
        · simp at hcs
          exact ⟨_, _, _, hcs⟩
      subst hc5
      obtain ⟨hs, hrd, -, hnil, -⟩ := reads_of Try.underlying34 hit_cells (by decide) hcells (fun _ => True) (fun y => ⟨rfl, fun u hu => by
        simp only [hcells, List.mem_cons, List.not_mem_nil, or_false] at hu
        rcases hu with rfl | rfl <;> rfl⟩) (fun n cs x h => hit_of h) q3
      injection e0 with e0
      injection e1 with e1
      injection e2 with e2 e2'
      injection e2' with e3 e2'
      injection e2' with e2'
      injection e4 with e4
      exact ⟨⟨i0, i1, p, q, s, D', l', d', hs, i4⟩, by rw [e0, e1, e2, e3, e2', e4]; rfl, ⟨hrd, hnil⟩, (int_bounds hwf).1, (int_bounds hwf).2⟩
end
end Go.Proofs.Ytmpemcooianfiaa
