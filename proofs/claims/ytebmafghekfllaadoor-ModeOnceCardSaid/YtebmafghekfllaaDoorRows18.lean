/- Rows that came in: a record and hits each; an array of three whole numbers. -/
import Derived.Test.YtebmafghekfllaaDoorTwo18
import Derived.Test.YtebmafghekfllaaDoorReads
import Derived.Deep.Slices
import Derived.Deep.Fields
import Derived.ChangeSame
namespace Go.Proofs.YtebmafghekfllaaDoor
open Go Go.RowKit Go.ChangeShapes Go.WideShapes Go.ChangeAt
set_option linter.unusedVariables false
set_option maxRecDepth 20000
theorem int_bounds {c : Int} (h : (Lit.int .i64 c).wf = true) : -9223372036854775808 ≤ c ∧ c ≤ 9223372036854775807 := by
  simp [Lit.wf, IntKind.min, IntKind.max, IntKind.signed, IntKind.bits] at h
  omega
section
variable {H : Type} {enc : TypeId × Value → H} {W : World} {base : Nat} {held : Bool}
theorem c_int : Tryd.prog.cellsOf 3 = 1 := by kernel_rfl
theorem c_str : Tryd.prog.cellsOf 9 = 1 := by kernel_rfl
theorem c_hits : Tryd.prog.cellsOf 32 = 1 := by kernel_rfl
theorem c_rec : Tryd.prog.cellsOf 31 = 3 := by kernel_rfl
/-- A hit that came in. -/
theorem hit_of {n : Nat} {cs : List Value} {x : DataW H × List MemPlace} (hf : DataW.trod enc Tryd.prog W base (fun _ => true) held n 42 cs = some x) : ∃ y : Int × Int, cs = hcells y ∧ True := by
  obtain ⟨ys, n', _, _, hcl, hyl, hfl⟩ := DataW.trod_struct Tryd.underlying42 hf
  rw [hit_cells] at hcl
  match cs, hcl with
  | [c0, c1], _ =>
    match ys, hyl with
    | [y0, y1], _ =>
      have q0 : DataW.trod enc Tryd.prog W base (fun _ => true) held n' 3 [c0] = some y0 := by
        have h := hfl 0 _ rfl
        change DataW.trod enc Tryd.prog W base (fun _ => true) held n' 3 (List.take (Tryd.prog.cellsOf 3) [c0, c1]) = some y0 at h
        rw [c_int] at h
        exact h
      have q1 : DataW.trod enc Tryd.prog W base (fun _ => true) held n' 3 [c1] = some y1 := by
        have h := hfl 1 _ rfl
        change DataW.trod enc Tryd.prog W base (fun _ => true) held n' 3 (List.take (Tryd.prog.cellsOf 3) [c1]) = some y1 at h
        rw [c_int] at h
        exact h
      obtain ⟨i0, e0, _, _⟩ := DataW.trod_int Tryd.underlying3 q0
      obtain ⟨i1, e1, _, _⟩ := DataW.trod_int Tryd.underlying3 q1
      injection e0 with e0
      injection e1 with e1
      exact ⟨(i0, i1), by rw [e0, e1]; rfl, trivial⟩
/-- A record that came in. -/
theorem rec_of {n : Nat} {cs : List Value} {x : DataW H × List MemPlace} (hf : DataW.trod enc Tryd.prog W base (fun _ => true) held n 31 cs = some x) : ∃ (p q : Int) (s : ByteArray), cs = [.int .i64 p, .int .i64 q, .string s] ∧ -9223372036854775808 ≤ p ∧ p ≤ 9223372036854775807 := by
  obtain ⟨ys, n', _, _, hcl, hyl, hfl⟩ := DataW.trod_struct Tryd.underlying31 hf
  rw [c_rec] at hcl
  match cs, hcl with
  | [c0, c1, c2], _ =>
    match ys, hyl with
    | [y0, y1, y2], _ =>
      have q0 : DataW.trod enc Tryd.prog W base (fun _ => true) held n' 3 [c0] = some y0 := by
        have h := hfl 0 _ rfl
        change DataW.trod enc Tryd.prog W base (fun _ => true) held n' 3 (List.take (Tryd.prog.cellsOf 3) [c0, c1, c2]) = some y0 at h
        rw [c_int] at h
        exact h
      have q1 : DataW.trod enc Tryd.prog W base (fun _ => true) held n' 3 [c1] = some y1 := by
        have h := hfl 1 _ rfl
        change DataW.trod enc Tryd.prog W base (fun _ => true) held n' 3 (List.take (Tryd.prog.cellsOf 3) [c1, c2]) = some y1 at h
        rw [c_int] at h
        exact h
      have q2 : DataW.trod enc Tryd.prog W base (fun _ => true) held n' 9 [c2] = some y2 := by
        have h := hfl 2 _ rfl
        change DataW.trod enc Tryd.prog W base (fun _ => true) held n' 9 (List.take (Tryd.prog.cellsOf 9) [c2]) = some y2 at h
        rw [c_str] at h
        exact h
      obtain ⟨i0, e0, _, hwf⟩ := DataW.trod_int Tryd.underlying3 q0
      obtain ⟨i1, e1, _, _⟩ := DataW.trod_int Tryd.underlying3 q1
      obtain ⟨s2, e2, _, _⟩ := DataW.trod_string Tryd.underlying9 q2
      injection e0 with e0
      injection e1 with e1
      injection e2 with e2
      exact ⟨i0, i1, s2, by rw [e0, e1, e2], int_bounds hwf⟩
/-- A row that came in. -/
theorem row_of {n : Nat} {cs : List Value} {x : DataW H × List MemPlace} (hf : DataW.trod enc Tryd.prog W base (fun _ => true) held n 34 cs = some x) : ∃ y : Rw, cs = y.cells ∧ RHits W y ∧ -9223372036854775808 ≤ y.n ∧ y.n ≤ 9223372036854775807 := by
  obtain ⟨ys, n', _, _, hcl, hyl, hfl⟩ := DataW.trod_struct Tryd.underlying34 hf
  rw [row_cells] at hcl
  match cs, hcl with
  | [c0, c1, c2, c3], _ =>
    match ys, hyl with
    | [y0, y1], _ =>
      have q0 : DataW.trod enc Tryd.prog W base (fun _ => true) held n' 31 [c0, c1, c2] = some y0 := by
        have h := hfl 0 _ rfl
        change DataW.trod enc Tryd.prog W base (fun _ => true) held n' 31 (List.take (Tryd.prog.cellsOf 31) [c0, c1, c2, c3]) = some y0 at h
        rw [c_rec] at h
        exact h
      have q1 : DataW.trod enc Tryd.prog W base (fun _ => true) held n' 32 [c3] = some y1 := by
        have h := hfl 1 _ rfl
        change DataW.trod enc Tryd.prog W base (fun _ => true) held n' 32 (List.take (Tryd.prog.cellsOf 32) [c3]) = some y1 at h
        rw [c_hits] at h
        exact h
      obtain ⟨p, q, s, e0, hb⟩ := rec_of q0
      obtain ⟨D', l', d', hc3⟩ : ∃ D' l' d', c3 = .slice D' l' d' := by
        rcases Go.Deep.open_slice Tryd.underlying32 q1 with ⟨hcs, _⟩ | ⟨ad', l', c', m', n'', D', Pl', hcs, _⟩
        · simp at hcs
          exact ⟨_, _, _, hcs⟩
        · simp at hcs
          exact ⟨_, _, _, hcs⟩
      subst hc3
      obtain ⟨hs, hrd, -, hnil, -⟩ := reads_of Tryd.underlying32 hit_cells (by decide) hcells (fun _ => True) hwide (fun n cs x h => hit_of h) q1
      injection e0 with e0 e0'
      injection e0' with e1 e0'
      injection e0' with e2
      exact ⟨⟨p, q, s, D', l', d', hs⟩, by rw [e0, e1, e2]; rfl, ⟨hrd, hnil⟩, hb⟩
/-- Rows that came in, and their room. -/
def RowC18 (w : World) (A : Option Addr) (n c : Nat) (l : List Rw) : Prop := RowsIn w A n l ∧ n ≤ c
theorem rows18_of {a : Option Addr} {len cap fuel : Nat} {x : DataW H × List MemPlace} (hf : DataW.trod enc Tryd.prog W base (fun _ => true) held fuel 23 [.slice a len cap] = some x) : ∃ xs, RowC18 W a len cap xs := by
  obtain ⟨xs, h1, h2, _, h3, _⟩ := reads_of Tryd.underlying23 row_cells (by decide) Rw.cells (fun y => RHits W y ∧ -9223372036854775808 ≤ y.n ∧ y.n ≤ 9223372036854775807) Rw.wide (fun n cs x h => row_of h) hf
  exact ⟨xs, ⟨h1, h2⟩, h3⟩
/-- Three whole numbers in an array, opened. -/
theorem tri_of {r : Reach} {b0 : Nat} {v : Value} {d : DataW H} {p : List MemPlace} (hv : Value.okWide Tryd.prog W r b0 22 v) (h : DataW.Trod enc Tryd.prog W base (fun _ => true) held 22 v d p) :
    ∃ x y z : Int, v = .agg #[.int .i64 x, .int .i64 y, .int .i64 z] := by
  simp only [Value.okWide, Tryd.underlying22] at hv
  obtain ⟨cs, rfl, hsz, _⟩ := hv
  obtain ⟨fuel, hf⟩ := h
  obtain ⟨xs, m, _, _, _, hxl, hel⟩ := DataW.trod_array Tryd.underlying22 hf
  obtain ⟨l⟩ := cs
  match l, hsz.trans (show Tryd.prog.cellsOf 22 = 3 by kernel_rfl) with
  | [c0, c1, c2], _ =>
    match xs, hxl with
    | [y0, y1, y2], _ =>
      have q0 : DataW.trod enc Tryd.prog W base (fun _ => true) held m 3 [c0] = some y0 := by
        have h := hel 0 (by omega)
        rw [c_int] at h
        exact h
      have q1 : DataW.trod enc Tryd.prog W base (fun _ => true) held m 3 [c1] = some y1 := by
        have h := hel 1 (by omega)
        rw [c_int] at h
        exact h
      have q2 : DataW.trod enc Tryd.prog W base (fun _ => true) held m 3 [c2] = some y2 := by
        have h := hel 2 (by omega)
        rw [c_int] at h
        exact h
      obtain ⟨a, e0, _, _⟩ := DataW.trod_int Tryd.underlying3 q0
      obtain ⟨b, e1, _, _⟩ := DataW.trod_int Tryd.underlying3 q1
      obtain ⟨c, e2, _, _⟩ := DataW.trod_int Tryd.underlying3 q2
      injection e0 with e0
      injection e1 with e1
      injection e2 with e2
      exact ⟨a, b, c, by rw [e0, e1, e2]⟩
end
end Go.Proofs.YtebmafghekfllaaDoor
