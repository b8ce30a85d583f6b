/- A list of acts that came in: a kind and an item each. -/
import Derived.Test.YtmpemcooianfiaaItOf
namespace Go.Proofs.Ytmpemcooianfiaa
open Go Go.RowKit Go.ChangeShapes Go.WideShapes Go.ChangeAt
set_option linter.unusedVariables false
set_option maxRecDepth 20000
structure Act17 where
  kind : Int
  x : It
def Act17.cells (a : Act17) : List Value := .int .i64 a.kind :: a.x.cells
def Act17.fits (w : World) (a : Act17) : Prop := HitsAt 0 w a.x ∧ -9223372036854775808 ≤ a.x.n ∧ a.x.n < 9223372036854775808
/-- A row of acts that came in. -/
def RowA17 (w : World) (A : Option Addr) (n : Nat) (xs : List Act17) : Prop := ReadR 0 w A n 8 (xs.map Act17.cells) ∧ ∀ a ∈ xs, a.fits w
theorem act17_cells : Try.prog.cellsOf 38 = 8 := by kernel_rfl
section
variable {H : Type} {enc : TypeId × Value → H} {W : World} {base : Nat} {held : Bool}
/-- An act that came in. -/
theorem act17_of {n : Nat} {cs : List Value} {x : DataW H × List MemPlace} (hf : DataW.trod enc Try.prog W base (fun _ => true) held n 38 cs = some x) : ∃ y : Act17, cs = y.cells ∧ y.fits W := by
  obtain ⟨ys, n', _, _, hcl, hyl, hfl⟩ := DataW.trod_struct Try.underlying38 hf
  rw [act17_cells] at hcl
  match cs, hcl with
  | [a0, c0, c1, c2, c3, c4, c5, c6], _ =>
    match ys, hyl with
    | [y0, y1], _ =>
      have q0 : DataW.trod enc Try.prog W base (fun _ => true) held n' 3 [a0] = some y0 := by
        have h := hfl 0 _ rfl
        change DataW.trod enc Try.prog W base (fun _ => true) held n' 3 (List.take (Try.prog.cellsOf 3) [a0, c0, c1, c2, c3, c4, c5, c6]) = some y0 at h
        rw [c_int] at h
        exact h
      have q1 : DataW.trod enc Try.prog W base (fun _ => true) held n' 36 [c0, c1, c2, c3, c4, c5, c6] = some y1 := by
        have h := hfl 1 _ rfl
        change DataW.trod enc Try.prog W base (fun _ => true) held n' 36 (List.take (Try.prog.cellsOf 36) [c0, c1, c2, c3, c4, c5, c6]) = some y1 at h
        rw [item_cells] at h
        exact h
      obtain ⟨i0, e0, _, _⟩ := DataW.trod_int Try.underlying3 q0
      obtain ⟨z, ez, hz⟩ := item_of q1
      injection e0 with e0
      exact ⟨⟨i0, z⟩, by rw [e0, ez]; rfl, hz⟩
theorem act17_wide (a : Act17) : a.cells.length = 8 ∧ ∀ u ∈ a.cells, u.oneCell' = true := by
  refine ⟨rfl, fun u hu => ?_⟩
  rcases List.mem_cons.1 hu with rfl | hu
  · rfl
  · exact a.x.wide.2 u hu
theorem acts17_of {a : Option Addr} {len cap fuel : Nat} {x : DataW H × List MemPlace} (hf : DataW.trod enc Try.prog W base (fun _ => true) held fuel 22 [.slice a len cap] = some x) : ∃ xs, RowA17 W a len xs := by
  obtain ⟨xs, h1, h2, _⟩ := reads_of Try.underlying22 act17_cells (by decide) Act17.cells (fun y => y.fits W) act17_wide (fun n cs x h => act17_of h) hf
  exact ⟨xs, h1, h2⟩
end
end Go.Proofs.Ytmpemcooianfiaa
