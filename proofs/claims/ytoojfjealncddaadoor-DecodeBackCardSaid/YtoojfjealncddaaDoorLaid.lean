/- The listed variable: out of the row's condition the marks, cell by cell; and a world that meets the condition. -/
import Derived.Test.YtoojfjealncddaaDoorMarks
import Derived.OpenShut
import Derived.Stop.Joined
import Derived.LaidMore
import Derived.MakeChecks
import Derived.ProofKit
namespace Go.Proofs.YtoojfjealncddaaDoor
open Go Go.ChangeShapes Go.WideShapes Go.ChangeAt Go.RowKit

theorem gMarks : Tryd.prog.globalNamed "reedbed/order.marks" = some 0 := by kernel_rfl
theorem tMarks : (Tryd.prog.globals[0]?).map (·.type) = some 62 := by kernel_rfl

theorem mark_at {H : Type} {enc : TypeId × Value → H} {W : World} {base : Nat} {sp : Nat → Bool} {held : Bool} {m : Nat} {c d : Value} {k : Int} {bs : List UInt8} {p : List MemPlace}
    (h : DataW.trod enc Tryd.prog W base sp held m 61 [c, d] = some (.agg [.lit (.int .i64 k), .lit (.string bs)], p)) : c = .int .i64 k ∧ d = .string ⟨bs.toArray⟩ := by
  obtain ⟨y0, y1, n, hx, _, h0, h1⟩ := trod_struct2 Tryd.underlying61 h
  have c3 : Tryd.prog.cellsOf 3 = 1 := by kernel_rfl
  have c9 : Tryd.prog.cellsOf 9 = 1 := by kernel_rfl
  simp [c3, c9] at h0 h1
  obtain ⟨k', e0, e1, _⟩ := DataW.trod_int Tryd.underlying3 h0
  obtain ⟨s, e2, e3, _⟩ := DataW.trod_string Tryd.underlying9 h1
  rw [e1, e3] at hx
  simp at hx e0 e2
  obtain ⟨⟨hk, hs⟩, _⟩ := hx
  subst hk
  refine ⟨e0, ?_⟩
  rw [e2, hs]

/-- WHAT THE CONDITION GIVES: the marks. -/
theorem marks_of_laid {W : World} (h : laidMetH Tryd.prog [("reedbed/order.marks", Rows.laid_reedbed_order_marks)] W) : Marks W := by
  rw [MakeChecks.laidMetH_plain _ _ _ (by kernel_rfl)] at h
  obtain ⟨ps, ⟨g0, t0, cs0, f0, p0, q0, hg0, ht0, hv0, hd0, _, _⟩, _, _⟩ := h
  obtain rfl := Option.some.inj (gMarks.symm.trans hg0)
  obtain rfl := Option.some.inj (tMarks.symm.trans ht0)
  obtain ⟨xs, m, rfl, hx, hlen, hn, hel⟩ := DataW.trod_array Tryd.underlying62 hd0
  have c39 : Tryd.prog.cellsOf 61 = 2 := by kernel_rfl
  have c40 : Tryd.prog.cellsOf 62 = 6 := by kernel_rfl
  have h0 := hel 0 (by decide)
  have h1 := hel 1 (by decide)
  have h2 := hel 2 (by decide)
  obtain ⟨l⟩ := cs0
  rw [c40] at hlen
  rw [c39] at h0 h1 h2
  have hcell : ∀ j, W.cell? ⟨0, j, none⟩ = l[j]? := fun j => by simpa using World.var?_cell hg0 hv0 j
  clear hel
  match l, hlen, xs, hn, hx, h0, h1, h2, hcell with
  | [a0, a1, a2, a3, a4, a5], _, [x0, x1, x2], _, hx, h0, h1, h2, hcell =>
    simp [Rows.laid_reedbed_order_marks] at hx
    obtain ⟨⟨e0, e1, e2⟩, _⟩ := hx
    obtain ⟨d0, q0⟩ := x0
    obtain ⟨d1, q1⟩ := x1
    obtain ⟨d2, q2⟩ := x2
    simp only at e0 e1 e2
    subst e0 e1 e2
    obtain ⟨r0, r1⟩ := mark_at (show DataW.trod _ Tryd.prog W 0 _ false m 61 [a0, a1] = _ from h0)
    obtain ⟨r2, r3⟩ := mark_at (show DataW.trod _ Tryd.prog W 0 _ false m 61 [a2, a3] = _ from h1)
    obtain ⟨r4, r5⟩ := mark_at (show DataW.trod _ Tryd.prog W 0 _ false m 61 [a4, a5] = _ from h2)
    subst r0 r1 r2 r3 r4 r5
    have k0 := hcell 0
    exact ⟨World.block_lt_of_cell? W ⟨0, 0, none⟩ k0, k0, hcell 1, hcell 2, hcell 3, hcell 4, hcell 5⟩

/-- The door's own heap meets the condition: three closed facts. -/
theorem door_met (os : Os) (args : Array Value) : laidMetH Tryd.prog [("reedbed/order.marks", Rows.laid_reedbed_order_marks)] ((World.doorLaid Tryd.prog 400 os).forCall (fun _ _ => 0) ⟨#[], args, []⟩).memory :=
  laidMetH_of_parts3 (fuel := 8) (laidMet_of_run' 8 (by kernel_rfl) (by kernel_rfl)) (by kernel_rfl) (by kernel_rfl)
end Go.Proofs.YtoojfjealncddaaDoor
