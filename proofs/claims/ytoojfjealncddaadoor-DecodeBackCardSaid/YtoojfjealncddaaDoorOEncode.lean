/- Encode of package order, with its closure. -/
import Derived.Test.YtoojfjealncddaaDoorOOctets
import Derived.Test.YtoojfjealncddaaDoorREncode
import Derived.Deep.RegionHeld
namespace Go.Proofs.YtoojfjealncddaaDoor
open Go Go.RowKit
set_option linter.unusedVariables false

theorem own_below {w w' : World} {B : Nat} {e : TypeId} {k : Nat} {v : Value} {n : Nat} {xs : List Value} (h : w.ownsRow B e k v n xs) (hb : Below w.heap.size w w') : w'.ownsRow B e k v n xs := by
  refine ⟨h.1, ?_⟩
  rcases h.2 with h2 | ⟨g, cap, cur, hv, hbg, hg, hr⟩
  · exact .inl h2
  · have hlt : g < w.heap.size := (Array.getElem?_eq_some_iff.1 hg).1
    exact .inr ⟨g, cap, cur, hv, hbg, (hb.block g hlt).trans hg, hr⟩

set_option maxHeartbeats 1000000 in
theorem eput (k r : Int) (g : Nat) (w : World) (hc : w.cell? ⟨g, 0, none⟩ = some (.int .i64 k)) :
    Calls Tryd.prog 51 #[.int .i64 r, .pointer (some ⟨g, 0, none⟩)] w fun e w' => ∃ A' c', e = .returned (.slice A' (octL k (unitsI (sndI r))).length c') ∧ RowI .u8 w' A' (octL k (unitsI (sndI r))).length (octL k (unitsI (sndI r))) ∧ (octL k (unitsI (sndI r))).length ≤ c' ∧ c' ≤ maxLen ∧ (A' = none → (octL k (unitsI (sndI r))).length = 0 ∧ c' = 0) ∧ Below w.heap.size w w' := by
  have hu := fun w => units_any r w
  have hul := unitsI_len (sndI r)
  have hur := unitsI_room (sndI_is r)
  have hrow : RowI .i64 ((w.alloc (.cells ((unitsI (sndI r)).map (Value.int .i64)).toArray 3)).drew) (some ⟨w.heap.size, 0, none⟩) (unitsI (sndI r)).length (unitsI (sndI r)) :=
    (RowI.new .i64 w (unitsI (sndI r)) 3).below ((Below.refl _ _).drew) (Nat.le_refl _)
  have hoc := ooctets_any k (some ⟨w.heap.size, 0, none⟩) (unitsI (sndI r)).length (unitsI (sndI r)).length (unitsI (sndI r)) _ hrow (fun v hv => by have := hur v hv; omega) (by omega)
  obtain ⟨m, hm⟩ : ∃ m, m = (unitsI (sndI r)).length := ⟨_, rfl⟩
  rw [← hm] at hu hoc
  have hb1 : Below w.heap.size w ((w.alloc (.cells ((unitsI (sndI r)).map (Value.int .i64)).toArray 3)).drew) := by go_grown
  obtain ⟨o1, ho1⟩ : ∃ o, o = Obj.cells ((unitsI (sndI r)).map (Value.int .i64)).toArray 3 := ⟨_, rfl⟩
  rw [← ho1] at hu hoc hb1
  obtain ⟨p, hp⟩ : ∃ p, p = octL k (unitsI (sndI r)) := ⟨_, rfl⟩
  rw [← hp] at hoc ⊢
  have hlt := World.block_lt_of_cell? w _ hc
  have hoc : Calls Tryd.prog 52 #[.int .i64 k, .slice (some ⟨w.heap.size, 0, none⟩) m m] ((w.alloc o1).drew) fun e w' => ∃ A' c', e = .returned (.slice A' p.length c') ∧ RowI .u8 w' A' p.length p ∧ p.length ≤ c' ∧ c' ≤ maxLen ∧ (A' = none → p.length = 0 ∧ c' = 0) ∧ Below w.heap.size w w' ∧ w'.cell? ⟨g, 0, none⟩ = some (.int .i64 k) := hoc.mono fun e w' ⟨A', c', he, q1, q2, q3, q4, q5⟩ => by
    have hb2 : Below w.heap.size w w' := hb1.trans (Below.mono q5 (by simp))
    exact ⟨A', c', he, q1, q2, q3, q4, hb2, (hb2.cell hlt).trans hc⟩
  clear hm hul hur hrow ho1 hp hlt hb1
  have HU := Lib.hid hu; clear hu
  have HOC := Lib.hid hoc; clear hoc
  go_enter Tryd.func51, Tryd.ntmps51
  go_wp2_with fail
  go_region_held (fun w' => w'.cell? ⟨g, 0, none⟩ = some (.int .i64 k)) (first | assumption | go_keep) (first
    | (go_at_call 53; refine (HU.out _).mono ?_; rintro e w' ⟨rfl, rfl⟩)
    | (go_at_call 52; refine HOC.out.mono ?_; rintro e w' ⟨A', c', rfl, q1, q2, q3, q4, q5, q6⟩))
  go_wp2
  go_ret
  exact ⟨A', c', rfl, by assumption, by assumption, by assumption, by assumption, by assumption⟩
end Go.Proofs.YtoojfjealncddaaDoor
