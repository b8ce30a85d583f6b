/- The decoder's memory; slices cut at a place. -/
import Derived.Test.YtoojfjealncddaaDoorOEncodeB
namespace Go.Proofs.YtoojfjealncddaaDoor
open Go Go.RowKit
set_option linter.unusedVariables false

/-- The decoder that lies in block g: its kind, the slice that it holds, whether it is closed. -/
def DecAt (w : World) (g : Nat) (k : Int) (v : Value) (cl : Bool) : Prop := w.heap[g]? = some (.cells #[.int .i64 k, v, .bool cl] 49 (0, 0))
section
variable {w w' : World} {g : Nat} {k : Int} {v : Value} {cl : Bool}
theorem DecAt.lt (h : DecAt w g k v cl) : g < w.heap.size := (Array.getElem?_eq_some_iff.1 h).1
theorem DecAt.c0 (h : DecAt w g k v cl) : w.cell? ⟨g, 0, none⟩ = some (.int .i64 k) := cell_of_row w g 0 _ _ (0, 0) h
theorem DecAt.c1 (h : DecAt w g k v cl) : w.cell? ⟨g, 1, none⟩ = some v := cell_of_row w g 1 _ _ (0, 0) h
theorem DecAt.c2 (h : DecAt w g k v cl) : w.cell? ⟨g, 2, none⟩ = some (.bool cl) := cell_of_row w g 2 _ _ (0, 0) h
theorem DecAt.fz (h : DecAt w g k v cl) (j : Nat) : w.frozen? ⟨g, j, none⟩ = false := by
  unfold DecAt at h
  simp [World.frozen?, h]
theorem DecAt.below (h : DecAt w g k v cl) {B : Nat} (hb : Below B w w') (hg : g < B) : DecAt w' g k v cl := (hb.block g hg).trans h
theorem DecAt.drewN (h : DecAt w g k v cl) (q : Nat) : DecAt (w.drewN q) g k v cl := h
theorem DecAt.set0 (h : DecAt w g k v cl) (k' : Int) : DecAt (w.setCell ⟨g, 0, none⟩ (.int .i64 k')) g k' v cl := heap_setCell_same w g 0 _ _ _ h
theorem DecAt.set1 (h : DecAt w g k v cl) (v' : Value) : DecAt (w.setCell ⟨g, 1, none⟩ v') g k v' cl := heap_setCell_same w g 1 _ _ _ h
theorem DecAt.set2 (h : DecAt w g k v cl) (c' : Bool) : DecAt (w.setCell ⟨g, 2, none⟩ (.bool c')) g k v c' := heap_setCell_same w g 2 _ _ _ h
end

/-- Where it has an address, it lies in a block from B on. -/
def Above (B : Nat) (A : Option Addr) : Prop := ∀ a, A = some a → B ≤ a.block

theorem RowI.set {k : IntKind} {w : World} {A : Option Addr} {n : Nat} {xs : List Int} (h : RowI k w A n xs) {g : Nat} (ha : Above (g + 1) A) (i : Nat) (u : Value) : RowI k (w.setCell ⟨g, i, none⟩ u) A n xs := by
  refine ⟨h.1, fun hn => ?_⟩
  obtain ⟨b, o, hA, hlt, hc⟩ := h.2 hn
  have hg := ha _ hA
  refine ⟨b, o, hA, by simpa using hlt, fun j hj => ?_⟩
  rw [World.cell?_setCell_other]
  · exact hc j hj
  · intro e
    injection e with e1
    subst e1
    simp at hg
    omega

theorem RowI.to {k : IntKind} {w : World} {A : Option Addr} {n : Nat} {xs : List Int} (h : RowI k w A n xs) {m : Nat} (hm : m ≤ n) : RowI k w A m (xs.take m) := by
  refine ⟨by rw [List.length_take, h.1]; omega, fun h0 => ?_⟩
  obtain ⟨b, o, hA, hlt, hc⟩ := h.2 (by omega)
  refine ⟨b, o, hA, hlt, fun j hj => ?_⟩
  rw [hc j (by omega)]
  simp [List.getD, hj]

theorem u8_elem : Tryd.prog.elem 22 = 5 := by kernel_rfl
theorem u8_size (w : World) : (sizeOf 5).run Tryd.prog w = .ok 1 w := by kernel_rfl
theorem u8_slice : Tryd.prog.underlying 22 = some (.slice (Tryd.prog.elem 22)) := by rw [u8_elem]; exact Tryd.underlying22

/-- b[l:], of a slice of octets at whatever address. -/
theorem slice_from (A : Option Addr) (n c l : Nat) (hl : l ≤ n) :
    ∃ A', (∀ w : World, (Instr.slice 22 (.slice A n c) (some (.int .i64 (l : Int))) none none).run Tryd.prog w = .ok (.slice A' (n - l) (c - l)) w) ∧
      (∀ (w : World) (xs : List Int), RowI .u8 w A n xs → n ≤ c → RowI .u8 w A' (n - l) (xs.drop l)) ∧ (∀ B, Above B A → Above B A') ∧ (A' = none → A = none) := by
  refine ⟨if c = l then A else A.map (·.add (l * 1)), fun w => ?_, fun w xs h hnc => ?_, fun B hB => ?_, ?_⟩
  · have hr := run_slice_l (P := Tryd.prog) (w := w) (t := 22) (a := A) (len := n) (cap := c) (ht := u8_slice) (kl := .i64) (l := (l : Int)) (h0 := by omega) (h1 := by omega)
    rw [hr, u8_elem, u8_size]
    simp [Result.andThen, sliced]
  · refine ⟨by rw [List.length_drop, h.1], fun h0 => ?_⟩
    obtain ⟨b, o, hA, hlt, hc⟩ := h.2 (by omega)
    rw [if_neg (by omega), hA]
    refine ⟨b, o + l, by simp [Addr.add], hlt, fun j hj => ?_⟩
    rw [Nat.add_assoc, hc (l + j) (by omega)]
    simp [List.getD, List.getElem?_drop]
  · intro a ha
    split at ha
    · exact hB a ha
    · rcases A with _ | x
      · cases ha
      · have h1 := hB x rfl
        simp at ha
        subst ha
        unfold Addr.add
        split <;> exact h1
  · intro h
    split at h
    · exact h
    · rcases A with _ | x
      · rfl
      · cases h

/-- b[:h], of a slice of octets at whatever address. -/
theorem slice_upto (A : Option Addr) (n c h : Nat) (hh : h ≤ c) (w : World) :
    (Instr.slice 22 (.slice A n c) none (some (.int .i64 (h : Int))) none).run Tryd.prog w = .ok (.slice A h c) w := by
  have hr := run_slice_h (P := Tryd.prog) (w := w) (t := 22) (a := A) (len := n) (cap := c) (ht := u8_slice) (kh := .i64) (h := (h : Int)) (h0 := by omega) (h2 := by omega)
  rw [hr, u8_elem, u8_size]
  have ha : (if c = 0 then A else A.map fun x => x.add (0 * 1)) = A := by
    split
    · rfl
    · cases A <;> simp [Addr.add]
  simp [Result.andThen, sliced]
  simpa using ha
end Go.Proofs.YtoojfjealncddaaDoor
