/- Words on memory: a slice of whole numbers that reads as a list. -/
import Derived.Test.YtbhbdhjkicmecaaPlain
import Derived.Below
import Derived.Laws.OwnMore
import Derived.Deep.AppendLies
import Derived.Deep.Draws
namespace Go.Proofs.Ytbhbdhjkicmecaa
open Go Go.RowKit

/-- The slice with address A and n elements reads as xs; where it has an element, it lies in a block that is there. -/
def RowI (k : IntKind) (w : World) (A : Option Addr) (n : Nat) (xs : List Int) : Prop :=
  xs.length = n ∧ (0 < n → ∃ b o, A = some ⟨b, o, none⟩ ∧ b < w.heap.size ∧ ∀ j, j < n → w.cell? ⟨b, o + j, none⟩ = some (.int k (xs.getD j 0)))

theorem below_drewN {B : Nat} {a w : World} (h : Below B a w) (q : Nat) : Below B a (w.drewN q) := ⟨h.os, h.tape, h.output, h.size, h.block⟩

theorem at_new (w : World) (o : Obj) {g : Nat} (hg : g = w.heap.size) : (w.alloc o).heap[g]? = some o := by subst hg; exact heap_alloc_new w o
theorem at_up {w : World} {g : Nat} {o : Obj} (h : w.heap[g]? = some o) (o' : Obj) : (w.alloc o').heap[g]? = some o := by
  have hlt : g < w.heap.size := by
    rcases Nat.lt_or_ge g w.heap.size with hlt | hge
    · exact hlt
    · rw [Array.getElem?_eq_none hge] at h; cases h
  exact (Below.heap_alloc w o' g hlt).trans h

section
variable {k : IntKind} {w w' : World} {A : Option Addr} {n : Nat} {xs : List Int}
theorem RowI.nil_ : RowI k w A 0 [] := ⟨rfl, fun h => absurd h (by omega)⟩
theorem RowI.drewN (h : RowI k w A n xs) (q : Nat) : RowI k (w.drewN q) A n xs := h
theorem RowI.below (h : RowI k w A n xs) {B : Nat} (hb : Below B w w') (hB : w.heap.size ≤ B) : RowI k w' A n xs := by
  refine ⟨h.1, fun hn => ?_⟩
  obtain ⟨b, o, hA, hlt, hc⟩ := h.2 hn
  refine ⟨b, o, hA, Nat.lt_of_lt_of_le hlt hb.size, fun j hj => ?_⟩
  rw [hb.cell (p := ⟨b, o + j, none⟩) (show b < B by omega)]
  exact hc j hj
theorem RowI.alloc (h : RowI k w A n xs) (o : Obj) : RowI k (w.alloc o) A n xs :=
  h.below ((Below.refl w.heap.size w).alloc (Nat.le_refl _) o) (Nat.le_refl _)
theorem RowI.new (k : IntKind) (w : World) (xs : List Int) (t : TypeId) : RowI k (w.alloc (.cells (xs.map (Value.int k)).toArray t)) (some ⟨w.heap.size, 0, none⟩) xs.length xs := by
  refine ⟨rfl, fun _ => ⟨_, _, rfl, by simp, fun j hj => ?_⟩⟩
  simp [List.getElem?_eq_getElem hj]
/-- s[i:j], of a slice that reads as a list. -/
theorem RowI.cut {b o : Nat} (h : RowI k w (some ⟨b, o, none⟩) n xs) {i j : Nat} (hij : i ≤ j) (hj : j ≤ n) : RowI k w (some ⟨b, o + i, none⟩) (j - i) ((xs.drop i).take (j - i)) := by
  have hl := h.1
  refine ⟨by simp; omega, fun hn => ?_⟩
  obtain ⟨b', o', hA, hlt, hc⟩ := h.2 (by omega)
  injection hA with hA
  injection hA with hb ho
  subst hb ho
  refine ⟨_, _, rfl, hlt, fun m hm => ?_⟩
  rw [Nat.add_assoc, hc (i + m) (by omega)]
  simp [List.getD, List.getElem?_drop, hm]
end
end Go.Proofs.Ytbhbdhjkicmecaa
