/- The contract of layer 2's awake: the document's examples. -/
import Derived.Test.YtilmcadofnlldaaDoorOEncodeB
import Derived.Test.YtilmcadofnlldaaDoorMarkAny
import Derived.Test.YtilmcadofnlldaaDoorInts
namespace Go.Proofs.YtilmcadofnlldaaDoor
open Go Go.RowKit
set_option linter.unusedVariables false

set_option maxHeartbeats 1000000 in
theorem awake2_any (w : World) (hm : Marks w) : Calls Tryd.prog 7 #[] w fun e w' => e = .returned (.bool true) ∧ Below w.heap.size w w' := by
  have hrow : RowI .u8 (w.alloc (.cells #[.int .u8 255, .int .u8 254, .int .u8 65, .int .u8 0] 5)) (some ⟨w.heap.size, 0, none⟩) 4 [255, 254, 65, 0] := RowI.new .u8 w [255, 254, 65, 0] 5
  have hmk := mark_any (some ⟨w.heap.size, 0, none⟩) 4 4 _ _ (hm.below ((Below.refl w.heap.size w).alloc (Nat.le_refl _) _) (Nat.le_refl _)) hrow (by decide) (by decide) (by decide)
  rw [show markI [255, 254, 65, 0] = (2, 2) by decide] at hmk
  have HMK := Lib.hid hmk; clear hmk hrow
  have hen : ∀ w : World, Calls Tryd.prog 17 #[.int .i64 3, .slice (some ⟨w.heap.size, 0, none⟩) 1 1] (w.alloc (.cells #[.int .i64 65] 3)) fun e w' => ∃ A' c', e = .returned (.slice A' 2 c') ∧ RowI .u8 w' A' 2 [0, 65] ∧ Below (w.heap.size + 1) (w.alloc (.cells #[.int .i64 65] 3)) w' := by
    intro w
    have h := oencode_any 3 (some ⟨w.heap.size, 0, none⟩) 1 1 [65] _ (RowI.new .i64 w [65] 3) (by decide)
    rw [show encL 3 [65] = [0, 65] by decide] at h
    simpa using h
  have HEN := Lib.hid hen; clear hen
  go_enter Tryd.func7, Tryd.ntmps7
  go_wp2_with fail
  refine HMK.out.mono ?_; rintro e w1 ⟨rfl, hb1⟩
  have hb1' : Below w.heap.size w w1 := ((Below.refl _ _).alloc (Nat.le_refl _) _).trans (Below.mono hb1 (by simp))
  clear hb1
  go_wp2_with fail
  refine (HEN.out _).mono ?_; rintro e w2 ⟨A', c', rfl, hr2, hb2⟩
  have cv : (convert 22 9 (.slice A' 2 c')).run Tryd.prog w2 = .ok (.string ⟨#[0, 65]⟩) w2 := strRow w2 A' 2 c' [0, 65] hr2
  have hb2' : Below w.heap.size w w2 := (hb1'.alloc hb1'.size _).trans (Below.mono hb2 (by have := hb1'.size; omega))
  clear hr2 hb2
  go_wp2_with fail
  go_ret
  exact ⟨rfl, hb2'⟩
end Go.Proofs.YtilmcadofnlldaaDoor
