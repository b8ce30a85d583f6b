/- []byte(s), which is never nil. -/
import Derived.Test.YtoojfjealncddaaDoorNums
namespace Go.Proofs.YtoojfjealncddaaDoor
open Go Go.RowKit

/-- []byte(s): never nil. -/
theorem bytes_some (s : ByteArray) (w : World) (hs : s.size ≤ maxLen) : ∃ A c w', (convert 9 22 (.string s)).run Tryd.prog w = .ok (.slice (some A) s.size c) w' ∧ RowI .u8 w' (some A) s.size (nums s) ∧ s.size ≤ c ∧ c ≤ maxLen ∧ Below w.heap.size w w' := by
  refine ⟨_, _, _, run_bytes_of_string w _ _ _ s Tryd.underlying9 Tryd.underlying22 Tryd.underlying5, ⟨nums_length s, fun h0 => ⟨_, _, rfl, ?_, fun j hj => ?_⟩⟩, ?_, ?_, ?_⟩
  · show w.heap.size < (w.heap.push _).size
    rw [Array.size_push]; omega
  · rw [Nat.zero_add]
    refine (World.cell?_alloc_mark w.drew _ _ _ j).trans ?_
    unfold bytesRow
    rw [Array.getElem?_append_left (by rw [Array.size_map]; exact hj), Array.getElem?_map]
    have hj' : j < s.data.size := hj
    have hn : j < (nums s).length := by rw [nums_length]; exact hj
    rw [Array.getElem?_eq_getElem hj']
    have e := nums_get s j hj hn
    rw [List.getD, List.getElem?_eq_getElem hn, Option.getD_some, e]
    rfl
  · exact grownCap_ge w s.size 0 _
  · exact grownCap_le_maxLen w s.size 0 _ hs
  · exact ((Below.refl _ _).drew).alloc (Nat.le_refl _) _
end Go.Proofs.YtoojfjealncddaaDoor
