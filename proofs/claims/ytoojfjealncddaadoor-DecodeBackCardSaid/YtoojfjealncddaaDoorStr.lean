/- string(b), of octets that read as a list. -/
import Derived.Test.YtoojfjealncddaaDoorCodeB
import Derived.Test.YtoojfjealncddaaDoorMem
import Derived.WalkSpells
namespace Go.Proofs.YtoojfjealncddaaDoor
open Go Go.RowKit

/-- string(b), of octets that read as a list. -/
theorem strRow (w : World) (A : Option Addr) (n c : Nat) (xs : List Int) (h : RowI .u8 w A n xs) :
    (convert 22 9 (.slice A n c)).run Tryd.prog w = .ok (.string (strOfNums xs)) w := by
  rcases Nat.eq_zero_or_pos n with h0 | h0
  · subst h0
    have : xs = [] := List.eq_nil_of_length_eq_zero h.1
    subst this
    rcases A with _ | ⟨b, o, sp⟩
    · exact run_convert_bytes_nil w 22 5 Tryd.underlying22 Tryd.underlying5 0 c 9 Tryd.underlying9
    · rw [run_convert_bytes_string w _ _ _ _ _ _ Tryd.underlying22 Tryd.underlying5 Tryd.underlying9]
      exact run_bytesToString (P := Tryd.prog) w ⟨b, o, sp⟩ 0 c [] (by simpa using run_loadCells_list (P := Tryd.prog) w ⟨b, o, sp⟩ [] (fun j v hj => by simp at hj))
  · obtain ⟨b, o, rfl, _, hc⟩ := h.2 h0
    exact run_convert_bytes_arg (P := Tryd.prog) w 22 5 Tryd.underlying22 Tryd.underlying5 b o n c xs h.1 hc 9 Tryd.underlying9
end Go.Proofs.YtoojfjealncddaaDoor
