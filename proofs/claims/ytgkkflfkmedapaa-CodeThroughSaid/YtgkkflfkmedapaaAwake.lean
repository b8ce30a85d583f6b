/- The contract of awake: the document's examples. -/
import Derived.Test.YtgkkflfkmedapaaCodeB
import Derived.Test.YtgkkflfkmedapaaUnits
import Derived.WalkSpells
namespace Go.Proofs.Ytgkkflfkmedapaa
open Go Go.RowKit

/-- string(b), of octets that read as a list. -/
theorem strRow (w : World) (A : Option Addr) (n c : Nat) (xs : List Int) (h : RowI .u8 w A n xs) :
    (convert 22 9 (.slice A n c)).run Try.prog w = .ok (.string (strOfNums xs)) w := by
  rcases Nat.eq_zero_or_pos n with h0 | h0
  · subst h0
    have : xs = [] := List.eq_nil_of_length_eq_zero h.1
    subst this
    rcases A with _ | ⟨b, o, sp⟩
    · exact run_convert_bytes_nil w 22 5 Try.underlying22 Try.underlying5 0 c 9 Try.underlying9
    · rw [run_convert_bytes_string w _ _ _ _ _ _ Try.underlying22 Try.underlying5 Try.underlying9]
      exact run_bytesToString (P := Try.prog) w ⟨b, o, sp⟩ 0 c [] (by simpa using run_loadCells_list (P := Try.prog) w ⟨b, o, sp⟩ [] (fun j v hj => by simp at hj))
  · obtain ⟨b, o, rfl, _, hc⟩ := h.2 h0
    exact run_convert_bytes_arg (P := Try.prog) w 22 5 Try.underlying22 Try.underlying5 b o n c xs h.1 hc 9 Try.underlying9

theorem awake_any (w : World) : Calls Try.prog 9 #[] w fun e w' => e = .returned (.bool true) ∧ Below w.heap.size w w' := by
  have hp := fun w => put_any 8364 w
  rw [show sndI 8364 = 8364 by decide, show putI 8364 = [226, 130, 172] by decide, show putN 8364 = 3 by decide] at hp
  have hu := fun w => units_any 128512 w
  rw [show sndI 128512 = 128512 by decide, show unitsI 128512 = [55357, 56832] by decide] at hu
  have HP := Lib.hid hp; clear hp
  have HU := Lib.hid hu; clear hu
  go_enter Try.func9, Try.ntmps9
  go_wp2_with fail
  refine (HP.out _).mono ?_; rintro e w' ⟨rfl, rfl⟩
  have hs : (convert 22 9 (.slice (some ⟨w.heap.size, 0, none⟩) 3 3)).run Try.prog (w.alloc (.cells #[.int .u8 226, .int .u8 130, .int .u8 172] 5)) = .ok (.string ⟨#[226, 130, 172]⟩) (w.alloc (.cells #[.int .u8 226, .int .u8 130, .int .u8 172] 5)) := strRow _ _ 3 3 _ (RowI.new .u8 w [226, 130, 172] 5)
  go_wp2_with fail
  refine (HU.out _).mono ?_; rintro e w' ⟨rfl, rfl⟩
  go_wp2_with fail
  refine (ints_row _ _ 2 2 2 [55357, 56832] [55357, 56832] _ ?_ ?_ (by decide)).mono ?_
  · have h := (RowI.new .i64 (w.alloc (.cells #[.int .u8 226, .int .u8 130, .int .u8 172] 5)) [55357, 56832] 3).alloc (.cells #[.int .i64 55357, .int .i64 56832] 3)
    simpa using h
  · have h := RowI.new .i64 ((w.alloc (.cells #[.int .u8 226, .int .u8 130, .int .u8 172] 5)).alloc (.cells #[.int .i64 55357, .int .i64 56832] 3)) [55357, 56832] 3
    simpa using h
  rintro e w' ⟨rfl, q, rfl⟩
  go_wp2_with fail
  go_ret
  exact ⟨rfl, below_drewN (by go_grown) q⟩
end Go.Proofs.Ytgkkflfkmedapaa
