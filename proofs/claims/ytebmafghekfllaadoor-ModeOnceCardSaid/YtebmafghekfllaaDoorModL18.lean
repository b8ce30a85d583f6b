/- The program's line of a record; its lines of hits. -/
import Derived.Test.YtebmafghekfllaaDoorWin18
import Derived.Test.YtebmafghekfllaaDoorLinA18
import Derived.Test.YtebmafghekfllaaDoorItoS18
namespace Go.Proofs.YtebmafghekfllaaDoor
open Go Go.RowKit
set_option linter.unusedVariables false
set_option maxRecDepth 20000
def recV (n p : Int) (tx : ByteArray) : Value := .agg #[.int .i64 n, .int .i64 p, .string tx]
/-- Numbers as texts, in every world behind one. -/
theorem itoa_on {w : World} (hT : Pow18 w) (n : Int) (h0 : -9223372036854775808 ≤ n) (h1 : n ≤ 9223372036854775807) (w' : World) (hb : Below w.heap.size w w') : Calls Tryd.prog 26 #[.int .i64 n] w' fun e w2 => e = .returned (.string (itoaS n)) ∧ Below w'.heap.size w' w2 := itoaP_any n h0 h1 w' (hT.on hb)
set_option maxHeartbeats 4000000 in
theorem line_any (n p : Int) (tx m s : ByteArray) (w : World) (hT : Pow18 w) (h0 : -9223372036854775808 ≤ n) (h1 : n ≤ 9223372036854775807) (hm : m.size ≤ 1) (hs : s.size ≤ 100000) :
    Calls Tryd.prog 27 #[recV n p tx, .string m, .string s] w fun e w' => e = .returned (.string (itoaS n ++ m ++ s)) ∧ Below w.heap.size w w' := by
  have hz := itoaS_size_any n h0 h1
  have HI := Lib.hid (itoa_on hT n h0 h1)
  obtain ⟨q, hq⟩ : ∃ q, q = itoaS n := ⟨_, rfl⟩
  rw [← hq] at HI hz ⊢
  clear hq hT h0 h1
  obtain ⟨W0, hW0⟩ : ∃ W0, W0 = w.alloc (.cells #[.int .i64 n, .int .i64 p, .string tx] 31) := ⟨_, rfl⟩
  have HB := Lib.hid (show Below w.heap.size w W0 by rw [hW0]; exact (Below.refl _ _).alloc (Nat.le_refl _) _)
  have l1 : ¬ 9223372036854775807 < q.size + m.size := by omega
  have l2 : ¬ 9223372036854775807 < q.size + m.size + s.size := by omega
  unfold recV
  go_enter Tryd.func27, Tryd.ntmps27
  go_wp2_with fail
  rw [← hW0]
  (with_reducible refine (HI.out W0 HB.out).mono ?_); rintro e w3 ⟨rfl, hb3⟩
  go_wp2_with fail
  go_ret
  exact ⟨rfl, HB.out.trans (hb3.mono HB.out.size)⟩
end Go.Proofs.YtebmafghekfllaaDoor
