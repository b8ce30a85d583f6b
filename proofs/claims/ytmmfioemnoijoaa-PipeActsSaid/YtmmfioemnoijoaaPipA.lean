/- The document's example; a row of items that is sent and taken. -/
import Derived.Test.YtmmfioemnoijoaaPipN
namespace Go.Proofs.Ytmmfioemnoijoaa
open Go Go.RowKit
set_option linter.unusedVariables false
set_option maxRecDepth 20000

section
variable {w0 w w' : World} {cs : List (Nat × Obj)} {g room a n : Nat} {sent : Int} {closed : Bool}
theorem row_sendE (room a n : Nat) (s : Nat) (hs : s = a + n) : sendE room (rowN a n) false (s : Int) = 0 := by
  have : ¬ 0 ≤ offI room (rowN a n) (s : Int) := by rw [rowN_off]; omega
  simp [sendE, this]
theorem pSendRow (h : Pip w0 w cs g room (rowN a n) sent false) (s : Nat) (hs : s = a + n) (hn : n ≤ 9000) (hr : room ≤ 64) (hs0 : 0 ≤ sent) (hs1 : sent ≤ 100000) :
    Calls Try.prog 9 #[.pointer (some ⟨g, 0, none⟩), .int .i64 (s : Int), .agg #[.int .i64 (s : Int), .int .i64 0, .int .i64 0, .int .i64 0, .string ⟨#[]⟩, .slice none 0 0, .int .i64 0]] w fun e w' => e = .returned (.tuple #[.bool (decide (n < room)), .int .i64 0]) ∧ Pip w0 w' cs g room (rowN a (n + 1)) (sent + 1) false := by
  have e0 := row_sendE room a n s hs
  have e1 : sendL room (rowN a n) false (s : Int) (numIt (s : Int)) = rowN a (n + 1) := by rw [sendL, if_pos e0, rowN_snoc, hs]
  have e2 : sendN room (rowN a n) false (s : Int) sent = sent + 1 := by rw [sendN, if_pos e0]
  have e3 : sendB room (rowN a n) false (s : Int) = decide (n < room) := by rw [sendB, e0, rowN_length]; simp
  have := pSend h (s : Int) (numIt (s : Int)) (by rw [rowN_length]; exact hn) hr hs0 hs1
  rw [e0, e1, e2, e3] at this
  exact this
theorem pTakeRow (h : Pip w0 w cs g room (rowN a (n + 1)) sent closed) (hn : n ≤ 8000) :
    Calls Try.prog 11 #[.pointer (some ⟨g, 0, none⟩)] w fun e w' => e = .returned (.tuple #[.agg #[.int .i64 (a : Int), .int .i64 0, .int .i64 0, .int .i64 0, .string ⟨#[]⟩, .slice none 0 0, .int .i64 0], .int .i64 0]) ∧ Pip w0 w' cs g room (rowN (a + 1) n) sent closed :=
  pTake h (by rw [rowN_length]; omega)
theorem pTakeNone (h : Pip w0 w cs g room (rowN a 0) sent closed) :
    Calls Try.prog 11 #[.pointer (some ⟨g, 0, none⟩)] w fun e w' => e = .returned (.tuple #[.agg #[.int .i64 0, .int .i64 0, .int .i64 0, .int .i64 0, .string ⟨#[]⟩, .slice none 0 0, .int .i64 0], .int .i64 (if closed = true then 17 else 19)]) ∧ Pip w0 w' cs g room (rowN a 0) sent closed :=
  pTake h (Nat.zero_le _)
theorem pWaitsRow (h : Pip w0 w cs g room (rowN a n) sent closed) (s : Nat) (hn : n ≤ 9000) :
    Calls Try.prog 19 #[.pointer (some ⟨g, 0, none⟩), .int .i64 (s : Int)] w fun e w' => e = .returned (.bool (decide (a + room ≤ s ∧ s < a + n))) ∧ Pip w0 w' cs g room (rowN a n) sent closed := by
  have := pWaits h (s : Int) (by rw [rowN_length]; exact hn)
  rw [show decide (0 ≤ offI room (rowN a n) (s : Int)) = decide (a + room ≤ s ∧ s < a + n) by
    rw [decide_eq_decide, rowN_off]; omega] at this
  exact this
end

set_option maxHeartbeats 1000000 in
theorem awake14_any (w : World) : Calls Try.prog 7 #[] w fun e w' => e = .returned (.bool true) ∧ Below w.heap.size w w' := by
  have HN := Lib.hid (show Calls Try.prog 8 #[.int .i64 1] w _ from pNew w w 1 (by omega) (Below.refl _ _))
  go_enter Try.func7, Try.ntmps7
  go_wp2_with fail
  (with_reducible refine HN.out.mono ?_); rintro e w1 ⟨g, rfl, h1⟩
  have H1 := Lib.hid (show Calls Try.prog 9 #[.pointer (some ⟨g, 0, none⟩), .int .i64 1, .agg #[.int .i64 1, .int .i64 0, .int .i64 0, .int .i64 0, .string ⟨#[]⟩, .slice none 0 0, .int .i64 0]] w1 _ from pSendRow (a := 1) (n := 0) h1 1 rfl (by omega) (by omega) (by omega) (by omega))
  clear h1
  go_wp2_with fail
  (with_reducible refine H1.out.mono ?_); rintro e w2 ⟨rfl, h2⟩
  have H2 := Lib.hid (show Calls Try.prog 9 #[.pointer (some ⟨g, 0, none⟩), .int .i64 2, .agg #[.int .i64 2, .int .i64 0, .int .i64 0, .int .i64 0, .string ⟨#[]⟩, .slice none 0 0, .int .i64 0]] w2 _ from pSendRow h2 2 rfl (by omega) (by omega) (by omega) (by omega))
  clear h2
  go_wp2_with fail
  (with_reducible refine H2.out.mono ?_); rintro e w3 ⟨rfl, h3⟩
  have H3 := Lib.hid (show Calls Try.prog 11 #[.pointer (some ⟨g, 0, none⟩)] w3 fun e w' => e = .returned (.tuple #[.agg #[.int .i64 1, .int .i64 0, .int .i64 0, .int .i64 0, .string ⟨#[]⟩, .slice none 0 0, .int .i64 0], .int .i64 0]) ∧ Pip w w' [] g 1 (rowN 2 1) _ false from pTakeRow h3 (by omega))
  clear h3
  go_wp2_with fail
  (with_reducible refine H3.out.mono ?_); rintro e w4 ⟨rfl, h4⟩
  have h5 := h4.alloc #[.int .i64 1, .int .i64 0, .int .i64 0, .int .i64 0, .string ⟨#[]⟩, .slice none 0 0, .int .i64 0] 36
  obtain ⟨g1, hg1⟩ : ∃ g1, g1 = w4.heap.size := ⟨_, rfl⟩
  have H4 := Lib.hid (show Calls Try.prog 19 #[.pointer (some ⟨g, 0, none⟩), .int .i64 2] _ fun e w' => e = .returned (.bool false) ∧ _ from pWaitsRow h5 2 (by omega))
  rw [← hg1] at H4
  clear h4 h5
  go_wp2_with fail
  rw [← hg1]
  clear hg1
  (with_reducible refine H4.out.mono ?_); rintro e w5 ⟨rfl, h5⟩
  have H5 := Lib.hid (show Calls Try.prog 11 #[.pointer (some ⟨g, 0, none⟩)] w5 fun e w' => e = .returned (.tuple #[.agg #[.int .i64 2, .int .i64 0, .int .i64 0, .int .i64 0, .string ⟨#[]⟩, .slice none 0 0, .int .i64 0], .int .i64 0]) ∧ Pip w w' _ g 1 (rowN 3 0) _ false from pTakeRow h5 (by omega))
  clear h5
  go_wp2_with fail
  (with_reducible refine H5.out.mono ?_); rintro e w6 ⟨rfl, h6⟩
  have h7 := h6.alloc #[.int .i64 2, .int .i64 0, .int .i64 0, .int .i64 0, .string ⟨#[]⟩, .slice none 0 0, .int .i64 0] 36
  have c1 := cell_of_row _ g1 0 _ _ (0, 0) (h7.at (b := g1) (List.mem_cons_of_mem _ List.mem_cons_self))
  simp only [List.getElem?_toArray, List.getElem?_cons_zero] at c1
  have HB := Lib.hid h7.to
  clear h6 h7
  go_wp2_with fail
  go_ret
  exact ⟨rfl, HB.out⟩
end Go.Proofs.Ytmmfioemnoijoaa
