/- Ints: two slices that read alike. -/
import Derived.Test.YtgjmgbpphfccaaaRTurn
namespace Go.Proofs.Ytgjmgbpphfccaaa
open Go Go.RowKit
set_option linter.unusedVariables false

set_option maxHeartbeats 1000000 in
/-- Two slices that read as the same list. -/
theorem ints_any (A D : Option Addr) (n c d : Nat) (xs : List Nat) (w : World) (hA : RowI .i64 w A n (ints xs)) (hD : RowI .i64 w D n (ints xs)) (hn : n ≤ 1000) :
    Calls Try.prog 21 #[.slice A n c, .slice D n d] w fun e w' => e = .returned (.bool true) ∧ ∃ q, w.drewN q = w' := by
  have HA := Lib.hid hA
  have HD := Lib.hid hD
  clear hA hD
  go_enter Try.func21, Try.ntmps21
  go_wp2_with fail
  go_loopw [5] (fun v5 wr => ∃ (i q : Nat), i ≤ n ∧ v5 = .int .i64 (i : Int) ∧ Hid (w.drewN q = wr)) (fun v5 _ => n - (intOf v5).toNat)
  case atStart => exact ⟨0, 0, by omega, rfl, Lib.hid rfl⟩
  case round =>
    obtain ⟨i, q, hi, rfl, HQ⟩ := hrel
    by_cases hlt : i < n
    · obtain ⟨b1, o1, rfl, _, hc1⟩ := HA.out.2 (by omega)
      obtain ⟨b2, o2, rfl, _, hc2⟩ := HD.out.2 (by omega)
      have k1 : wr.cell? ⟨b1, o1 + i, none⟩ = some (.int .i64 ((ints xs).getD i 0)) := by rw [← HQ.out]; exact hc1 i hlt
      have k2 : wr.cell? ⟨b2, o2 + i, none⟩ = some (.int .i64 ((ints xs).getD i 0)) := by rw [← HQ.out]; exact hc2 i hlt
      obtain ⟨x, hx⟩ : ∃ x, x = (ints xs).getD i 0 := ⟨_, rfl⟩
      rw [← hx] at k1 k2
      have hl1 : (i : Int) < (n : Int) := by omega
      have hl0 : (0 : Int) ≤ (i : Int) := by omega
      clear hc1 hc2 hx
      go_wp2_with fail
      go_quiet (fail)
      go_wp2_with fail
      refine ⟨⟨i + 1, q + nq, by omega, by go_num, Lib.hid (by rw [← HQ.out]; simp)⟩, by simp [intOf]; omega⟩
    · go_wp2_with fail
      go_ret
      exact ⟨rfl, q, HQ.out⟩
end Go.Proofs.Ytgjmgbpphfccaaa
