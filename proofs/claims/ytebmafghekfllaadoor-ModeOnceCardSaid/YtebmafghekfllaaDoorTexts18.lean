/- Are two lists of texts the same? Of rows of records. -/
import Derived.Test.YtebmafghekfllaaDoorCtxF18
namespace Go.Proofs.YtebmafghekfllaaDoor
open Go Go.RowKit
set_option linter.unusedVariables false

set_option maxHeartbeats 1000000 in
theorem texts18 (ss : List ByteArray) (A D : Option Addr) (n c d : Nat) (W : World) (ha : ReadR 0 W A n 1 (strs ss)) (hb : ReadR 0 W D n 1 (strs ss)) (hn : n ≤ 1000) :
    Calls Tryd.prog 11 #[.slice A n c, .slice D n d] W fun e w' => e = .returned (.bool true) ∧ ∃ q, w' = W.drewN q := by
  have hl : ss.length = n := by have := ha.1.1; rwa [strs_length] at this
  have HA := Lib.hid ha; clear ha
  have HB := Lib.hid hb; clear hb
  have HL := Lib.hid hl; clear hl
  go_enter Tryd.func11, Tryd.ntmps11
  go_wp2
  go_loopw [5] (fun i wr => ∃ k q : Nat, k ≤ n ∧ i = .int .i64 k ∧ wr = W.drewN q) (fun i _ => n - (intOf i).toNat)
  case atStart => exact ⟨0, 0, Nat.zero_le _, rfl, rfl⟩
  case round =>
    obtain ⟨k, q, hk, rfl, rfl⟩ := hrel
    by_cases hlt : k < n
    · obtain ⟨b, o, rfl, _, _, hc⟩ := HA.out.2 (by omega)
      obtain ⟨b', o', rfl, _, _, hc'⟩ := HB.out.2 (by omega)
      obtain ⟨S, hS⟩ : ∃ S, ss[k]? = some S := ⟨_, List.getElem?_eq_getElem (by rw [HL.out]; exact hlt)⟩
      have c1 := hc k [.string S] (by simp [strs, hS]) 0 _ rfl
      have c2 := hc' k [.string S] (by simp [strs, hS]) 0 _ rfl
      simp only [Nat.mul_one, Nat.add_zero] at c1 c2
      clear hc hc' hS
      go_wp2
      go_quiet (fail)
      go_wp2
      refine ⟨⟨k + 1, q + nq, by omega, by go_num, rfl⟩, by simp [intOf]; omega⟩
    · go_wp2
      go_ret
      exact ⟨rfl, _, rfl⟩
end Go.Proofs.YtebmafghekfllaaDoor
