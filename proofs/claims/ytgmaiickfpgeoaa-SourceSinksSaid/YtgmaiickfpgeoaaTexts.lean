/- Are two lists of texts the same? -/
import Derived.Test.YtgmaiickfpgeoaaOwn
import Derived.BigQuiet
namespace Go.Proofs.Ytgmaiickfpgeoaa
open Go Go.RowKit
set_option linter.unusedVariables false

set_option maxHeartbeats 1000000 in
theorem texts_any (ss : List ByteArray) (A D : Option Addr) (n c d : Nat) (W : World) (ha : RowS W A n ss) (hb : RowS W D n ss) (hn : n ≤ 1000) :
    Calls Try.prog 17 #[.slice A n c, .slice D n d] W fun e w' => e = .returned (.bool true) ∧ ∃ q, w' = W.drewN q := by
  have hl := ha.1
  have HA := Lib.hid ha; clear ha
  have HB := Lib.hid hb; clear hb
  have HL := Lib.hid hl; clear hl
  go_enter Try.func17, Try.ntmps17
  go_wp2
  go_loopw [5] (fun i wr => ∃ k q : Nat, k ≤ n ∧ i = .int .i64 k ∧ wr = W.drewN q) (fun i _ => n - (intOf i).toNat)
  case atStart => exact ⟨0, 0, Nat.zero_le _, rfl, rfl⟩
  case round =>
    obtain ⟨k, q, hk, rfl, rfl⟩ := hrel
    by_cases hlt : k < n
    · obtain ⟨b, o, rfl, _, hc⟩ := HA.out.2 (by omega)
      obtain ⟨b', o', rfl, _, hc'⟩ := HB.out.2 (by omega)
      have c1 := hc k hlt
      have c2 := hc' k hlt
      obtain ⟨S, hS⟩ : ∃ S, S = ss.getD k ⟨#[]⟩ := ⟨_, rfl⟩
      rw [← hS] at c1 c2
      clear hc hc' hS
      go_wp2
      go_quiet (fail)
      go_wp2
      refine ⟨⟨k + 1, q + nq, by omega, by go_num, rfl⟩, by simp [intOf]; omega⟩
    · go_wp2
      go_ret
      exact ⟨rfl, _, rfl⟩
end Go.Proofs.Ytgmaiickfpgeoaa
