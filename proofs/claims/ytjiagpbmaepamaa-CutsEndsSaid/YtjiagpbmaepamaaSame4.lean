/- Are these pieces those texts? -/
import Derived.Test.YtjiagpbmaepamaaOwn
import Derived.Test.YtjiagpbmaepamaaCutS
import Derived.BigQuiet
namespace Go.Proofs.Ytjiagpbmaepamaa
open Go Go.RowKit
set_option linter.unusedVariables false

set_option maxHeartbeats 1000000 in
theorem same_any (ps : List (List Int)) (A D : Option Addr) (n c d : Nat) (W : World) (ha : RowB W A n ps) (hb : RowS W D n (ps.map strOfNums)) (hn : n ≤ 1000) :
    Calls Try.prog 9 #[.slice A n c, .slice D n d] W fun e w' => e = .returned (.bool true) ∧ ∃ q, w' = W.drewN q := by
  have hl := ha.1
  have HA := Lib.hid ha; clear ha
  have HB := Lib.hid hb; clear hb
  have HL := Lib.hid hl; clear hl
  go_enter Try.func9, Try.ntmps9
  go_wp2
  go_loopw [5] (fun i wr => ∃ k q : Nat, k ≤ n ∧ i = .int .i64 k ∧ wr = W.drewN q) (fun i _ => n - (intOf i).toNat)
  case atStart => exact ⟨0, 0, Nat.zero_le _, rfl, rfl⟩
  case round =>
    obtain ⟨k, q, hk, rfl, rfl⟩ := hrel
    by_cases hlt : k < n
    · obtain ⟨b, o, rfl, _, hc⟩ := HA.out.2 (by omega)
      obtain ⟨b', o', rfl, _, hc'⟩ := HB.out.2 (by omega)
      obtain ⟨G, g, c1, hri, _⟩ := hc k hlt
      have c2 := hc' k hlt
      have hgd : (ps.map strOfNums).getD k ⟨#[]⟩ = strOfNums (ps.getD k []) := by
        have : k < ps.length := by rw [HL.out]; exact hlt
        simp [List.getD, List.getElem?_eq_getElem this]
      rw [hgd] at c2
      have hcv : ∀ q, (convert 22 9 (.slice G (ps.getD k []).length g)).run Try.prog (W.drewN q) = .ok (.string (strOfNums (ps.getD k []))) (W.drewN q) := fun q => strRow _ G _ g _ (hri.drewN q)
      obtain ⟨S, hS⟩ : ∃ S, S = strOfNums (ps.getD k []) := ⟨_, rfl⟩
      obtain ⟨L, hL⟩ : ∃ L, L = (ps.getD k []).length := ⟨_, rfl⟩
      rw [← hS] at c2 hcv
      rw [← hL] at c1 hcv
      clear hc hc' hgd hri hS hL
      go_wp2
      go_quiet (fail)
      go_wp2
      refine ⟨⟨k + 1, q + nq, by omega, by go_num, rfl⟩, by simp [intOf]; omega⟩
    · go_wp2
      go_ret
      exact ⟨rfl, _, rfl⟩
end Go.Proofs.Ytjiagpbmaepamaa
