/- The contract of cuts.size and of cuts.Cut. -/
import Derived.Test.YtgmaiickfpgeoaaOwn
import Derived.Test.YtgmaiickfpgeoaaCutS
import Derived.Test.YtgmaiickfpgeoaaClone
import Derived.Lib.MinMax
namespace Go.Proofs.Ytgmaiickfpgeoaa
open Go Go.RowKit
set_option linter.unusedVariables false

theorem csize_any (zs : List Int) (A : Option Addr) (n c i left : Nat) (w : World) (hr : RowI .i64 w A n zs) (hn : n ≤ 1000) (hi : i ≤ 100000) :
    Calls Try.prog 24 #[.slice A n c, .int .i64 (i : Int), .int .i64 (left : Int)] w fun e w' => e = .returned (.int .i64 (cszI zs i left)) ∧ w = w' := by
  obtain ⟨hl, hc⟩ := hr
  rcases Nat.eq_zero_or_pos n with h0 | h0
  · subst h0
    have hz : cszI zs i left = (left : Int) := by unfold cszI; rw [if_pos hl]
    rw [hz]
    clear hl hc hz
    go_enter Try.func24, Try.ntmps24
    go_wp2
    go_ret
    exact ⟨rfl, rfl⟩
  · obtain ⟨b, o, rfl, _, hc⟩ := hc h0
    have hz : cszI zs i left = min (max (zs.getD (i % n) 0) 1) 4096 := by unfold cszI; rw [if_neg (by omega), hl]
    have hk : i % n < n := Nat.mod_lt _ h0
    have hcell := hc (i % n) hk
    have hne : decide ((n : Int) = 0) = false := by simp; omega
    have hrem : ((i : Int) % (n : Int)) = ((i % n : Nat) : Int) := by simp
    obtain ⟨x, hx⟩ : ∃ x, x = zs.getD (i % n) 0 := ⟨_, rfl⟩
    rw [← hx] at hcell hz
    obtain ⟨j, hj⟩ : ∃ j, j = i % n := ⟨_, rfl⟩
    rw [← hj] at hcell hk hrem
    rw [hz]
    have HX := Lib.hid hx; clear hx
    have HJ := Lib.hid hj; clear hj
    have HL := Lib.hid hl; clear hl
    clear hc hz
    go_enter Try.func24, Try.ntmps24
    go_wp2
    go_ret
    exact ⟨rfl, rfl⟩
end Go.Proofs.Ytgmaiickfpgeoaa
