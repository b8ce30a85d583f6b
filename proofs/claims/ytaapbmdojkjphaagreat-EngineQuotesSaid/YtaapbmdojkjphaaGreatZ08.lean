/- Texts. -/
import Derived.Test.YtaapbmdojkjphaaGreatZ02
import Derived.Test.YtaapbmdojkjphaaGreatZ03
import Derived.Test.YtaapbmdojkjphaaGreatZ06
import Derived.Test.YtaapbmdojkjphaaGreatZ07
import Derived.OwnWalk
namespace Go.Proofs.YtaapbmdojkjphaaGreat
open Go Go.RowKit
set_option linter.unusedVariables false
set_option maxRecDepth 20000
set_option maxHeartbeats 4000000 in
theorem counts_gen {A D : Option Addr} {ns cs nk ck : Nat} {op mx : Int} (mn mo : Nat) (hmn : mn ≤ 1000) (hmx : -1 ≤ mx) (hmx2 : mx ≤ 1000) (hmo : (mo : Int) = max mx (mn : Int) - (mn : Int)) (w : World) :
    Calls Tryz.prog 64 #[.agg #[.int .i64 op, .slice A ns cs, .int .i64 (mn : Int), .int .i64 mx, .slice D nk ck]] w fun e w' => e = .returned (.tuple #[.int .i64 (mn : Int), .int .i64 (mo : Int)]) ∧ Below w.heap.size w w' := by
  have m1 : max (mn : Int) 0 = (mn : Int) := by omega
  obtain ⟨M, hM⟩ : ∃ M, M = max mx (mn : Int) := ⟨_, rfl⟩
  rw [← hM] at hmo
  have m2 : max mx (mn : Int) = M := hM.symm
  have hw : IntKind.i64.wrap (M - (mn : Int)) = (mo : Int) := by rw [IntKind.wrap_i64]; omega
  clear hM hmo
  go_enter Tryz.func64, Tryz.ntmps64
  go_wp2_with fail
  go_region
  all_goals
    go_wp2
    go_ret2
    exact ⟨rfl, ((Below.refl _ _).alloc (Nat.le_refl _) _).drew⟩
end Go.Proofs.YtaapbmdojkjphaaGreat
namespace Go.Proofs.YtaapbmdojkjphaaGreat
open Go Go.RowKit
set_option linter.unusedVariables false
set_option maxRecDepth 20000
def oftC (mn mo c : Nat) (mx : Int) : Nat := mn * c + (if mx < 0 then c + 2 else mo * (c + 1))
end Go.Proofs.YtaapbmdojkjphaaGreat
namespace Go.Proofs.YtaapbmdojkjphaaGreat
open Go Go.RowKit
set_option linter.unusedVariables false
set_option maxRecDepth 20000
def sumC (cf : Nat → Nat) : Nat → Nat
  | 0 => 0
  | n + 1 => sumC cf n + cf n
theorem sumC_tail (cf : Nat → Nat) : ∀ n, sumC cf (n + 1) = cf 0 + sumC (fun j => cf (j + 1)) n
  | 0 => by simp [sumC]
  | n + 1 => by
    have := sumC_tail cf n
    rw [sumC, this, sumC, Nat.add_assoc]
end Go.Proofs.YtaapbmdojkjphaaGreat
namespace Go.Proofs.YtaapbmdojkjphaaGreat
open Go Go.RowKit
set_option linter.unusedVariables false
set_option maxRecDepth 20000
theorem size_nth : ∀ (a : Wood) (j : Nat), j < a.len → (a.nth j).size ≤ a.size
  | .nil, _, h => by simp [Wood.len] at h
  | .cons .., 0, _ => by simp only [Wood.nth, Wood.size]; omega
  | .cons _ _ _ _ _ x, j + 1, h => by
    have := size_nth x j (by simp only [Wood.len] at h; omega)
    simp only [Wood.nth, Wood.size]; omega
end Go.Proofs.YtaapbmdojkjphaaGreat
namespace Go.Proofs.YtaapbmdojkjphaaGreat
open Go Go.RowKit
set_option linter.unusedVariables false
set_option maxRecDepth 20000
def LenOk : Wood → Prop
  | .nil => True
  | .cons op _ mn mx k x => k.len ≤ 1000 ∧ (op = 5 → 1 ≤ k.len) ∧ (op = 6 → 0 ≤ mn ∧ mn ≤ 1000 ∧ (mx = -1 ∨ mn ≤ mx ∧ mx ≤ 1000)) ∧ LenOk k ∧ LenOk x
theorem lenOk_nth : ∀ (T : Wood) (j : Nat), j < T.len → LenOk T → LenOk (T.nth j)
  | .nil, _, h, _ => by simp [Wood.len] at h
  | .cons op s mn mx k x, 0, _, h => ⟨h.1, h.2.1, h.2.2.1, h.2.2.2.1, trivial⟩
  | .cons op s mn mx k x, j + 1, h, hk => lenOk_nth x j (by simp only [Wood.len] at h; omega) hk.2.2.2.2
end Go.Proofs.YtaapbmdojkjphaaGreat
namespace Go.Proofs.YtaapbmdojkjphaaGreat
open Go Go.RowKit
set_option linter.unusedVariables false
def TreeOk : Wood → Prop
  | .nil => True
  | .cons op s mn mx k x => (op = 0 ∨ op = 1 ∨ op = 2 ∨ op = 3 ∨ op = 4 ∨ op = 5 ∨ op = 6) ∧ s.length ≤ 1000000 ∧ TreeOk k ∧ TreeOk x
theorem treeOk_nth : ∀ (T : Wood) (j : Nat), j < T.len → TreeOk T → TreeOk (T.nth j)
  | .nil, _, h, _ => by simp [Wood.len] at h
  | .cons op s mn mx k x, 0, _, h => ⟨h.1, h.2.1, h.2.2.1, trivial⟩
  | .cons op s mn mx k x, j + 1, h, hk => treeOk_nth x j (by simp only [Wood.len] at h; omega) hk.2.2.2
end Go.Proofs.YtaapbmdojkjphaaGreat
