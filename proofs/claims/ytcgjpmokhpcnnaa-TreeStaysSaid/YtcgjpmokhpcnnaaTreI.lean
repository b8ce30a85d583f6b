/- Who is below a node that has a cause has one: it stays so, whatever is added and cancelled. -/
import Derived.Test.YtcgjpmokhpcnnaaTreF
namespace Go.Proofs.Ytcgjpmokhpcnnaa
open Go Go.RowKit
set_option linter.unusedVariables false
set_option maxRecDepth 20000

theorem gD_app {ca : List Int} {y : Int} {k : Nat} (hk : k < ca.length) : (ca ++ [y]).getD k 0 = ca.getD k 0 := by simp [List.getD, List.getElem?_append_left hk]
def InvC (up ca : List Int) : Prop := ∀ i : Nat, 0 < i → i < up.length → ca.getD (up.getD i 0).toNat 0 ≠ 0 → ca.getD i 0 ≠ 0
section
variable {up ca : List Int}
theorem invC_one : InvC [-1] [0] := fun i h0 h1 => by simp at h1; omega
theorem invC_add (h : InvC up ca) (hw : WfUp up) (hc : ca.length = up.length) (n : Int) : InvC (addU up n) (addC up ca n) := by
  unfold addU addC
  by_cases he : addE up n = 0
  · rw [if_pos he, if_pos he]
    unfold addE at he
    by_cases hi : isB up n = true
    · simp only [isB, Bool.and_eq_true, decide_eq_true_eq] at hi
      intro i h0 h1
      rw [List.length_append, List.length_singleton] at h1
      rcases Nat.lt_or_ge i up.length with h2 | h2
      · have e1 : (up ++ [n]).getD i 0 = up.getD i 0 := gD_app h2
        have hp := hw.2.2 i h0 h2
        have e2 : (ca ++ [ca.getD n.toNat 0]).getD (up.getD i 0).toNat 0 = ca.getD (up.getD i 0).toNat 0 := gD_app (by omega)
        have e3 : (ca ++ [ca.getD n.toNat 0]).getD i 0 = ca.getD i 0 := gD_app (by omega)
        rw [e1, e2, e3]
        exact h i h0 h2
      · have hil : i = up.length := by omega
        subst hil
        have e1 : (up ++ [n]).getD up.length 0 = n := by simp [List.getD]
        have e2 : (ca ++ [ca.getD n.toNat 0]).getD n.toNat 0 = ca.getD n.toNat 0 := gD_app (by omega)
        have e3 : (ca ++ [ca.getD n.toNat 0]).getD up.length 0 = ca.getD n.toNat 0 := by simp [List.getD, ← hc]
        rw [e1, e2, e3]
        exact id
    · rw [if_neg hi] at he; cases he
  · rw [if_neg he, if_neg he]
    exact h
theorem canC_get {n cause : Int} {m k : Nat} (hk : k < ca.length) : (canC up ca n cause m).getD k 0 = if k < m ∧ cutsB up ca n k = true then cause else ca.getD k 0 := by
  have := canC_at (up := up) (n := n) (cause := cause) (m := m) hk
  rw [List.getD, this]
  rfl
theorem invC_can (h : InvC up ca) (hw : WfUp up) (hc : ca.length = up.length) (n cause : Int) : InvC up (if canE up n cause = 0 then canC up ca n cause up.length else ca) := by
  by_cases he : canE up n cause = 0
  · rw [if_pos he]
    have hcs : cause ≠ 0 := by
      unfold canE at he
      intro e
      rw [if_neg (fun hh => hh.2 e)] at he
      cases he
    intro i h0 h1
    obtain ⟨p0, p1⟩ := hw.2.2 i h0 h1
    have hpl : (up.getD i 0).toNat < ca.length := by omega
    rw [canC_get hpl, canC_get (by omega)]
    by_cases hci : i < up.length ∧ cutsB up ca n i = true
    · rw [if_pos hci]; exact fun _ => hcs
    · rw [if_neg hci]
      by_cases hcp : (up.getD i 0).toNat < up.length ∧ cutsB up ca n (up.getD i 0).toNat = true
      · rw [if_pos hcp]
        intro _ hz
        refine hci ⟨h1, ?_⟩
        have hcp2 := hcp.2
        unfold cutsB at hcp2 ⊢
        rw [show (((up.getD i 0).toNat : Nat) : Int) = up.getD i 0 by omega] at hcp2
        have hst := undB_step (n := n) (k := (i : Int)) hw (by omega) (by omega)
        rw [Int.toNat_natCast] at hst
        rw [hst, hz]
        simp only [Bool.and_eq_true, Bool.or_eq_true, beq_iff_eq] at hcp2 ⊢
        refine ⟨.inr ?_, trivial⟩
        rcases hcp2.1 with e | e
        · rw [if_pos e]
        · by_cases e2 : up.getD i 0 = n
          · rw [if_pos e2]
          · rw [if_neg e2]; exact e
      · rw [if_neg hcp]
        exact h i h0 h1
  · rw [if_neg he]
    exact h
end
end Go.Proofs.Ytcgjpmokhpcnnaa
