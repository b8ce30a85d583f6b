/- Each list of ranges has its set; sets' algebra in plain words. -/
import Derived.Test.YtiiclhkibpmgmaaFaces
namespace Go.Proofs.Ytiiclhkibpmgmaa
open Go Go.RowKit
set_option linter.unusedVariables false

theorem canon_from (f : Int → Bool) : ∀ k : Nat, k ≤ 1114112 → ∃ t, CanonF (1114112 - (k : Int)) t ∧ ∀ r, hasL t r = (decide (1114112 - (k : Int) ≤ r ∧ r ≤ 1114111) && f r)
  | 0, _ => ⟨[], trivial, fun r => by rw [hasL_nil, decide_eq_false (by omega), Bool.false_and]⟩
  | k + 1, hk => by
    obtain ⟨t, h1, h2⟩ := canon_from f k (by omega)
    obtain ⟨L, hL⟩ : ∃ L : Int, L = 1114112 - ((k + 1 : Nat) : Int) := ⟨_, rfl⟩
    have e : (1114112 : Int) - (k : Int) = L + 1 := by omega
    rw [← hL]
    rw [e] at h1 h2
    have hL0 : 0 ≤ L ∧ L ≤ 1114111 := by omega
    have hge := fun r (h : hasL t r = true) => h1.ge h
    cases hf : f L with
    | false =>
      refine ⟨t, h1.mono (by omega), fun r => ?_⟩
      rw [h2 r]
      by_cases hr : r = L
      · subst hr
        rw [hf, Bool.and_false, Bool.and_false]
      · congr 1
        apply decide_eq_decide.2
        omega
    | true =>
      have done : ∀ u, CanonF L u → (∀ r, hasL u r = (decide (r = L) || hasL t r)) → ∃ t, CanonF L t ∧ ∀ r, hasL t r = (decide (L ≤ r ∧ r ≤ 1114111) && f r) := by
        intro u hu hm
        refine ⟨u, hu, fun r => ?_⟩
        rw [hm r, h2 r]
        by_cases hr : r = L
        · subst hr
          rw [hf, decide_eq_true rfl, Bool.true_or, decide_eq_true (by omega), Bool.true_and]
        · rw [decide_eq_false hr, Bool.false_or]
          congr 1
          apply decide_eq_decide.2
          omega
      rcases t with _ | ⟨p, s⟩
      · refine done [(L, L)] ⟨Int.le_refl _, Int.le_refl _, hL0.2, trivial⟩ fun r => ?_
        rw [hasL_cons, hasL_nil, Bool.or_false, Bool.or_false]
        apply decide_eq_decide.2
        dsimp only
        omega
      · obtain ⟨q1, q2, q3, q4⟩ := h1
        by_cases hp : p.1 = L + 1
        · refine done ((L, p.2) :: s) ⟨Int.le_refl _, by dsimp only; omega, q3, q4⟩ fun r => ?_
          rw [hasL_cons, hasL_cons, ← Bool.or_assoc, ← Bool.decide_or]
          congr 1
          apply decide_eq_decide.2
          dsimp only
          omega
        · refine done ((L, L) :: p :: s) ⟨Int.le_refl _, Int.le_refl _, hL0.2, by dsimp only; omega, q2, q3, q4⟩ fun r => ?_
          rw [hasL_cons]
          congr 1
          apply decide_eq_decide.2
          dsimp only
          omega
/-- Each list of ranges has its set. -/
theorem exists_canon (s : List (Int × Int)) : ∃ t, Canon t ∧ ∀ r, hasL t r = hasL s r := by
  obtain ⟨t, h1, h2⟩ := canon_from (hasL s) 1114112 (Nat.le_refl _)
  refine ⟨t, h1, fun r => ?_⟩
  rw [h2 r]
  cases h : hasL s r with
  | false => rw [Bool.and_false]
  | true =>
    have := hasL_in h
    rw [decide_eq_true (by omega), Bool.true_and]
theorem inR_has (s : List (Int × Int)) (r : Int) : (inR r && hasL s r) = hasL s r := by
  cases h : hasL s r with
  | false => rw [Bool.and_false]
  | true =>
    have := hasL_in h
    unfold inR
    rw [decide_eq_true (by omega), Bool.true_and]
theorem not_not_has (s : List (Int × Int)) (r : Int) : (inR r && !(inR r && !hasL s r)) = hasL s r := by
  have := inR_has s r
  cases h : hasL s r <;> cases h2 : inR r <;> simp_all
theorem de_morgan (a b i : Bool) : (i && !(a || b)) = ((i && !a) && (i && !b)) := by cases a <;> cases b <;> cases i <;> rfl
theorem cardL_le (f : Int → Bool) : ∀ N, cardL N f ≤ N := fun N => by have := cardL_not f N; omega
theorem count_small {t : List (Int × Int)} (h : Canon t) : 0 ≤ countL t ∧ countL t ≤ 1114112 := by
  rw [count_card _ rfl t 0 (Int.le_refl _) h]
  have := cardL_le (hasL t) 1114112
  omega
end Go.Proofs.Ytiiclhkibpmgmaa
