/- Sets of code points in plain words: which numbers a list of ranges has, when it is a set, that a set is told by its numbers, how many they are. -/
import Derived.Test.YtiiclhkibpmgmaaRows
import Derived.WalkKit
namespace Go.Proofs.Ytiiclhkibpmgmaa
open Go Go.RowKit
set_option linter.unusedVariables false

/-- Is r in one of the ranges, and a code point's number? -/
def hasL (s : List (Int × Int)) (r : Int) : Bool := s.any fun p => decide (p.1 ≤ r ∧ r ≤ p.2 ∧ 0 ≤ r ∧ r ≤ 1114111)
/-- From lo on: rising, none touching the next one. -/
def CanonF : Int → List (Int × Int) → Prop
  | _, [] => True
  | lo, p :: s => lo ≤ p.1 ∧ p.1 ≤ p.2 ∧ p.2 ≤ 1114111 ∧ CanonF (p.2 + 2) s
def Canon (s : List (Int × Int)) : Prop := CanonF 0 s

theorem hasL_nil (r : Int) : hasL [] r = false := rfl
theorem hasL_cons (p : Int × Int) (s : List (Int × Int)) (r : Int) : hasL (p :: s) r = (decide (p.1 ≤ r ∧ r ≤ p.2 ∧ 0 ≤ r ∧ r ≤ 1114111) || hasL s r) := rfl
theorem hasL_append (a b : List (Int × Int)) (r : Int) : hasL (a ++ b) r = (hasL a r || hasL b r) := by simp [hasL]
theorem hasL_iff (s : List (Int × Int)) (r : Int) : hasL s r = true ↔ ∃ p ∈ s, p.1 ≤ r ∧ r ≤ p.2 ∧ 0 ≤ r ∧ r ≤ 1114111 := by simp [hasL]
theorem hasL_in {s : List (Int × Int)} {r : Int} (h : hasL s r = true) : 0 ≤ r ∧ r ≤ 1114111 := by
  obtain ⟨p, _, h1⟩ := (hasL_iff s r).1 h
  omega
theorem CanonF.mono : ∀ {s : List (Int × Int)} {lo lo' : Int}, CanonF lo s → lo' ≤ lo → CanonF lo' s
  | [], _, _, _, _ => trivial
  | p :: s, lo, lo', h, hl => ⟨by have := h.1; omega, h.2⟩
/-- Nothing of it lies below where it begins. -/
theorem CanonF.ge : ∀ {s : List (Int × Int)} {lo r : Int}, CanonF lo s → hasL s r = true → lo ≤ r
  | [], _, _, _, h => by cases h
  | p :: s, lo, r, hc, h => by
    obtain ⟨h1, h2, h3, h4⟩ := hc
    rw [hasL_cons, Bool.or_eq_true, decide_eq_true_eq] at h
    rcases h with h | h
    · omega
    · have := CanonF.ge h4 h; omega
/-- A set is told by its numbers. -/
theorem canon_eq : ∀ (a b : List (Int × Int)) (lo : Int), 0 ≤ lo → CanonF lo a → CanonF lo b → (∀ r, hasL a r = hasL b r) → a = b
  | [], [], _, _, _, _, _ => rfl
  | [], q :: b, lo, h0, _, hb, h => by
    have h1 := h q.1
    obtain ⟨h2, h3, h4, h5⟩ := hb
    rw [hasL_nil, hasL_cons, decide_eq_true (by omega)] at h1
    cases h1
  | p :: a, [], lo, h0, ha, _, h => by
    have h1 := h p.1
    obtain ⟨h2, h3, h4, h5⟩ := ha
    rw [hasL_nil, hasL_cons, decide_eq_true (by omega)] at h1
    cases h1
  | p :: a, q :: b, lo, h0, ha, hb, h => by
    obtain ⟨a1, a2, a3, a4⟩ := ha
    obtain ⟨b1, b2, b3, b4⟩ := hb
    have key : ∀ (x y : Int × Int) (s t : List (Int × Int)), lo ≤ x.1 → x.1 ≤ x.2 → x.2 ≤ 1114111 → lo ≤ y.1 → y.1 ≤ y.2 → CanonF (y.2 + 2) t → (∀ r, hasL (x :: s) r = hasL (y :: t) r) → y.1 ≤ x.1 := by
      intro x y s t x1 x2 x3 y1 y2 hy he
      have h1 := he x.1
      rw [hasL_cons, decide_eq_true (by omega), Bool.true_or, hasL_cons] at h1
      have h2 := h1.symm
      rw [Bool.or_eq_true, decide_eq_true_eq] at h2
      rcases h2 with h2 | h2
      · omega
      · have := hy.ge h2; omega
    have e1 : p.1 = q.1 := by
      have k1 := key p q a b a1 a2 a3 b1 b2 b4 h
      have k2 := key q p b a b1 b2 b3 a1 a2 a4 fun r => (h r).symm
      omega
    have key2 : ∀ (x y : Int × Int) (s t : List (Int × Int)), x.1 = y.1 → lo ≤ x.1 → x.1 ≤ x.2 → y.2 ≤ 1114111 → CanonF (x.2 + 2) s → (∀ r, hasL (x :: s) r = hasL (y :: t) r) → y.2 ≤ x.2 := by
      intro x y s t exy x1 x2 y3 hx he
      rcases Int.lt_or_le x.2 y.2 with hlt | hle
      · have h1 := he (x.2 + 1)
        rw [hasL_cons y, decide_eq_true (by omega), Bool.true_or, hasL_cons, Bool.or_eq_true, decide_eq_true_eq] at h1
        rcases h1 with h1 | h1
        · omega
        · have := hx.ge h1; omega
      · exact hle
    have e2 : p.2 = q.2 := by
      have k1 := key2 p q a b e1 a1 a2 b3 a4 h
      have k2 := key2 q p b a e1.symm b1 b2 a3 b4 fun r => (h r).symm
      omega
    have epq : p = q := Prod.ext e1 e2
    subst epq
    have ht : ∀ r, hasL a r = hasL b r := by
      intro r
      have h1 := h r
      rw [hasL_cons, hasL_cons] at h1
      rcases Int.lt_or_le r (p.2 + 2) with hlt | hle
      · have ha' : hasL a r = false := by
          cases hx : hasL a r with
          | false => rfl
          | true => have := a4.ge hx; omega
        have hb' : hasL b r = false := by
          cases hx : hasL b r with
          | false => rfl
          | true => have := b4.ge hx; omega
        rw [ha', hb']
      · rw [decide_eq_false (by omega), Bool.false_or, Bool.false_or] at h1
        exact h1
    rw [canon_eq a b (p.2 + 2) (by omega) a4 b4 ht]
theorem canon_one {a b : List (Int × Int)} (ha : Canon a) (hb : Canon b) (h : ∀ r, hasL a r = hasL b r) : a = b := canon_eq a b 0 (Int.le_refl _) ha hb h

/-- How many numbers. -/
def countL (s : List (Int × Int)) : Int := s.foldr (fun p n => (p.2 - p.1 + 1) + n) 0
theorem countL_cons (p : Int × Int) (s : List (Int × Int)) : countL (p :: s) = (p.2 - p.1 + 1) + countL s := rfl
/-- How many of the first N numbers. -/
def cardL (N : Nat) (f : Int → Bool) : Nat := (List.range N).countP fun k : Nat => f (k : Int)
theorem cardL_succ (N : Nat) (f : Int → Bool) : cardL (N + 1) f = cardL N f + (if f (N : Int) = true then 1 else 0) := by
  unfold cardL
  rw [List.range_succ, List.countP_append, List.countP_singleton]
theorem cardL_or (f g : Int → Bool) : ∀ N, cardL N (fun r => f r || g r) + cardL N (fun r => f r && g r) = cardL N f + cardL N g
  | 0 => rfl
  | N + 1 => by
    have := cardL_or f g N
    rw [cardL_succ, cardL_succ, cardL_succ, cardL_succ]
    cases f (N : Int) <;> cases g (N : Int) <;> simp <;> omega
theorem cardL_not (f : Int → Bool) : ∀ N, cardL N f + cardL N (fun r => !f r) = N
  | 0 => rfl
  | N + 1 => by
    have := cardL_not f N
    rw [cardL_succ, cardL_succ]
    cases f (N : Int) <;> simp <;> omega
theorem cardL_congr {f g : Int → Bool} : ∀ N : Nat, (∀ k : Nat, k < N → f (k : Int) = g (k : Int)) → cardL N f = cardL N g
  | 0, _ => rfl
  | N + 1, h => by
    rw [cardL_succ, cardL_succ, cardL_congr N fun k hk => h k (by omega), h N (by omega)]
theorem cardL_range (a b : Nat) (h : a ≤ b) : ∀ N : Nat, cardL N (fun r => decide ((a : Int) ≤ r ∧ r ≤ (b : Int))) = min N (b + 1) - min N a
  | 0 => by simp [cardL]
  | N + 1 => by
    rw [cardL_succ, cardL_range a b h N]
    by_cases hN : a ≤ N ∧ N ≤ b
    · rw [if_pos (by simp; omega)]; omega
    · rw [if_neg (by simp; omega)]; omega
/-- A set's count is how many code points it has. -/
theorem count_card (N : Nat) (hN : N = 1114112) : ∀ (s : List (Int × Int)) (lo : Int), 0 ≤ lo → CanonF lo s → countL s = (cardL N (hasL s) : Int)
  | [], _, _, _ => by
    have : cardL N (hasL []) = 0 := by
      unfold cardL
      rw [List.countP_eq_zero]
      intro k _ h
      cases h
    rw [this]; rfl
  | p :: s, lo, h0, ⟨h1, h2, h3, h4⟩ => by
    have ih := count_card N hN s (p.2 + 2) (by omega) h4
    rw [countL_cons, ih]
    obtain ⟨a, ha⟩ : ∃ a : Nat, p.1 = (a : Int) := ⟨p.1.toNat, by omega⟩
    obtain ⟨b, hb⟩ : ∃ b : Nat, p.2 = (b : Int) := ⟨p.2.toNat, by omega⟩
    have e1 : cardL N (hasL (p :: s)) = cardL N (fun r => decide ((a : Int) ≤ r ∧ r ≤ (b : Int)) || hasL s r) := by
      refine cardL_congr N fun k hk => ?_
      rw [hasL_cons, ha, hb]
      congr 1
      apply decide_eq_decide.2
      omega
    have e2 := cardL_or (fun r => decide ((a : Int) ≤ r ∧ r ≤ (b : Int))) (hasL s) N
    have e3 : cardL N (fun r => decide ((a : Int) ≤ r ∧ r ≤ (b : Int)) && hasL s r) = 0 := by
      unfold cardL
      rw [List.countP_eq_zero]
      intro k _ hk
      rw [Bool.and_eq_true, decide_eq_true_eq] at hk
      have := h4.ge hk.2
      omega
    have e4 := cardL_range a b (by omega) N
    rw [e1]
    omega
theorem count_or {a b o n : List (Int × Int)} (ha : Canon a) (hb : Canon b) (ho : Canon o) (hn : Canon n) (h1 : ∀ r, hasL o r = (hasL a r || hasL b r)) (h2 : ∀ r, hasL n r = (hasL a r && hasL b r)) : countL o + countL n = countL a + countL b := by
  rw [count_card _ rfl o 0 (Int.le_refl _) ho, count_card _ rfl n 0 (Int.le_refl _) hn, count_card _ rfl a 0 (Int.le_refl _) ha, count_card _ rfl b 0 (Int.le_refl _) hb]
  have := cardL_or (hasL a) (hasL b) 1114112
  have e1 : cardL 1114112 (hasL o) = cardL 1114112 (fun r => hasL a r || hasL b r) := cardL_congr _ fun k _ => h1 k
  have e2 : cardL 1114112 (hasL n) = cardL 1114112 (fun r => hasL a r && hasL b r) := cardL_congr _ fun k _ => h2 k
  rw [e1, e2]
  generalize cardL 1114112 _ = x at this ⊢
  omega
theorem count_not {a n : List (Int × Int)} (ha : Canon a) (hn : Canon n) (h : ∀ r, hasL n r = (decide (0 ≤ r ∧ r ≤ 1114111) && !hasL a r)) : countL a + countL n = 1114112 := by
  rw [count_card _ rfl a 0 (Int.le_refl _) ha, count_card _ rfl n 0 (Int.le_refl _) hn]
  have := cardL_not (hasL a) 1114112
  have e : cardL 1114112 (hasL n) = cardL 1114112 (fun r => !hasL a r) := cardL_congr _ fun k hk => by rw [h, decide_eq_true (by omega), Bool.true_and]
  rw [e]
  omega
end Go.Proofs.Ytiiclhkibpmgmaa
