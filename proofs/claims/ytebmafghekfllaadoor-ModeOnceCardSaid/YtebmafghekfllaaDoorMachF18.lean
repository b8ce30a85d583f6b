/- By context, row by row: what a row that comes adds to what was told of the rows ahead of it: pure. -/
import Derived.Test.YtebmafghekfllaaDoorCtxF18
namespace Go.Proofs.YtebmafghekfllaaDoor
open Go Go.RowKit
set_option linter.unusedVariables false
/-- Has a row hits that lie in its text? -/
def hitX (x : Rw) : Bool := !(goodH x).isEmpty
section
variable {l : List Rw} {x : Rw} {b a : Nat}
theorem hitB_old {j : Nat} (h : j < l.length) : hitB (l ++ [x]) j = hitB l j := by
  unfold hitB
  rw [List.getElem?_append_left h]
theorem hitB_new : hitB (l ++ [x]) l.length = hitX x := by
  unfold hitB hitX
  rw [List.getElem?_concat_length]
theorem nearB_iff {c d : Int} : nearB l c d = true ↔ ∃ j : Nat, j < l.length ∧ c ≤ (j : Int) ∧ (j : Int) ≤ d ∧ hitB l j = true := by
  unfold nearB
  rw [List.any_eq_true]
  constructor
  · rintro ⟨j, hj, h⟩
    simp only [Bool.and_eq_true, decide_eq_true_eq] at h
    exact ⟨j, List.mem_range.1 hj, h.1.1, h.1.2, h.2⟩
  · rintro ⟨j, hj, h1, h2, h3⟩
    exact ⟨j, List.mem_range.2 hj, by simp [h1, h2, h3]⟩
theorem tellB_iff {i : Nat} : tellB l b a i = true ↔ hitB l i = true ∨ (∃ j, j < i ∧ j < l.length ∧ i ≤ j + a ∧ hitB l j = true) ∨ ∃ j, i < j ∧ j < l.length ∧ j ≤ i + b ∧ hitB l j = true := by
  unfold tellB
  rw [Bool.or_eq_true, Bool.or_eq_true, nearB_iff, nearB_iff]
  constructor
  · rintro ((h | ⟨j, h1, h2, h3, h4⟩) | ⟨j, h1, h2, h3, h4⟩)
    · exact .inl h
    · exact .inr (.inl ⟨j, by omega, h1, by omega, h4⟩)
    · exact .inr (.inr ⟨j, by omega, h1, by omega, h4⟩)
  · rintro (h | ⟨j, h1, h2, h3, h4⟩ | ⟨j, h1, h2, h3, h4⟩)
    · exact .inl (.inl h)
    · exact .inl (.inr ⟨j, h2, by omega, by omega, h4⟩)
    · exact .inr ⟨j, h2, by omega, by omega, h4⟩
theorem hitB_lt {i : Nat} (h : hitB l i = true) : i < l.length := by
  unfold hitB at h
  rcases Nat.lt_or_ge i l.length with h1 | h1
  · exact h1
  · rw [List.getElem?_eq_none h1] at h; cases h
/-- Of the rows ahead of it, one that has hits tells those close ahead. -/
theorem tellB_old {j : Nat} (h : j < l.length) : tellB (l ++ [x]) b a j = (tellB l b a j || (hitX x && decide (l.length ≤ j + b))) := by
  rw [Bool.eq_iff_iff, Bool.or_eq_true, Bool.and_eq_true, decide_eq_true_eq, tellB_iff, tellB_iff, hitB_old h]
  constructor
  · rintro (h1 | ⟨k, h1, h2, h3, h4⟩ | ⟨k, h1, h2, h3, h4⟩)
    · exact .inl (.inl h1)
    · rw [hitB_old (by omega)] at h4
      exact .inl (.inr (.inl ⟨k, h1, by omega, h3, h4⟩))
    · rcases Nat.lt_or_ge k l.length with h5 | h5
      · rw [hitB_old h5] at h4
        exact .inl (.inr (.inr ⟨k, h1, h5, h3, h4⟩))
      · have h6 : k = l.length := by simp at h2; omega
        subst h6
        rw [hitB_new] at h4
        exact .inr ⟨h4, h3⟩
  · rintro ((h1 | ⟨k, h1, h2, h3, h4⟩ | ⟨k, h1, h2, h3, h4⟩) | ⟨h1, h2⟩)
    · exact .inl h1
    · exact .inr (.inl ⟨k, h1, by simp; omega, h3, by rw [hitB_old h2]; exact h4⟩)
    · exact .inr (.inr ⟨k, h1, by simp; omega, h3, by rw [hitB_old h2]; exact h4⟩)
    · exact .inr (.inr ⟨l.length, h, by simp, h2, by rw [hitB_new]; exact h1⟩)
/-- Is the one behind a row with hits, close enough? -/
def leftB (l : List Rw) (a : Nat) : Bool := nearB l ((l.length : Int) - (a : Int)) ((l.length : Int) - 1)
theorem tellB_new : tellB (l ++ [x]) b a l.length = (hitX x || leftB l a) := by
  rw [Bool.eq_iff_iff, Bool.or_eq_true, tellB_iff, hitB_new]
  unfold leftB
  rw [nearB_iff]
  constructor
  · rintro (h1 | ⟨k, h1, h2, h3, h4⟩ | ⟨k, h1, h2, h3, h4⟩)
    · exact .inl h1
    · rw [hitB_old h1] at h4
      exact .inr ⟨k, h1, by omega, by omega, h4⟩
    · simp at h2; omega
  · rintro (h1 | ⟨k, h1, h2, h3, h4⟩)
    · exact .inl h1
    · exact .inr (.inl ⟨k, h1, by simp; omega, by omega, by rw [hitB_old h1]; exact h4⟩)
/-- A row is told. -/
def toldS (l : List Rw) (s : List ByteArray × Option Nat) (i : Nat) : List ByteArray × Option Nat :=
  match l[i]? with
  | some x => (s.1 ++ (if sepB l i s.2 = true then [⟨#[45, 45]⟩] else []) ++ [lineS x (hitB l i)], some i)
  | none => s
theorem stepC_told {s : List ByteArray × Option Nat} {i : Nat} (h : tellB l b a i = true) : stepC l b a s i = toldS l s i := by
  unfold stepC toldS
  rw [if_pos h]
  cases l[i]? <;> rfl
theorem stepC_not {s : List ByteArray × Option Nat} {i : Nat} (h : tellB l b a i = false) : stepC l b a s i = s := by
  unfold stepC
  rw [h, if_neg (by decide)]
theorem sepB_old {i : Nat} {o : Option Nat} (hi : i < l.length) (ho : ∀ j, o = some j → j < l.length) : sepB (l ++ [x]) i o = sepB l i o := by
  unfold sepB
  rcases o with _ | j
  · rfl
  · simp only [List.getElem?_append_left hi, List.getElem?_append_left (ho j rfl)]
theorem toldS_old {s : List ByteArray × Option Nat} {i : Nat} (hi : i < l.length) (ho : ∀ j, s.2 = some j → j < l.length) : toldS (l ++ [x]) s i = toldS l s i := by
  unfold toldS
  rw [List.getElem?_append_left hi, sepB_old hi ho, hitB_old hi]
theorem stepC_last {s : List ByteArray × Option Nat} {i : Nat} {j : Nat} (h : (stepC l b a s i).2 = some j) (ho : ∀ j, s.2 = some j → j < i) : j < i + 1 := by
  unfold stepC at h
  split at h
  · split at h
    · injection h with h; omega
    · have := ho j h; omega
  · have := ho j h; omega
/-- The first k rows tell the same, as far as the row that comes tells none of them. -/
theorem ctxS_same : ∀ k, k ≤ l.length → (∀ j, j < k → (hitX x && decide (l.length ≤ j + b)) = true → tellB l b a j = true) → ctxS (l ++ [x]) b a k = ctxS l b a k
  | 0, _, _ => rfl
  | k + 1, hk, h => by
    have ih := ctxS_same k (by omega) (fun j hj => h j (by omega))
    rw [ctxS_succ, ctxS_succ, ih]
    have ht : tellB (l ++ [x]) b a k = tellB l b a k := by
      rw [tellB_old (by omega)]
      cases h1 : (hitX x && decide (l.length ≤ k + b)) with
      | false => rw [Bool.or_false]
      | true => rw [h k (by omega) h1]; rfl
    cases h2 : tellB l b a k with
    | false => rw [stepC_not (by rw [ht]; exact h2), stepC_not h2]
    | true =>
      rw [stepC_told (by rw [ht]; exact h2), stepC_told h2]
      exact toldS_old (by omega) (fun j hj => by have := ctxS_last l b a k j hj; omega)
/-- All rows from one on, told one behind the other. -/
def runS (l : List Rw) (s : List ByteArray × Option Nat) (i : Nat) : Nat → List ByteArray × Option Nat
  | 0 => s
  | n + 1 => toldS l (runS l s i n) (i + n)
/-- All of these are told. -/
theorem ctxS_run {i : Nat} : ∀ n, (∀ j, i ≤ j → j < i + n → tellB l b a j = true) → ctxS l b a (i + n) = runS l (ctxS l b a i) i n
  | 0, _ => rfl
  | n + 1, h => by
    rw [show i + (n + 1) = (i + n) + 1 by omega, ctxS_succ, ctxS_run n (fun j h1 h2 => h j h1 (by omega)), stepC_told (h (i + n) (by omega) (by omega))]
    rfl
/-- None of these is told. -/
theorem ctxS_none {i : Nat} : ∀ n, (∀ j, i ≤ j → j < i + n → tellB l b a j = false) → ctxS l b a (i + n) = ctxS l b a i
  | 0, _ => rfl
  | n + 1, h => by
    rw [show i + (n + 1) = (i + n) + 1 by omega, ctxS_succ, ctxS_none n (fun j h1 h2 => h j h1 (by omega)), stepC_not (h (i + n) (by omega) (by omega))]
/-- The row that was told last. -/
def lastC (l : List Rw) (b a : Nat) : Option Nat := (ctxS l b a l.length).2
def fromC : Option Nat → Nat
  | none => 0
  | some j => j + 1
theorem ctxS_lastT (l : List Rw) (b a : Nat) : ∀ k, k ≤ l.length → (∀ j, (ctxS l b a k).2 = some j → tellB l b a j = true) ∧ ∀ j, fromC (ctxS l b a k).2 ≤ j → j < k → tellB l b a j = false
  | 0, _ => ⟨fun j h => by (cases h), fun j _ h => absurd h (Nat.not_lt_zero j)⟩
  | k + 1, hk => by
    obtain ⟨h1, h2⟩ := ctxS_lastT l b a k (by omega)
    rw [ctxS_succ]
    cases h : tellB l b a k with
    | false =>
      rw [stepC_not h]
      refine ⟨h1, fun j h3 h4 => ?_⟩
      rcases Nat.lt_or_ge j k with h5 | h5
      · exact h2 j h3 h5
      · rw [show j = k by omega]; exact h
    | true =>
      rw [stepC_told h]
      unfold toldS
      rw [List.getElem?_eq_getElem (by omega : k < l.length)]
      refine ⟨fun j hj => ?_, fun j h3 h4 => ?_⟩
      · injection hj with hj
        rw [← hj]; exact h
      · simp only [fromC] at h3
        omega
/-- Where the rows begin that may be told yet. -/
def heldC (l : List Rw) (b a : Nat) : Nat := max (fromC (lastC l b a)) (l.length - b)
theorem lastC_lt (l : List Rw) (b a : Nat) : fromC (lastC l b a) ≤ l.length := by
  unfold lastC
  rcases h : (ctxS l b a l.length).2 with _ | j
  · exact Nat.zero_le _
  · have := ctxS_last l b a l.length j h
    simp only [fromC]
    omega
theorem heldC_le (l : List Rw) (b a : Nat) : heldC l b a ≤ l.length := by
  have := lastC_lt l b a
  unfold heldC
  omega
/-- A told row that is close to the end: all from there to the last one are told. -/
theorem told_close {j : Nat} (h1 : l.length ≤ j + b) (h2 : j < fromC (lastC l b a)) : tellB l b a j = true := by
  have hT := ctxS_lastT l b a l.length (Nat.le_refl _)
  rcases hq : lastC l b a with _ | t
  · rw [hq] at h2
    simp [fromC] at h2
  · rw [hq] at h2
    simp only [fromC] at h2
    have ht := hT.1 t hq
    have htl := ctxS_last l b a l.length t hq
    rcases Nat.lt_or_ge j t with h3 | h3
    · rcases tellB_iff.1 ht with h4 | ⟨h, h5, h6, h7, h8⟩ | ⟨h, h5, h6, h7, h8⟩
      · exact tellB_iff.2 (.inr (.inr ⟨t, h3, htl, by omega, h4⟩))
      · rcases Nat.lt_trichotomy j h with h9 | h9 | h9
        · exact tellB_iff.2 (.inr (.inr ⟨h, h9, h6, by omega, h8⟩))
        · rw [h9]; exact tellB_iff.2 (.inl h8)
        · exact tellB_iff.2 (.inr (.inl ⟨h, h9, h6, by omega, h8⟩))
      · exact tellB_iff.2 (.inr (.inr ⟨h, by omega, h6, by omega, h8⟩))
    · rw [show j = t by omega]; exact ht
/-- What a row adds: with hits all that is held, and itself; close behind one itself; else nothing. -/
theorem ctxS_add : ctxS (l ++ [x]) b a (l.length + 1) = if hitX x = true then runS (l ++ [x]) (ctxS l b a l.length) (heldC l b a) (l.length + 1 - heldC l b a) else if leftB l a = true then toldS (l ++ [x]) (ctxS l b a l.length) l.length else ctxS l b a l.length := by
  by_cases hx : hitX x = true
  · rw [if_pos hx]
    have hle := heldC_le l b a
    have hl := lastC_lt l b a
    have hT := ctxS_lastT l b a l.length (Nat.le_refl _)
    have h1 : ctxS (l ++ [x]) b a (heldC l b a) = ctxS l b a l.length := by
      rw [ctxS_same (heldC l b a) hle]
      · have e : l.length = fromC (lastC l b a) + (l.length - fromC (lastC l b a)) := by omega
        have e2 : heldC l b a = fromC (lastC l b a) + (heldC l b a - fromC (lastC l b a)) := by unfold heldC; omega
        rw [e2, ctxS_none (i := fromC (lastC l b a)) (heldC l b a - fromC (lastC l b a)) (fun j h1 h2 => hT.2 j h1 (by omega))]
        conv => rhs; rw [e]
        rw [ctxS_none (i := fromC (lastC l b a)) (l.length - fromC (lastC l b a)) (fun j h1 h2 => hT.2 j h1 (by omega))]
      · intro j hj h2
        rw [hx, Bool.true_and, decide_eq_true_eq] at h2
        have hj2 : j < fromC (lastC l b a) := by unfold heldC at hj; omega
        exact told_close h2 hj2
    have e : l.length + 1 = heldC l b a + (l.length + 1 - heldC l b a) := by omega
    conv => lhs; rw [e]
    rw [ctxS_run (l.length + 1 - heldC l b a) (fun j h2 h3 => ?_), h1]
    rcases Nat.lt_or_ge j l.length with h4 | h4
    · rw [tellB_old h4, hx, Bool.true_and, Bool.or_eq_true, decide_eq_true_eq]
      exact .inr (by unfold heldC at h2; omega)
    · rw [show j = l.length by omega, tellB_new, hx]; rfl
  · have hx' : hitX x = false := by simpa using hx
    rw [if_neg hx, ctxS_succ, ctxS_same l.length (Nat.le_refl _) (fun j _ h => by rw [hx'] at h; cases h)]
    cases hl : leftB l a with
    | true => rw [if_pos rfl, stepC_told (by rw [tellB_new, hl, hx']; rfl)]
    | false => rw [if_neg (by decide), stepC_not (by rw [tellB_new, hl, hx']; rfl)]
end
end Go.Proofs.YtebmafghekfllaaDoor
