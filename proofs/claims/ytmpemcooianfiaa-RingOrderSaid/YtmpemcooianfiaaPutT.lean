/- Which tickets were put: those that were given, and those that are there. -/
import Derived.Test.YtmpemcooianfiaaRinF
namespace Go.Proofs.Ytmpemcooianfiaa
open Go Go.RowKit
set_option linter.unusedVariables false
/-- The item of a ticket, with seven more as its buffer. -/
def bufIt (t : Nat) : It := ⟨(t : Int), (t : Int) + 7, 0, 0, ⟨#[]⟩, none, 0, 0, [], 0⟩
def isS : Option (Option It) → Bool
  | some (some _) => true
  | _ => false
def pT (next : Nat) (W : List (Option It)) (t : Nat) : Bool := decide (t < next) || isS W[t - next]?
def cntW (W : List (Option It)) : Nat := W.countP Option.isSome
def Bok (next : Nat) (W : List (Option It)) : Prop := ∀ (i : Nat) (x : It), W[i]? = some (some x) → x = bufIt (next + i)
theorem putR_at {next : Nat} {W : List (Option It)} {q : Nat} (h : q < W.length) : putR next W ((next + q : Nat) : Int) = if pT next W (next + q) = true then 2 else 0 := by
  unfold putR pT
  rw [if_neg (by omega), if_neg (by omega)]
  have e : (((next + q : Nat) : Int) - (next : Int)).toNat = q := by omega
  have e2 : next + q - next = q := by omega
  rw [e, e2, List.getElem?_eq_getElem h]
  rw [show decide (next + q < next) = false by simp]
  cases W[q] <;> simp [isS]
theorem putW_get {next : Nat} {W : List (Option It)} {q : Nat} (h : q < W.length) (hp : pT next W (next + q) = false) (j : Nat) : (putW next W (bufIt (next + q)))[j]? = if j = q then some (some (bufIt (next + q))) else W[j]? := by
  have h1 : putR next W ((next + q : Nat) : Int) = 0 := by rw [putR_at h, hp]; rfl
  unfold putW
  rw [show (bufIt (next + q)).n = ((next + q : Nat) : Int) from rfl, h1, if_pos rfl]
  have e : (((next + q : Nat) : Int) - (next : Int)).toNat = q := by omega
  rw [e, List.getElem?_set]
  by_cases hj : q = j
  · subst hj
    rw [if_pos rfl, if_pos h, if_pos rfl]
  · rw [if_neg hj, if_neg (fun e => hj e.symm)]
theorem putW_same {next : Nat} {W : List (Option It)} {q : Nat} (h : q < W.length) (hp : pT next W (next + q) = true) : putW next W (bufIt (next + q)) = W := by
  have h1 : putR next W ((next + q : Nat) : Int) = 2 := by rw [putR_at h, hp]; rfl
  unfold putW
  rw [show (bufIt (next + q)).n = ((next + q : Nat) : Int) from rfl, h1]
  rfl
/-- Behind Put that ticket was put, and the others as before. -/
theorem pT_put {next : Nat} {W : List (Option It)} {q : Nat} (h : q < W.length) (t : Nat) : pT next (putW next W (bufIt (next + q))) t = if t = next + q then true else pT next W t := by
  cases hp : pT next W (next + q) with
  | true =>
    rw [putW_same h hp]
    split
    · rename_i e; rw [e, hp]
    · rfl
  | false =>
    unfold pT
    rw [putW_get h hp]
    by_cases ht : t = next + q
    · rw [if_pos ht, if_pos (by omega)]
      simp [isS]
    · rw [if_neg ht]
      by_cases h2 : t < next
      · simp [h2]
      · rw [if_neg (by omega)]
theorem Bok.put {next : Nat} {W : List (Option It)} {q : Nat} (hb : Bok next W) (h : q < W.length) : Bok next (putW next W (bufIt (next + q))) := by
  cases hp : pT next W (next + q) with
  | true => rw [putW_same h hp]; exact hb
  | false =>
    intro i x hx
    rw [putW_get h hp] at hx
    by_cases hi : i = q
    · rw [if_pos hi] at hx
      injection hx with hx
      injection hx with hx
      rw [← hx, hi]
    · rw [if_neg hi] at hx
      exact hb i x hx
theorem cnt_set (W : List (Option It)) : ∀ (q : Nat) (x : Option It), cntW (W.set q x) ≤ cntW W + 1 := by
  induction W with
  | nil => intro q x; simp [cntW]
  | cons o r ih =>
    intro q x
    rcases q with _ | q
    · simp only [List.set_cons_zero, cntW, List.countP_cons]
      split <;> split <;> omega
    · have := ih q x
      simp only [List.set_cons_succ, cntW, List.countP_cons] at this ⊢
      omega
theorem cnt_put (next : Nat) (W : List (Option It)) (x : It) : cntW (putW next W x) ≤ cntW W + 1 := by
  unfold putW
  split
  · exact cnt_set _ _ _
  · omega
section
variable {next : Nat} {W : List (Option It)}
/-- The next one is given. -/
theorem give_at (hb : Bok next W) (h : (headW W).isSome = true) : headW W = some (bufIt next) ∧ nextN next W = next + 1 ∧ Bok (next + 1) (tailW W) ∧ cntW (tailW W) + 1 = cntW W ∧ pT next W next = true ∧ ∀ t, pT (next + 1) (tailW W) t = pT next W t := by
  rcases W with _ | ⟨_ | x, r⟩
  · cases h
  · cases h
  · have hx : x = bufIt next := by have := hb 0 x rfl; simpa using this
    subst hx
    refine ⟨rfl, rfl, fun i y hy => ?_, ?_, ?_, fun t => ?_⟩
    · change (r ++ [none])[i]? = some (some y) at hy
      rcases Nat.lt_or_ge i r.length with h1 | h1
      · rw [List.getElem?_append_left h1] at hy
        have := hb (i + 1) y (by simpa using hy)
        rw [this]
        congr 1
        omega
      · rw [List.getElem?_append_right h1] at hy
        rcases Nat.eq_zero_or_pos (i - r.length) with h2 | h2
        · rw [h2] at hy; cases hy
        · rw [List.getElem?_eq_none (by simp; omega)] at hy; cases hy
    · simp [tailW, cntW]
    · simp [pT, isS]
    · unfold pT
      show (decide (t < next + 1) || isS (r ++ [none])[t - (next + 1)]?) = _
      rcases Nat.lt_trichotomy t next with h1 | h1 | h1
      · simp [h1, Nat.lt_succ_of_lt h1]
      · subst h1
        simp [isS]
      · have e : t - next = (t - (next + 1)) + 1 := by omega
        rw [e, List.getElem?_cons_succ, decide_eq_false (by omega), decide_eq_false (by omega)]
        congr 1
        rcases Nat.lt_or_ge (t - (next + 1)) r.length with h2 | h2
        · rw [List.getElem?_append_left h2]
        · rw [List.getElem?_append_right h2, List.getElem?_eq_none h2]
          rcases Nat.eq_zero_or_pos (t - (next + 1) - r.length) with h3 | h3
          · rw [h3]; rfl
          · rw [List.getElem?_eq_none (by simp; omega)]
theorem none_at (h : (headW W).isSome = false) : pT next W next = false := by
  rcases W with _ | ⟨_ | x, r⟩
  · simp [pT, isS]
  · simp [pT, isS]
  · cases h
end
end Go.Proofs.Ytmpemcooianfiaa
