/- By context, of rows whose numbers are 0, 1, 2 ..: pure. -/
import Derived.Test.YtebmafghekfllaaDoorTwo18
namespace Go.Proofs.YtebmafghekfllaaDoor
open Go Go.RowKit
set_option linter.unusedVariables false
/-- The line of a row that has a number as its place. -/
def lineJ (X : ByteArray) (j : Nat) (hit : Bool) : ByteArray := itoaS (j : Int) ++ (if hit = true then ⟨#[58]⟩ else ⟨#[45]⟩) ++ X
def linesJ (X : ByteArray) (L : List Rw) (s n : Nat) : List ByteArray := (List.range' s n).map fun j => lineJ X j (hitB L j)
def Numd (X : ByteArray) (L : List Rw) : Prop := ∀ (j : Nat) (y : Rw), L[j]? = some y → y.n = (j : Int) ∧ y.tx = X
def sepL (b : Bool) : List ByteArray := if b = true then [⟨#[45, 45]⟩] else []
section
variable {X : ByteArray} {L l : List Rw} {x : Rw} {b a : Nat}
theorem told_num (h : Numd X L) {j : Nat} (hj : j < L.length) (s : List ByteArray × Option Nat) : toldS L s j = (s.1 ++ sepL (sepB L j s.2) ++ [lineJ X j (hitB L j)], some j) := by
  unfold toldS
  have hx := List.getElem?_eq_getElem hj
  obtain ⟨h1, h2⟩ := h j _ hx
  rw [hx]
  dsimp only
  unfold lineS lineJ sepL
  rw [h1, h2]
theorem sep_next (h : Numd X L) {j : Nat} (hj : j + 1 < L.length) (hL : L.length ≤ 1000) : sepB L (j + 1) (some j) = false := by
  unfold sepB
  dsimp only
  have hx := List.getElem?_eq_getElem hj
  have hy := List.getElem?_eq_getElem (show j < L.length by omega)
  rw [hx, hy]
  dsimp only
  rw [(h _ _ hx).1, (h _ _ hy).1]
  unfold succI RowKit.wrap64
  simp
  omega
theorem run_once (h : Numd X L) (hL : L.length ≤ 1000) (o : List ByteArray × Option Nat) (s : Nat) : ∀ n, s + n < L.length → runS L o s (n + 1) = (o.1 ++ sepL (sepB L s o.2) ++ linesJ X L s (n + 1), some (s + n))
  | 0, hn => by
    show toldS L o (s + 0) = _
    rw [Nat.add_zero, told_num h (by omega)]
    rfl
  | n + 1, hn => by
    show toldS L (runS L o s (n + 1)) (s + (n + 1)) = _
    rw [run_once h hL o s n (by omega), told_num h hn]
    dsimp only
    rw [show s + (n + 1) = (s + n) + 1 by omega, sep_next h (by omega) hL]
    unfold linesJ
    rw [List.range'_concat (s := s) (n := n + 1), List.map_append]
    simp [sepL, Nat.add_assoc]
theorem numd_app (hl : Numd X l) (h1 : x.n = (l.length : Int)) (h2 : x.tx = X) : Numd X (l ++ [x]) := fun j y hy => by
  rcases Nat.lt_or_ge j l.length with hj | hj
  · rw [List.getElem?_append_left hj] at hy
    exact hl j y hy
  · rw [List.getElem?_append_right hj] at hy
    rcases Nat.eq_zero_or_pos (j - l.length) with h0 | h0
    · rw [h0] at hy
      injection hy with hy
      subst hy
      exact ⟨by rw [h1]; congr 1; omega, h2⟩
    · rw [List.getElem?_eq_none (by simp; omega)] at hy
      cases hy
theorem once_out (hl : Numd X l) (h1 : x.n = (l.length : Int)) (h2 : x.tx = X) (hL : l.length ≤ 900) {out : List ByteArray} (h : ctxL (l ++ [x]) b a = ctxL l b a ++ out) :
    ∃ (sep : Bool) (s : Nat), fromC (lastC l b a) ≤ s ∧ s ≤ l.length + 1 ∧ out = sepL sep ++ linesJ X (l ++ [x]) s (l.length + 1 - s) ∧ (sep = true → s ≤ l.length) ∧ (s ≤ l.length → fromC (lastC (l ++ [x]) b a) = l.length + 1) ∧ (s = l.length + 1 → lastC (l ++ [x]) b a = lastC l b a) ∧ (hitX x = true → s ≤ l.length) ∧ (b = 0 → a = 0 → if hitX x = true then s = l.length else s = l.length + 1) := by
  have hN := numd_app hl h1 h2
  have hlen : (l ++ [x]).length = l.length + 1 := by simp
  have hst : ctxS l b a l.length = (ctxL l b a, lastC l b a) := rfl
  have e : ctxS (l ++ [x]) b a (l ++ [x]).length = (ctxL (l ++ [x]) b a, lastC (l ++ [x]) b a) := rfl
  rw [hlen, ctxS_add, hst] at e
  have hfl := lastC_lt l b a
  by_cases hx : hitX x = true
  · rw [if_pos hx] at e
    have hle := heldC_le l b a
    have hfh : fromC (lastC l b a) ≤ heldC l b a := by unfold heldC; omega
    rw [show l.length + 1 - heldC l b a = (l.length - heldC l b a) + 1 by omega, run_once hN (by omega) _ _ _ (by omega)] at e
    injection e with e1 e2
    rw [h, List.append_assoc] at e1
    have e3 := List.append_cancel_left e1
    refine ⟨sepB (l ++ [x]) (heldC l b a) (lastC l b a), heldC l b a, hfh, by omega, ?_, fun _ => hle, fun _ => ?_, fun h => by omega, fun _ => hle, fun hb ha => ?_⟩
    · rw [← e3, show l.length + 1 - heldC l b a = (l.length - heldC l b a) + 1 by omega]
    · rw [← e2]
      show heldC l b a + (l.length - heldC l b a) + 1 = l.length + 1
      omega
    · rw [if_pos hx]
      unfold heldC
      omega
  · rw [if_neg hx] at e
    by_cases hlf : leftB l a = true
    · rw [if_pos hlf, told_num hN (by omega)] at e
      injection e with e1 e2
      rw [h, List.append_assoc] at e1
      have e3 := List.append_cancel_left e1
      refine ⟨sepB (l ++ [x]) l.length (lastC l b a), l.length, hfl, by omega, ?_, fun _ => Nat.le_refl _, fun _ => by rw [← e2]; rfl, fun h => by omega, fun _ => Nat.le_refl _, fun hb ha => ?_⟩
      · rw [← e3, show l.length + 1 - l.length = 1 by omega]
        rfl
      · subst ha
        unfold leftB at hlf
        rw [nearB_iff] at hlf
        obtain ⟨j, h3, h4, h5, _⟩ := hlf
        omega
    · rw [if_neg hlf] at e
      injection e with e1 e2
      rw [h] at e1
      have e3 : out = [] := by simpa using e1.symm
      refine ⟨false, l.length + 1, by omega, Nat.le_refl _, ?_, fun h => (by cases h), fun h => by omega, fun _ => e2.symm, fun h => absurd h hx, fun hb ha => ?_⟩
      · rw [e3, Nat.sub_self]
        rfl
      · rw [if_neg hx]
end
end Go.Proofs.YtebmafghekfllaaDoor
