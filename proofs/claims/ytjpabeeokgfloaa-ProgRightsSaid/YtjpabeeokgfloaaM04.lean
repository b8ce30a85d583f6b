/- Patterns in plain words, over code points: sets, tokens, trees. -/
import Derived.Test.YtjpabeeokgfloaaM02
import Derived.Test.YtjpabeeokgfloaaM03
namespace Go.Proofs.Ytjpabeeokgfloaa
open Go Go.RowKit
set_option linter.unusedVariables false

/-! ### The set of the numbers that a test says -/
def setGo (f : Int → Bool) : Nat → List (Int × Int)
  | 0 => []
  | k + 1 =>
    if f (1114112 - ((k + 1 : Nat) : Int)) = true then
      match setGo f k with
      | [] => [(1114112 - ((k + 1 : Nat) : Int), 1114112 - ((k + 1 : Nat) : Int))]
      | p :: s => if p.1 = 1114112 - ((k + 1 : Nat) : Int) + 1 then (1114112 - ((k + 1 : Nat) : Int), p.2) :: s else (1114112 - ((k + 1 : Nat) : Int), 1114112 - ((k + 1 : Nat) : Int)) :: p :: s
    else setGo f k
theorem setGo_is (f : Int → Bool) : ∀ k : Nat, k ≤ 1114112 → CanonF (1114112 - (k : Int)) (setGo f k) ∧ ∀ r, hasL (setGo f k) r = (decide (1114112 - (k : Int) ≤ r ∧ r ≤ 1114111) && f r)
  | 0, _ => ⟨trivial, fun r => by rw [setGo, hasL_nil, decide_eq_false (by omega), Bool.false_and]⟩
  | k + 1, hk => by
    obtain ⟨h1, h2⟩ := setGo_is f k (by omega)
    rw [setGo]
    obtain ⟨L, hL⟩ : ∃ L : Int, L = 1114112 - ((k + 1 : Nat) : Int) := ⟨_, rfl⟩
    have e : (1114112 : Int) - (k : Int) = L + 1 := by omega
    rw [← hL]
    rw [e] at h1 h2
    have hL0 : 0 ≤ L ∧ L ≤ 1114111 := by omega
    obtain ⟨t, ht⟩ : ∃ t, t = setGo f k := ⟨_, rfl⟩
    rw [← ht] at h1 h2 ⊢
    clear ht
    by_cases hf : f L = true
    · rw [if_pos hf]
      have done : ∀ u, CanonF L u → (∀ r, hasL u r = (decide (r = L) || hasL t r)) → CanonF L u ∧ ∀ r, hasL u r = (decide (L ≤ r ∧ r ≤ 1114111) && f r) := by
        intro u hu hm
        refine ⟨hu, fun r => ?_⟩
        rw [hm r, h2 r]
        by_cases hr : r = L
        · subst hr
          rw [hf, decide_eq_true rfl, Bool.true_or, decide_eq_true (by omega), Bool.true_and]
        · rw [decide_eq_false hr, Bool.false_or]
          congr 1
          apply decide_eq_decide.2
          omega
      rcases t with _ | ⟨p, s⟩
      · refine done [(L, L)] ⟨Int.le_refl _, Int.le_refl _, hL0.2, trivial⟩ fun r => ?_
        rw [hasL_cons, hasL_nil, Bool.or_false, Bool.or_false]
        apply decide_eq_decide.2
        dsimp only
        omega
      · obtain ⟨q1, q2, q3, q4⟩ := h1
        by_cases hp : p.1 = L + 1
        · show CanonF L (if p.1 = L + 1 then _ else _) ∧ _
          dsimp only
          rw [if_pos hp]
          refine done ((L, p.2) :: s) ⟨Int.le_refl _, by dsimp only; omega, q3, q4⟩ fun r => ?_
          rw [hasL_cons, hasL_cons, ← Bool.or_assoc, ← Bool.decide_or]
          congr 1
          apply decide_eq_decide.2
          dsimp only
          omega
        · dsimp only
          rw [if_neg hp]
          refine done ((L, L) :: p :: s) ⟨Int.le_refl _, Int.le_refl _, hL0.2, by dsimp only; omega, q2, q3, q4⟩ fun r => ?_
          rw [hasL_cons]
          congr 1
          apply decide_eq_decide.2
          dsimp only
          omega
    · rw [if_neg hf]
      refine ⟨h1.mono (by omega), fun r => ?_⟩
      rw [h2 r]
      by_cases hr : r = L
      · subst hr
        rw [Bool.eq_false_iff.2 hf, Bool.and_false, Bool.and_false]
      · congr 1
        apply decide_eq_decide.2
        omega
/-- The set of the numbers from 0 to 10ffff for which f is true. -/
def setOf (f : Int → Bool) : List (Int × Int) := setGo f 1114112
theorem setOf_canon (f : Int → Bool) : Canon (setOf f) := (setGo_is f 1114112 (Nat.le_refl _)).1
theorem setOf_has (f : Int → Bool) (r : Int) : hasL (setOf f) r = (decide (0 ≤ r ∧ r ≤ 1114111) && f r) := (setGo_is f 1114112 (Nat.le_refl _)).2 r
attribute [irreducible] setOf
theorem setOf_one {f : Int → Bool} {s : List (Int × Int)} (hc : Canon s) (h : ∀ r, hasL s r = (decide (0 ≤ r ∧ r ≤ 1114111) && f r)) : s = setOf f :=
  canon_one hc (setOf_canon f) fun r => (h r).trans (setOf_has f r).symm

/-! ### Tokens -/
/-- A token: kind 0: one point of a set; 1: a bar, a parenthesis, a beginning, an end (r); 2: a count. -/
structure TokL where
  kind : Int
  r : Int
  set : List (Int × Int)
  mn : Int
  mx : Int
def tokC (s : List (Int × Int)) : TokL := ⟨0, 0, s, 0, 0⟩
def tokS (r : Int) : TokL := ⟨1, r, [], 0, 0⟩
def tokN (a b : Int) : TokL := ⟨2, 0, [], a, b⟩

def namedS (r : Int) : List (Int × Int) := if r = 100 then [(48, 57)] else if r = 119 then [(48, 57), (65, 90), (95, 95), (97, 122)] else if r = 115 then [(9, 13), (32, 32)] else []
/-- What stands for itself behind a backslash. -/
def signL : List Int := [46, 94, 36, 124, 40, 41, 91, 93, 123, 125, 42, 43, 63, 92, 45]
/-- What stands behind a backslash: its set; is it a point? -/
def escL (r : Int) : Option (List (Int × Int) × Bool) :=
  if r = 100 ∨ r = 119 ∨ r = 115 then some (namedS r, false)
  else if r = 68 ∨ r = 87 ∨ r = 83 then some (setOf fun x => !hasL (namedS (r + 32)) x, false)
  else if r = 110 then some ([(10, 10)], true)
  else if r = 114 then some ([(13, 13)], true)
  else if r = 116 then some ([(9, 9)], true)
  else if r ∈ signL then some ([(r, r)], true)
  else none
/-- A point of a class, and what is behind it. -/
def ptL : List Int → Option (List (Int × Int) × Bool × List Int)
  | [] => none
  | r :: l =>
    if r = 91 ∨ r = 93 ∨ r = 94 ∨ r = 45 then none
    else if r = 92 then
      match l with
      | [] => none
      | e :: l' => (escL e).map fun p => (p.1, p.2, l')
    else some ([(r, r)], true, l)
/-- A part of a class, and what is behind it. -/
def partL (l : List Int) : Option (List (Int × Int) × List Int) :=
  match ptL l with
  | none => none
  | some (s, is, l1) =>
    match l1 with
    | 45 :: l2 =>
      if is = true then
        match ptL l2 with
        | some (t, true, l3) => if (t.headD (0, 0)).1 < (s.headD (0, 0)).1 then none else some ([((s.headD (0, 0)).1, (t.headD (0, 0)).1)], l3)
        | _ => none
      else some (s, l1)
    | _ => some (s, l1)
/-- The parts of a class: at least one, up to its end. -/
def partsL : Nat → List Int → List (Int × Int) → Bool → Option (List (Int × Int) × List Int)
  | 0, _, _, _ => none
  | f + 1, l, all, more =>
    match more, l with
    | true, 93 :: l' => some (all, l')
    | _, _ =>
      match partL l with
      | none => none
      | some (s, l1) => partsL f l1 (all ++ s) true
/-- A class behind its bracket. -/
def classL (l : List Int) : Option (List (Int × Int) × List Int) :=
  match l with
  | 94 :: l' => (partsL (l'.length + 1) l' [] false).map fun p => (setOf fun x => !hasL p.1 x, p.2)
  | _ => (partsL (l.length + 1) l [] false).map fun p => (setOf fun x => hasL p.1 x, p.2)
def isDig (r : Int) : Bool := decide (48 ≤ r) && decide (r ≤ 57)
/-- One or two digits. -/
def numL (l : List Int) : Option (Int × List Int) :=
  match l with
  | a :: b :: l' =>
    if isDig a = true then
      if isDig b = true then
        if 10 * (a - 48) + (b - 48) > 50 then none else some (10 * (a - 48) + (b - 48), l')
      else some (a - 48, b :: l')
    else none
  | [a] => if isDig a = true then some (a - 48, []) else none
  | [] => none
/-- A count behind its brace. -/
def braceL (l : List Int) : Option (TokL × List Int) :=
  match numL l with
  | some (a, 125 :: l') => some (tokN a a, l')
  | some (a, 44 :: 125 :: l') => some (tokN a (-1), l')
  | some (a, 44 :: l') =>
    match numL l' with
    | some (b, 125 :: l'') => if b < a then none else some (tokN a b, l'')
    | _ => none
  | _ => none
/-- The first token, and what is behind it. -/
def tokL : List Int → Option (TokL × List Int)
  | [] => none
  | r :: l =>
    if r = 124 ∨ r = 40 ∨ r = 41 ∨ r = 94 ∨ r = 36 then some (tokS r, l)
    else if r = 42 then some (tokN 0 (-1), l)
    else if r = 43 then some (tokN 1 (-1), l)
    else if r = 63 then some (tokN 0 1, l)
    else if r = 123 then braceL l
    else if r = 46 then some (tokC [(0, 9), (11, 1114111)], l)
    else if r = 91 then (classL l).map fun p => (tokC p.1, p.2)
    else if r = 92 then
      match l with
      | [] => none
      | e :: l' => (escL e).map fun p => (tokC p.1, l')
    else if r = 93 ∨ r = 125 then none
    else some (tokC [(r, r)], l)
def toksL : Nat → List Int → Option (List TokL)
  | _, [] => some []
  | 0, _ :: _ => none
  | f + 1, r :: l =>
    match tokL (r :: l) with
    | none => none
    | some (t, l') => (toksL f l').map fun ts => t :: ts

/-! ### Trees -/
def leaf (op : Int) (s : List (Int × Int)) : Wood := .cons op s 0 0 .nil .nil
def zeroN : Wood := leaf 0 []
/-- One node, or more of them under an Op. -/
def oneN (op : Int) (l : Wood) : Wood :=
  match l with
  | .nil => zeroN
  | .cons o s a z k .nil => .cons o s a z k .nil
  | .cons o s a z k x => .cons op [] 0 0 (.cons o s a z k x) .nil
/-- The last node put under a count. -/
def repLast (mn mx : Int) : Wood → Wood
  | .nil => .nil
  | .cons o s a z k .nil => .cons 6 [] mn mx (.cons o s a z k .nil) .nil
  | .cons o s a z k x => .cons o s a z k (repLast mn mx x)
/-- Alternatives that are through. -/
def finN (alts pieces : Wood) : Wood := oneN 5 (alts.app (oneN 4 pieces))
/-- Tokens gone through one by one: what stands in open parentheses is kept for when they are closed. -/
def runT (D : Nat) : List TokL → List (Wood × Wood) → Wood → Wood → Bool → Option Wood
  | [], [], a, p, _ => some (finN a p)
  | [], _ :: _, _, _, _ => none
  | t :: l, st, a, p, loose =>
    if t.kind = 0 then runT D l st a (p.app (leaf 1 t.set)) true
    else if t.kind = 2 then (if loose = true then runT D l st a (repLast t.mn t.mx p) false else none)
    else if t.r = 124 then runT D l st (a.app (oneN 4 p)) .nil false
    else if t.r = 94 then runT D l st a (p.app (leaf 2 [])) false
    else if t.r = 36 then runT D l st a (p.app (leaf 3 [])) false
    else if t.r = 41 then
      match st with
      | [] => none
      | (a', p') :: st' => runT D l st' a' (p'.app (finN a p)) true
    else if D + st.length < 10 then runT D l ((a, p) :: st) .nil .nil false
    else none
/-- A pattern's tree, out of its code points. -/
def treeL (l : List Int) : Option Wood := (toksL l.length l).bind fun ts => runT 0 ts [] .nil .nil false
end Go.Proofs.Ytjpabeeokgfloaa
/- The document's way to make a set between the ends of ranges, in plain words: it is the set. -/
namespace Go.Proofs.Ytjpabeeokgfloaa
open Go Go.RowKit
set_option linter.unusedVariables false

/-! ### Ends in order -/
def insI : List Int → Int → List Int
  | [], e => [e]
  | x :: xs, e => if x < e then x :: insI xs e else if x = e then x :: xs else e :: x :: xs
def Asc (l : List Int) : Prop := l.Pairwise (· < ·)
theorem insI_mem (e r : Int) : ∀ l : List Int, r ∈ insI l e ↔ r ∈ l ∨ r = e
  | [] => by simp [insI]
  | x :: xs => by
    rw [insI]
    split
    · rw [List.mem_cons, insI_mem e r xs, List.mem_cons, or_assoc]
    · split
      · rename_i h; subst h
        constructor
        · exact .inl
        · rintro (h | rfl)
          · exact h
          · exact List.mem_cons_self
      · rw [List.mem_cons, Or.comm]
theorem insI_asc (e : Int) : ∀ l : List Int, Asc l → Asc (insI l e)
  | [], _ => by unfold Asc insI; simp
  | x :: xs, h => by
    unfold Asc at h ⊢
    rw [List.pairwise_cons] at h
    rw [insI]
    split
    · rw [List.pairwise_cons]
      refine ⟨fun r hr => ?_, insI_asc e xs h.2⟩
      rcases (insI_mem e r xs).1 hr with hr | rfl
      · exact h.1 r hr
      · assumption
    · split
      · rw [List.pairwise_cons]; exact h
      · rw [List.pairwise_cons, List.pairwise_cons]
        refine ⟨fun r hr => ?_, h⟩
        rcases List.mem_cons.1 hr with rfl | hr
        · omega
        · have := h.1 r hr; omega
def sortE (es : List Int) : List Int := es.foldl insI []
theorem foldl_ins (es : List Int) : ∀ l : List Int, Asc l → Asc (es.foldl insI l) ∧ ∀ r, r ∈ es.foldl insI l ↔ r ∈ l ∨ r ∈ es := by
  induction es with
  | nil => intro l h; exact ⟨h, fun r => by simp⟩
  | cons e es ih =>
    intro l h
    obtain ⟨h1, h2⟩ := ih (insI l e) (insI_asc e l h)
    refine ⟨h1, fun r => ?_⟩
    rw [List.foldl_cons, h2 r, insI_mem, List.mem_cons, or_assoc]
theorem sortE_asc (es : List Int) : Asc (sortE es) := (foldl_ins es [] List.Pairwise.nil).1
theorem sortE_mem (es : List Int) (r : Int) : r ∈ sortE es ↔ r ∈ es := by
  rw [sortE, (foldl_ins es [] List.Pairwise.nil).2 r]; simp
theorem sortE_snoc (es : List Int) (e : Int) : sortE (es ++ [e]) = insI (sortE es) e := by simp [sortE]
/-- Where e is put, by index. -/
theorem insI_at (e : Int) : ∀ (l : List Int) (k : Nat), k ≤ l.length → (∀ j (h : j < l.length), j < k → l[j] < e) → (∀ h : k < l.length, ¬ l[k] < e) → insI l e = if ∃ h : k < l.length, l[k] = e then l else l.take k ++ e :: l.drop k
  | [], k, hk, _, _ => by
    have : k = 0 := by simpa using hk
    subst this
    rw [if_neg (by rintro ⟨h, _⟩; simp at h)]
    rfl
  | x :: xs, 0, _, _, h2 => by
    have hx := h2 (by simp)
    rw [List.getElem_cons_zero] at hx
    rw [insI, if_neg hx]
    by_cases he : x = e
    · rw [if_pos he, if_pos ⟨by simp, by simpa using he⟩]
    · rw [if_neg he, if_neg (by rintro ⟨_, h⟩; exact he (by simpa using h))]
      rfl
  | x :: xs, k + 1, hk, h1, h2 => by
    have hx := h1 0 (by simp) (by omega)
    rw [List.getElem_cons_zero] at hx
    have ih := insI_at e xs k (by simpa using hk) (fun j h hj => by have := h1 (j + 1) (by simpa using h) (by omega); simpa using this) (fun h => by have := h2 (by simpa using h); simpa using this)
    rw [insI, if_pos hx, ih]
    by_cases hc : ∃ h : k < xs.length, xs[k] = e
    · rw [if_pos hc, if_pos (by obtain ⟨h, e1⟩ := hc; exact ⟨by simpa using h, by simpa using e1⟩)]
    · rw [if_neg hc, if_neg (by rintro ⟨h, e1⟩; exact hc ⟨by simpa using h, by simpa using e1⟩)]
      rfl

/-! ### What lies between neighbours -/
theorem nearT_mem (z r : Int) (h0 : 0 ≤ z) (h1 : z ≤ 1114111) : r ∈ nearT z 3 ↔ (r = z - 1 ∨ r = z ∨ r = z + 1) ∧ 0 ≤ r ∧ r ≤ 1114111 := by
  have hc : clampI z = z := by unfold clampI; rw [if_neg (by omega), if_neg (by omega)]
  have hm : ∀ (l : List Int) (P : Prop) [Decidable P] (v : Int), r ∈ l ++ (if P then [v] else []) ↔ r ∈ l ∨ (P ∧ r = v) := by
    intro l P _ v
    rw [List.mem_append]
    by_cases h : P
    · rw [if_pos h]; simp [h]
    · rw [if_neg h]; simp [h]
  rw [nearT, hm, nearT, hm, nearT, hm, nearT, hc]
  simp only [List.not_mem_nil, false_or]
  omega
theorem endsL_mem {s : List (Int × Int)} {p : Int × Int} (hp : p ∈ s) (hw : 0 ≤ p.1 ∧ p.1 ≤ p.2 ∧ p.2 ≤ 1114111) {r : Int} (hr : (r = p.1 - 1 ∨ r = p.1 ∨ r = p.2 ∨ r = p.2 + 1) ∧ 0 ≤ r ∧ r ≤ 1114111) : r ∈ endsL s := by
  unfold endsL
  rw [List.mem_append, List.mem_flatMap]
  refine .inr ⟨p, hp, ?_⟩
  show r ∈ nearT p.1 3 ++ nearT p.2 3
  rw [List.mem_append, nearT_mem _ _ hw.1 (by omega), nearT_mem _ _ (by omega) hw.2.2]
  omega
theorem endsL_in {s : List (Int × Int)} {r : Int} (h : r ∈ endsL s) : 0 ≤ r ∧ r ≤ 1114111 := by
  have hn : ∀ (z : Int) (j : Nat), r ∈ nearT z j → 0 ≤ r ∧ r ≤ 1114111 := by
    intro z j
    induction j with
    | zero => intro h; cases h
    | succ j ih =>
      intro h
      rw [nearT, List.mem_append] at h
      rcases h with h | h
      · exact ih h
      · split at h
        · rw [List.mem_singleton] at h; omega
        · cases h
  unfold endsL at h
  rw [List.mem_append, List.mem_flatMap] at h
  rcases h with h | ⟨p, _, h⟩
  · simp at h; omega
  · have h : r ∈ nearT p.1 3 ++ nearT p.2 3 := h
    rw [List.mem_append] at h
    rcases h with h | h
    · exact hn _ _ h
    · exact hn _ _ h
/-- Nothing of the ends lies between a and b: either they are neighbours, or all from a to b are alike. -/
theorem alike {s : List (Int × Int)} (hw : ∀ p ∈ s, 0 ≤ p.1 ∧ p.1 ≤ p.2 ∧ p.2 ≤ 1114111) {a b : Int} (ha : 0 ≤ a) (hb : b ≤ 1114111) (hab : a + 1 < b) (hno : ∀ r ∈ endsL s, r ≤ a ∨ b ≤ r) (r : Int) (h1 : a ≤ r) (h2 : r ≤ b) : hasL s r = hasL s a := by
  apply Bool.eq_iff_iff.2
  rw [hasL_iff, hasL_iff]
  have key : ∀ p ∈ s, (p.1 ≤ r ∧ r ≤ p.2 ∧ 0 ≤ r ∧ r ≤ 1114111) ↔ (p.1 ≤ a ∧ a ≤ p.2 ∧ 0 ≤ a ∧ a ≤ 1114111) := by
    intro p hp
    have hq := hw p hp
    have e1 := hno p.1 (endsL_mem hp hq ⟨by omega, by omega, by omega⟩)
    have e2 := hno p.2 (endsL_mem hp hq ⟨by omega, by omega, by omega⟩)
    have e3 : p.1 = 0 ∨ (p.1 - 1 ≤ a ∨ b ≤ p.1 - 1) := by
      rcases Int.lt_or_le 0 p.1 with h | h
      · exact .inr (hno (p.1 - 1) (endsL_mem hp hq ⟨by omega, by omega, by omega⟩))
      · exact .inl (by omega)
    have e4 : p.2 = 1114111 ∨ (p.2 + 1 ≤ a ∨ b ≤ p.2 + 1) := by
      rcases Int.lt_or_le p.2 1114111 with h | h
      · exact .inr (hno (p.2 + 1) (endsL_mem hp hq ⟨by omega, by omega, by omega⟩))
      · exact .inl (by omega)
    omega
  constructor
  · rintro ⟨p, hp, h⟩; exact ⟨p, hp, (key p hp).1 h⟩
  · rintro ⟨p, hp, h⟩; exact ⟨p, hp, (key p hp).2 h⟩
end Go.Proofs.Ytjpabeeokgfloaa
/- The document's way to make a set between the ends of ranges: the second part, range by range. -/
namespace Go.Proofs.Ytjpabeeokgfloaa
open Go Go.RowKit
set_option linter.unusedVariables false

theorem asc_lt {l : List Int} (h : Asc l) (i j : Nat) (hij : i < j) (hj : j < l.length) : l.getD i 0 < l.getD j 0 := by
  have := List.pairwise_iff_getElem.1 h i j (by omega) hj hij
  simpa [List.getD, List.getElem?_eq_getElem hj, List.getElem?_eq_getElem (show i < l.length by omega)] using this
theorem mem_getD {l : List Int} {r : Int} (h : r ∈ l) : ∃ i, i < l.length ∧ l.getD i 0 = r := by
  obtain ⟨i, hi, e⟩ := List.getElem_of_mem h
  exact ⟨i, hi, by simpa [List.getD, List.getElem?_eq_getElem hi] using e⟩
theorem getD_mem' {l : List Int} {i : Nat} (h : i < l.length) : l.getD i 0 ∈ l := by
  simp [List.getD, List.getElem?_eq_getElem h]
/-- Neighbours of the ends in order. -/
theorem asc_gap {l : List Int} (h : Asc l) {i : Nat} (hi : i + 1 < l.length) {r : Int} (hr : r ∈ l) : r ≤ l.getD i 0 ∨ l.getD (i + 1) 0 ≤ r := by
  obtain ⟨j, hj, rfl⟩ := mem_getD hr
  rcases Nat.lt_or_ge i j with h1 | h1
  · right
    rcases Nat.lt_or_ge (i + 1) j with h2 | h2
    · exact Int.le_of_lt (asc_lt h _ _ h2 hj)
    · rw [show j = i + 1 by omega]; exact Int.le_refl _
  · left
    rcases Nat.lt_or_ge j i with h2 | h2
    · exact Int.le_of_lt (asc_lt h _ _ h2 (by omega))
    · rw [show j = i by omega]; exact Int.le_refl _

section
variable {rs : List (Int × Int)} {neg : Bool}
/-- The ends in order: from 0 to 10ffff. -/
theorem ends_first (rs : List (Int × Int)) : 0 < (sortE (endsL rs)).length ∧ (sortE (endsL rs)).getD 0 0 = 0 ∧ (sortE (endsL rs)).getD ((sortE (endsL rs)).length - 1) 0 = 1114111 := by
  obtain ⟨l, hl⟩ : ∃ l, l = sortE (endsL rs) := ⟨_, rfl⟩
  have ha : Asc l := hl ▸ sortE_asc _
  have hm : ∀ r, r ∈ l ↔ r ∈ endsL rs := fun r => hl ▸ sortE_mem _ r
  rw [← hl]
  have h0 : (0 : Int) ∈ l := (hm 0).2 (by simp [endsL])
  have h1 : (1114111 : Int) ∈ l := (hm _).2 (by simp [endsL])
  obtain ⟨i, hi, e⟩ := mem_getD h0
  obtain ⟨j, hj, e'⟩ := mem_getD h1
  refine ⟨by omega, ?_, ?_⟩
  · rcases Nat.eq_zero_or_pos i with h | h
    · rw [h] at e; exact e
    · have := asc_lt ha 0 i h hi
      have := endsL_in ((hm _).1 (getD_mem' (show 0 < l.length by omega)))
      omega
  · rcases Nat.lt_or_ge j (l.length - 1) with h | h
    · have := asc_lt ha j (l.length - 1) h (by omega)
      have := endsL_in ((hm _).1 (getD_mem' (show l.length - 1 < l.length by omega)))
      omega
    · rw [show l.length - 1 = j by omega, e']

/-- What was gone through: the ends up to a. -/
def Mid (f : Int → Bool) (a : Int) (out : List (Int × Int)) : Prop :=
  Canon out ∧ (∀ r, hasL out r = (decide (0 ≤ r ∧ r ≤ a) && f r)) ∧ endL 0 out ≤ a + 2 ∧ (f a = true → ∃ v q, out = v ++ [q] ∧ q.2 = a) ∧ (f a = false → endL 0 out ≤ a + 1)
variable {f : Int → Bool} {a b : Int} {out : List (Int × Int)}
/-- Between neighbours: they follow each other, or all between are like both. -/
def Near (f : Int → Bool) (a b : Int) : Prop := b = a + 1 ∨ (a + 1 < b ∧ ∀ r, a ≤ r → r ≤ b → f r = f a)
theorem mid_first (h : f 0 = false) : Mid f 0 [] := by
  refine ⟨trivial, fun r => ?_, by unfold endL; omega, (fun h' => by rw [h] at h'; cases h'), fun _ => by unfold endL; omega⟩
  rw [hasL_nil]
  by_cases hr : 0 ≤ r ∧ r ≤ 0
  · have : r = 0 := by omega
    rw [this, h, Bool.and_false]
  · rw [decide_eq_false hr, Bool.false_and]
theorem mid_first_one (h : f 0 = true) : Mid f 0 [(0, 0)] := by
  refine ⟨⟨by decide, by decide, by decide, trivial⟩, fun r => ?_, by simp [endL], fun _ => ⟨[], (0, 0), rfl, rfl⟩, fun h' => by rw [h] at h'; cases h'⟩
  rw [hasL_cons, hasL_nil, Bool.or_false]
  by_cases hr : 0 ≤ r ∧ r ≤ 0
  · have : r = 0 := by omega
    rw [this, h]
    decide
  · rw [decide_eq_false hr, Bool.false_and]
    exact decide_eq_false (by dsimp only; omega)
theorem mid_skip (h : Mid f a out) (ha : 0 ≤ a) (hn : Near f a b) (hb : f b = false) : Mid f b out := by
  obtain ⟨h1, h2, h3, h4, h5⟩ := h
  have hab : a < b := by rcases hn with rfl | ⟨h, _⟩ <;> omega
  refine ⟨h1, fun r => ?_, by omega, (fun h' => by rw [hb] at h'; cases h'), fun _ => by omega⟩
  rw [h2 r]
  by_cases hr : a < r ∧ r ≤ b
  · have : f r = false := by
      rcases hn with hn | ⟨_, hn⟩
      · rw [show r = b by omega]; exact hb
      · rw [hn r (by omega) hr.2, ← hn b (by omega) (Int.le_refl _)]; exact hb
    rw [this, Bool.and_false, Bool.and_false]
  · congr 1
    apply decide_eq_decide.2
    omega
theorem mid_join {v : List (Int × Int)} {q : Int × Int} (h : Mid f a (v ++ [q])) (ha : 0 ≤ a) (hb1 : b ≤ 1114111) (hn : Near f a b) (hfa : f a = true) (hb : f b = true) : Mid f b (v ++ [(q.1, b)]) := by
  obtain ⟨h1, h2, h3, h4, h5⟩ := h
  have hab : a < b := by rcases hn with rfl | ⟨h, _⟩ <;> omega
  obtain ⟨v', q', e, hq⟩ := h4 hfa
  obtain ⟨rfl, e2⟩ := List.append_inj' e rfl
  injection e2 with e2 _
  subst e2
  obtain ⟨c1, c2, c3, c4⟩ := (canonF_snoc q v 0).1 h1
  refine ⟨(canonF_snoc _ v 0).2 ⟨c1, c2, by dsimp only; omega, by dsimp only; omega⟩, fun r => ?_, by rw [endL_snoc]; dsimp only; omega, fun _ => ⟨v, (q.1, b), rfl, rfl⟩, fun h' => by rw [hb] at h'; cases h'⟩
  have e := h2 r
  rw [hasL_append, hasL_cons, hasL_nil, Bool.or_false] at e ⊢
  have hv : hasL v r = true → r < q.1 := fun hv => by
    rcases Int.lt_or_le r q.1 with h | h
    · exact h
    · have hge : ∀ (s : List (Int × Int)) (lo : Int), CanonF lo s → hasL s r = true → r + 2 ≤ endL lo s := by
        intro s
        induction s with
        | nil => intro lo _ h; cases h
        | cons p s ih =>
          intro lo hc hh
          obtain ⟨x1, x2, x3, x4⟩ := hc
          rw [hasL_cons, Bool.or_eq_true, decide_eq_true_eq] at hh
          have hmono : ∀ (s : List (Int × Int)) (lo : Int), CanonF lo s → lo ≤ endL lo s := by
            intro s
            induction s with
            | nil => intro lo _; exact Int.le_refl _
            | cons p s ih => intro lo ⟨y1, y2, y3, y4⟩; have := ih _ y4; show lo ≤ endL (p.2 + 2) s; omega
          show r + 2 ≤ endL (p.2 + 2) s
          rcases hh with hh | hh
          · have := hmono s _ x4; omega
          · exact ih _ x4 hh
      have := hge v 0 c1 hv
      omega
  by_cases hr : a < r ∧ r ≤ b
  · have hf : f r = true := by
      rcases hn with hn | ⟨_, hn⟩
      · rw [show r = b by omega]; exact hb
      · rw [hn r (by omega) hr.2]; exact hfa
    rw [hf, decide_eq_true (show 0 ≤ r ∧ r ≤ b by omega), decide_eq_true (by dsimp only; omega), Bool.or_true]
    rfl
  · rw [show decide (0 ≤ r ∧ r ≤ b) = decide (0 ≤ r ∧ r ≤ a) from decide_eq_decide.2 (by omega), ← e]
    congr 1
    apply decide_eq_decide.2
    dsimp only
    omega
theorem mid_push (h : Mid f a out) (ha : 0 ≤ a) (hb1 : b ≤ 1114111) (hn : Near f a b) (hfa : f a = false) (hb : f b = true) : Mid f b (out ++ [(b, b)]) := by
  obtain ⟨h1, h2, h3, h4, h5⟩ := h
  have hba : b = a + 1 := by
    rcases hn with hn | ⟨h, hn⟩
    · exact hn
    · rw [hn b (by omega) (Int.le_refl _), hfa] at hb; cases hb
  have h6 := h5 hfa
  refine ⟨(canonF_snoc _ out 0).2 ⟨h1, by dsimp only; omega, by dsimp only; omega, by dsimp only; omega⟩, fun r => ?_, by rw [endL_snoc]; dsimp only; omega, fun _ => ⟨out, (b, b), rfl, rfl⟩, fun h' => by rw [hb] at h'; cases h'⟩
  rw [hasL_append, h2 r, hasL_cons, hasL_nil, Bool.or_false]
  by_cases hr : r = b
  · rw [hr, hb, decide_eq_true (show 0 ≤ b ∧ b ≤ b by omega), Bool.and_true, Bool.and_true]
    rw [decide_eq_true (show b ≤ b ∧ b ≤ b ∧ 0 ≤ b ∧ b ≤ 1114111 by omega), Bool.or_true]
  · rw [decide_eq_false (show ¬ ((b, b).1 ≤ r ∧ r ≤ (b, b).2 ∧ 0 ≤ r ∧ r ≤ 1114111) by dsimp only; omega), Bool.or_false]
    congr 1
    apply decide_eq_decide.2
    omega
theorem mid_last (h : Mid f 1114111 out) : out = setOf f := setOf_one h.1 h.2.1
end
end Go.Proofs.Ytjpabeeokgfloaa
/- Rows of whole numbers: cut, and one appended to another that the call owns. -/
namespace Go.Proofs.Ytjpabeeokgfloaa
open Go Go.RowKit
set_option linter.unusedVariables false
set_option maxRecDepth 20000

theorem rowI_upto {k : IntKind} {w : World} {A : Option Addr} {n : Nat} {xs : List Int} (h : RowI k w A n xs) {m : Nat} (hm : m ≤ n) : RowI k w A m (xs.take m) := by
  refine ⟨by rw [List.length_take, h.1]; omega, fun h0 => ?_⟩
  obtain ⟨b, o, hA, hlt, hc⟩ := h.2 (by omega)
  refine ⟨b, o, hA, hlt, fun j hj => ?_⟩
  rw [hc j (by omega)]
  simp [List.getD, hj]
theorem rowI_from {k : IntKind} {w : World} {A : Option Addr} {n : Nat} {xs : List Int} (h : RowI k w A n xs) {m : Nat} (hm : m ≤ n) : RowI k w (Option.map (fun x => x.add m) A) (n - m) (xs.drop m) := by
  refine ⟨by rw [List.length_drop, h.1], fun h0 => ?_⟩
  obtain ⟨b, o, rfl, hlt, hc⟩ := h.2 (by omega)
  refine ⟨b, o + m, by simp [Addr.add], hlt, fun j hj => ?_⟩
  rw [show o + m + j = o + (m + j) by omega, hc (m + j) (by omega)]
  simp [List.getD]
theorem rowI_keep {k : IntKind} {w w' : World} {A : Option Addr} {n : Nat} {xs : List Int} (h : RowI k w A n xs) (hk : ∀ b o, A = some ⟨b, o, none⟩ → b < w.heap.size → w'.heap[b]? = w.heap[b]?) : RowI k w' A n xs := by
  refine ⟨h.1, fun h0 => ?_⟩
  obtain ⟨b, o, hA, hlt, hc⟩ := h.2 h0
  have hh := hk b o hA hlt
  have hlt' : b < w'.heap.size := (Array.getElem?_eq_some_iff.1 (hh.trans (Array.getElem?_eq_getElem hlt))).1
  refine ⟨b, o, hA, hlt', fun j hj => ?_⟩
  rw [← hc j hj]
  simp only [World.cell?, hh]
/-- append of a row of whole numbers to one that the call owns, and what stays. -/
theorem appI_at {W w : World} {P : Option Addr} {q pc : Nat} {xs : List Int} (hown : w.ownsRow W.heap.size 3 1 (.slice P q pc) q (xs.map (.int .i64))) {A : Option Addr} {m c : Nat} {ys : List Int} (hr : RowI .i64 w A m ys) (hA : A = none → m = 0 ∧ c = 0) (hq : q ≤ 100000) (hm : m ≤ 100000) (hb : Below W.heap.size W w) :
    ∃ P' pc' w', (Builtin.append_ #[38, 38] 38 #[.slice P q pc, .slice A m c]).run Try.prog w = .ok (.slice P' (q + m) pc') w' ∧
      w'.ownsRow W.heap.size 3 1 (.slice P' (q + m) pc') (q + m) ((xs ++ ys).map (.int .i64)) ∧ Below W.heap.size W w' ∧
      ∀ g, g < w.heap.size → (Value.slice P q pc).ownBlock ≠ some g → (Value.slice P' (q + m) pc').ownBlock ≠ some g ∧ w'.heap[g]? = w.heap[g]? := by
  obtain ⟨i0, hi, hz0, hz1, hz2⟩ := info_parts info_intG
  rw [List.map_append]
  rcases A with _ | ad
  · obtain ⟨rfl, rfl⟩ := hA rfl
    have hy : ys = [] := List.eq_nil_of_length_eq_zero hr.1
    subst hy
    rw [List.map_nil, List.append_nil]
    exact ⟨P, pc, w, run_append_owned_none (P := Try.prog) w W.heap.size 38 38 3 i0 1 Try.underlying38 hi _ q _ hown, hown, hb, fun g _ hne => ⟨hne, rfl⟩⟩
  · have hcells : ∀ j u, (ys.map (Value.int .i64))[j]? = some u → w.cell? (ad.add j) = some u := by
      intro j u hu
      rw [List.getElem?_map] at hu
      obtain ⟨y, hy, rfl⟩ := Option.map_eq_some_iff.1 hu
      have hj : j < m := by have := (List.getElem?_eq_some_iff.1 hy).1; rw [hr.1] at this; exact this
      obtain ⟨b, o, hA, _, hc⟩ := hr.2 (by omega)
      injection hA with hA
      subst hA
      rw [show (⟨b, o, none⟩ : Addr).add j = ⟨b, o + j, none⟩ by unfold Addr.add; split <;> simp_all, hc j hj]
      simp [List.getD, hy]
    obtain ⟨V', w', h1, h2, h3, _, h4⟩ := run_append_own_at (P := Try.prog) w W.heap.size 38 38 3 i0 (.int .i64 0) 1 8 Try.underlying38 hi hz0 hz1 hz2 rfl (by decide) _ q _ hown ad m c (ys.map (.int .i64)) (by rw [List.length_map, hr.1, Nat.mul_one]) hcells
      (by intro u hu; obtain ⟨y, _, rfl⟩ := List.mem_map.1 hu; rfl) (by unfold maxLen; omega) (by omega) hb.size
    have hb' : Below W.heap.size W w' := hb.grown h3 hb.size (by intro k hk; exact (row_lt hown hk).1)
    have key : ∀ g, g < w.heap.size → (Value.slice P q pc).ownBlock ≠ some g → V'.ownBlock ≠ some g ∧ w'.heap[g]? = w.heap[g]? := by
      intro g hg hne
      refine ⟨fun e => ?_, h3.block g hg fun e => hne e.symm⟩
      rcases h4 with h4 | h4
      · exact hne (h4 ▸ e)
      · rw [h4] at e
        injection e with e
        omega
    rcases h2.2 with ⟨rfl, h0⟩ | ⟨g, cap, cur, rfl, _⟩
    · rw [h0] at h2 ⊢
      exact ⟨none, 0, w', h1, h2, hb', key⟩
    · exact ⟨_, _, w', h1, h2, hb', key⟩
theorem ownI_nil (w : World) (B : Nat) : w.ownsRow B 3 1 (.slice none 0 0) 0 (([] : List Int).map (.int .i64)) := World.ownsRow_nil _ _ _ _
theorem ownI_row {w : World} {B : Nat} {P : Option Addr} {q pc : Nat} {xs : List Int} (h : w.ownsRow B 3 1 (.slice P q pc) q (xs.map (.int .i64))) : RowI .i64 w P q xs ∧ q ≤ pc ∧ pc ≤ maxLen ∧ (P = none → q = 0 ∧ pc = 0) ∧ ∀ b o, P = some ⟨b, o, none⟩ → (Value.slice P q pc).ownBlock = some b := by
  obtain ⟨A, c, e, h1, h2, h3⟩ := row_of_own h
  injection e with e1 e2 e3
  subst e1; subst e3
  refine ⟨h1, h2, h3, fun hP => ?_, fun b o hP => ?_⟩
  · subst hP
    rcases h.2 with ⟨e, h0⟩ | ⟨g, cap, cur, e, _⟩
    · injection e with _ _ e3
      exact ⟨h0, e3⟩
    · injection e with e1 _ _
      cases e1
  · subst hP
    rcases h.2 with ⟨e, h0⟩ | ⟨g, cap, cur, e, _⟩
    · injection e with e1 _ _
      cases e1
    · injection e with e1 _ _
      injection e1 with e1
      injection e1 with e1 _ _
      subst e1
      rfl
theorem ownI_kept {w w' : World} {B : Nat} {v : Value} {n : Nat} {xs : List Value} (h : w.ownsRow B 3 1 v n xs) (hb : Below w.heap.size w w') : w'.ownsRow B 3 1 v n xs := own_kept h hb
end Go.Proofs.Ytjpabeeokgfloaa
/- Rows of ranges that the call owns: append of ranges, a store into the last one. -/
namespace Go.Proofs.Ytjpabeeokgfloaa
open Go Go.RowKit
set_option linter.unusedVariables false
set_option maxRecDepth 20000

/-- append of ranges to a row of the call's own. -/
theorem app_inG' {W w : World} {P : Option Addr} {q pc : Nat} {xs : List (Int × Int)} (h : w.ownsRow W.heap.size 58 2 (.slice P q pc) q (cellsG xs)) {A : Option Addr} {n c : Nat} {s : List (Int × Int)} (hr : RowG w A n s) (hA : A = none → n = 0 ∧ c = 0) (hq : q ≤ 3000000) (hn : n ≤ 3000000) (hb : Below W.heap.size W w) :
    ∃ P' pc' w', (Builtin.append_ #[25, 25] 25 #[.slice P q pc, .slice A n c]).run Try.prog w = .ok (.slice P' (q + n) pc') w' ∧ w'.ownsRow W.heap.size 58 2 (.slice P' (q + n) pc') (q + n) (cellsG (xs ++ s)) ∧ Below W.heap.size W w' ∧ ∀ g, g < w.heap.size → (Value.slice P q pc).ownBlock ≠ some g → w'.heap[g]? = w.heap[g]? := by
  obtain ⟨i0, hi, hz0, hz1, hz2⟩ := info_parts info_rng
  have hl := hr.1
  rw [cellsG_append]
  rcases A with _ | ad
  · obtain ⟨rfl, rfl⟩ := hA rfl
    have hs : s = [] := List.eq_nil_of_length_eq_zero hl
    subst hs
    rw [show cellsG [] = [] from rfl, List.append_nil]
    exact ⟨P, pc, w, run_append_owned_none (P := Try.prog) w W.heap.size 25 25 58 i0 2 Try.underlying25 hi _ q _ h, h, hb, fun _ _ _ => rfl⟩
  · have hcells : ∀ j u, (cellsG s)[j]? = some u → w.cell? (ad.add j) = some u := by
      intro j u hu
      have hj : j < n * 2 := by
        have := cellsG_length s
        rcases Nat.lt_or_ge j (cellsG s).length with h1 | h1
        · omega
        · rw [List.getElem?_eq_none h1] at hu; cases hu
      obtain ⟨b, o, hA, _, hc⟩ := hr.2 (by omega)
      injection hA with hA
      subst hA
      have hadd : (⟨b, o, none⟩ : Addr).add j = ⟨b, o + j, none⟩ := by unfold Addr.add; split <;> simp_all
      obtain ⟨e0, e1⟩ := cellsG_at s (j / 2) (by omega)
      obtain ⟨c0, c1⟩ := hc (j / 2) (by omega)
      rw [hadd]
      rcases Nat.mod_two_eq_zero_or_one j with hm | hm
      · have e : j = j / 2 * 2 := by omega
        rw [e] at hu ⊢
        rw [e0] at hu
        rw [c0, hu]
      · have e : j = j / 2 * 2 + 1 := by omega
        rw [e] at hu ⊢
        rw [e1] at hu
        rw [← Nat.add_assoc, c1, hu]
    obtain ⟨V', w', h1, h2, h3, _⟩ := run_append_own (P := Try.prog) w W.heap.size 25 25 58 i0 _ 2 16 Try.underlying25 hi hz0 hz1 hz2 rfl (by decide) _ q _ h ad n c (cellsG s) (by rw [cellsG_length, hl]) hcells
      (by intro u hu; obtain ⟨p, _, hp⟩ := List.mem_flatMap.1 hu; simp at hp; rcases hp with rfl | rfl <;> rfl) (by unfold maxLen; omega) (by omega) hb.size
    have hb' : Below W.heap.size W w' := hb.grown h3 hb.size (by intro k hk; exact (row_lt h hk).1)
    have hk' : ∀ g, g < w.heap.size → (Value.slice P q pc).ownBlock ≠ some g → w'.heap[g]? = w.heap[g]? := fun g hg hne => h3.block g hg fun e => hne e.symm
    rcases h2.2 with ⟨rfl, h0⟩ | ⟨b, cap, cu, rfl, _⟩
    · rw [h0] at h2 ⊢
      exact ⟨none, 0, w', h1, h2, hb', hk'⟩
    · exact ⟨_, _, w', h1, h2, hb', hk'⟩
/-- .. without what stays. -/
theorem app_inG {W w : World} {P : Option Addr} {q pc : Nat} {xs : List (Int × Int)} (h : w.ownsRow W.heap.size 58 2 (.slice P q pc) q (cellsG xs)) {A : Option Addr} {n c : Nat} {s : List (Int × Int)} (hr : RowG w A n s) (hA : A = none → n = 0 ∧ c = 0) (hq : q ≤ 3000000) (hn : n ≤ 3000000) (hb : Below W.heap.size W w) :
    ∃ P' pc' w', (Builtin.append_ #[25, 25] 25 #[.slice P q pc, .slice A n c]).run Try.prog w = .ok (.slice P' (q + n) pc') w' ∧ w'.ownsRow W.heap.size 58 2 (.slice P' (q + n) pc') (q + n) (cellsG (xs ++ s)) ∧ Below W.heap.size W w' := by
  obtain ⟨P', pc', w', h1, h2, h3, _⟩ := app_inG' h hr hA hq hn hb
  exact ⟨P', pc', w', h1, h2, h3⟩
/-- Ranges that lie in a block just made. -/
theorem rowG_made (w : World) (s : List (Int × Int)) : RowG (w.alloc (.cells (cellsG s).toArray 58)) (some ⟨w.heap.size, 0, none⟩) s.length s := by
  refine ⟨rfl, fun hn => ⟨w.heap.size, 0, rfl, by simp, fun j hj => ?_⟩⟩
  obtain ⟨e1, e2⟩ := cellsG_at s j hj
  refine ⟨?_, ?_⟩
  · rw [cell_of_row _ w.heap.size (0 + j * 2) _ 58 (0, 0) (heap_alloc_new w _), ← e1, Nat.zero_add]; simp
  · rw [cell_of_row _ w.heap.size (0 + j * 2 + 1) _ 58 (0, 0) (heap_alloc_new w _), ← e2, Nat.zero_add]; simp
theorem ownG_alloc {w : World} {B : Nat} {v : Value} {n : Nat} {xs : List Value} (h : w.ownsRow B 58 2 v n xs) (o : Obj) : (w.alloc o).ownsRow B 58 2 v n xs :=
  row_keep h fun k hk _ => Below.heap_alloc w o k hk
theorem ownG_kept {w w' : World} {B : Nat} {v : Value} {n : Nat} {xs : List Value} (h : w.ownsRow B 58 2 v n xs) (hb : Below w.heap.size w w') : w'.ownsRow B 58 2 v n xs :=
  row_keep h fun k hk _ => hb.block k hk
/-- append of ranges that are listed. -/
theorem push_rngs {W w : World} {P : Option Addr} {q pc : Nat} {xs : List (Int × Int)} (h : w.ownsRow W.heap.size 58 2 (.slice P q pc) q (cellsG xs)) (s : List (Int × Int)) (hq : q ≤ 3000000) (hn : s.length ≤ 3000000) (hb : Below W.heap.size W w) :
    ∃ P' pc' w', (Builtin.append_ #[25, 25] 25 #[.slice P q pc, .slice (some ⟨w.heap.size, 0, none⟩) s.length s.length]).run Try.prog (w.alloc (.cells (cellsG s).toArray 58)) = .ok (.slice P' (q + s.length) pc') w' ∧ w'.ownsRow W.heap.size 58 2 (.slice P' (q + s.length) pc') (q + s.length) (cellsG (xs ++ s)) ∧ Below W.heap.size W w' :=
  app_inG (ownG_alloc h _) (rowG_made w s) (fun e => by cases e) hq hn (hb.alloc hb.size _)
/-- .. and what stays. -/
theorem push_keep {W w : World} {P : Option Addr} {q pc : Nat} {xs : List (Int × Int)} (h : w.ownsRow W.heap.size 58 2 (.slice P q pc) q (cellsG xs)) (s : List (Int × Int)) (hq : q ≤ 3000000) (hn : s.length ≤ 3000000) (hb : Below W.heap.size W w) :
    ∃ P' pc' w', (Builtin.append_ #[25, 25] 25 #[.slice P q pc, .slice (some ⟨w.heap.size, 0, none⟩) s.length s.length]).run Try.prog (w.alloc (.cells (cellsG s).toArray 58)) = .ok (.slice P' (q + s.length) pc') w' ∧ w'.ownsRow W.heap.size 58 2 (.slice P' (q + s.length) pc') (q + s.length) (cellsG (xs ++ s)) ∧ Below W.heap.size W w' ∧ ∀ g, g < w.heap.size → (Value.slice P q pc).ownBlock ≠ some g → w'.heap[g]? = w.heap[g]? := by
  obtain ⟨P', pc', w', h1, h2, h3, h4⟩ := app_inG' (ownG_alloc h (.cells (cellsG s).toArray 58)) (rowG_made w s) (fun e => by cases e) hq hn (hb.alloc hb.size _)
  exact ⟨P', pc', w', h1, h2, h3, fun g hg hne => (h4 g (by simp; omega) hne).trans (Below.heap_alloc w _ g hg)⟩
theorem nilG (w : World) (B : Nat) : w.ownsRow B 58 2 (.slice none 0 0) 0 (cellsG []) := World.ownsRow_nil _ _ _ _

/-- The last one's end is set. -/
theorem cellsG_last (v : List (Int × Int)) (q : Int × Int) (y : Int) : (cellsG (v ++ [q])).set (v.length * 2 + 1) (.int .i64 y) = cellsG (v ++ [(q.1, y)]) := by
  rw [cellsG_append, cellsG_append, List.set_append_right _ _ (by rw [cellsG_length]; omega), cellsG_length, show v.length * 2 + 1 - v.length * 2 = 1 by omega]
  rfl
theorem last_own {W w : World} {P : Option Addr} {n pc : Nat} {v : List (Int × Int)} {q : Int × Int} (h : w.ownsRow W.heap.size 58 2 (.slice P n pc) n (cellsG (v ++ [q]))) (hb : Below W.heap.size W w) :
    ∃ g, P = some ⟨g, 0, none⟩ ∧ n = v.length + 1 ∧ W.heap.size ≤ g ∧ g < w.heap.size ∧ n ≤ pc ∧ pc ≤ maxLen ∧ w.cell? ⟨g, v.length * 2, none⟩ = some (.int .i64 q.1) ∧ w.cell? ⟨g, v.length * 2 + 1, none⟩ = some (.int .i64 q.2) ∧ w.frozen? ⟨g, v.length * 2 + 1, none⟩ = false ∧
      ∀ y, (w.setCell ⟨g, v.length * 2 + 1, none⟩ (.int .i64 y)).ownsRow W.heap.size 58 2 (.slice P n pc) n (cellsG (v ++ [(q.1, y)])) ∧ Below W.heap.size W (w.setCell ⟨g, v.length * 2 + 1, none⟩ (.int .i64 y)) := by
  have hl := h.1
  rw [cellsG_length, List.length_append] at hl
  simp only [List.length_cons, List.length_nil] at hl
  rcases h.2 with ⟨e, h0⟩ | ⟨g, cap, cur, e, hB, hg, hnc, hcm, hcs, ht⟩
  · omega
  · injection e with e1 _ e3
    subst e1; subst e3
    obtain ⟨x1, x2⟩ := cellsG_at (v ++ [q]) v.length (by simp)
    have hd : (v ++ [q]).getD v.length (0, 0) = q := by simp [List.getD]
    rw [hd] at x1 x2
    have hc : ∀ j, j < n * 2 → w.cell? ⟨g, j, none⟩ = (cellsG (v ++ [q]))[j]? := fun j hj => by
      rw [cell_of_row w g j cur 58 (0, 0) hg, ← ht, List.getElem?_take_of_lt hj, Array.getElem?_toList]
    refine ⟨g, rfl, by omega, hB, (Array.getElem?_eq_some_iff.1 hg).1, hnc, hcm, by rw [hc _ (by omega), x1], by rw [hc _ (by omega), x2], by simp [World.frozen?, hg], fun y => ?_⟩
    obtain ⟨s1, s2⟩ := h.stored (v.length * 2 + 1) (.int .i64 y)
    rw [cellsG_last] at s1
    exact ⟨s1, hb.grown s2 hb.size (by intro k hk; injection hk with hk; omega)⟩
end Go.Proofs.Ytjpabeeokgfloaa
