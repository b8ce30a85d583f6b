/- Texts. -/
import Derived.Test.YtaapbmdojkjphaaGreatZ02
import Derived.Test.YtaapbmdojkjphaaGreatZ03
import Derived.BigQuiet
import Derived.BigRegion
import Derived.Deep.RegionHeldLaw
namespace Go.Proofs.YtaapbmdojkjphaaGreat
open Go Go.RowKit
set_option linter.unusedVariables false
def setGo (f : Int → Bool) : Nat → List (Int × Int)
  | 0 => []
  | k + 1 =>
    if f (1114112 - ((k + 1 : Nat) : Int)) = true then
      match setGo f k with
      | [] => [(1114112 - ((k + 1 : Nat) : Int), 1114112 - ((k + 1 : Nat) : Int))]
      | p :: s => if p.1 = 1114112 - ((k + 1 : Nat) : Int) + 1 then (1114112 - ((k + 1 : Nat) : Int), p.2) :: s else (1114112 - ((k + 1 : Nat) : Int), 1114112 - ((k + 1 : Nat) : Int)) :: p :: s
    else setGo f k
theorem setGo_is (f : Int → Bool) : ∀ k : Nat, k ≤ 1114112 → CanonF (1114112 - (k : Int)) (setGo f k) ∧ ∀ r, hasL (setGo f k) r = (decide (1114112 - (k : Int) ≤ r ∧ r ≤ 1114111) && f r)
  | 0, _ => ⟨trivial, fun r => by rw [setGo, hasL_nil, decide_eq_false (by omega), Bool.false_and]⟩
  | k + 1, hk => by
    obtain ⟨h1, h2⟩ := setGo_is f k (by omega)
    rw [setGo]
    obtain ⟨L, hL⟩ : ∃ L : Int, L = 1114112 - ((k + 1 : Nat) : Int) := ⟨_, rfl⟩
    have e : (1114112 : Int) - (k : Int) = L + 1 := by omega
    rw [← hL]
    rw [e] at h1 h2
    have hL0 : 0 ≤ L ∧ L ≤ 1114111 := by omega
    obtain ⟨t, ht⟩ : ∃ t, t = setGo f k := ⟨_, rfl⟩
    rw [← ht] at h1 h2 ⊢
    clear ht
    by_cases hf : f L = true
    · rw [if_pos hf]
      have done : ∀ u, CanonF L u → (∀ r, hasL u r = (decide (r = L) || hasL t r)) → CanonF L u ∧ ∀ r, hasL u r = (decide (L ≤ r ∧ r ≤ 1114111) && f r) := by
        intro u hu hm
        refine ⟨hu, fun r => ?_⟩
        rw [hm r, h2 r]
        by_cases hr : r = L
        · subst hr
          rw [hf, decide_eq_true rfl, Bool.true_or, decide_eq_true (by omega), Bool.true_and]
        · rw [decide_eq_false hr, Bool.false_or]
          congr 1
          apply decide_eq_decide.2
          omega
      rcases t with _ | ⟨p, s⟩
      · refine done [(L, L)] ⟨Int.le_refl _, Int.le_refl _, hL0.2, trivial⟩ fun r => ?_
        rw [hasL_cons, hasL_nil, Bool.or_false, Bool.or_false]
        apply decide_eq_decide.2
        dsimp only
        omega
      · obtain ⟨q1, q2, q3, q4⟩ := h1
        by_cases hp : p.1 = L + 1
        · show CanonF L (if p.1 = L + 1 then _ else _) ∧ _
          dsimp only
          rw [if_pos hp]
          refine done ((L, p.2) :: s) ⟨Int.le_refl _, by dsimp only; omega, q3, q4⟩ fun r => ?_
          rw [hasL_cons, hasL_cons, ← Bool.or_assoc, ← Bool.decide_or]
          congr 1
          apply decide_eq_decide.2
          dsimp only
          omega
        · dsimp only
          rw [if_neg hp]
          refine done ((L, L) :: p :: s) ⟨Int.le_refl _, Int.le_refl _, hL0.2, by dsimp only; omega, q2, q3, q4⟩ fun r => ?_
          rw [hasL_cons]
          congr 1
          apply decide_eq_decide.2
          dsimp only
          omega
    · rw [if_neg hf]
      refine ⟨h1.mono (by omega), fun r => ?_⟩
      rw [h2 r]
      by_cases hr : r = L
      · subst hr
        rw [Bool.eq_false_iff.2 hf, Bool.and_false, Bool.and_false]
      · congr 1
        apply decide_eq_decide.2
        omega
def setOf (f : Int → Bool) : List (Int × Int) := setGo f 1114112
theorem setOf_canon (f : Int → Bool) : Canon (setOf f) := (setGo_is f 1114112 (Nat.le_refl _)).1
theorem setOf_has (f : Int → Bool) (r : Int) : hasL (setOf f) r = (decide (0 ≤ r ∧ r ≤ 1114111) && f r) := (setGo_is f 1114112 (Nat.le_refl _)).2 r
attribute [irreducible] setOf
theorem setOf_one {f : Int → Bool} {s : List (Int × Int)} (hc : Canon s) (h : ∀ r, hasL s r = (decide (0 ≤ r ∧ r ≤ 1114111) && f r)) : s = setOf f :=
  canon_one hc (setOf_canon f) fun r => (h r).trans (setOf_has f r).symm
structure TokL where
  kind : Int
  r : Int
  set : List (Int × Int)
  mn : Int
  mx : Int
def tokC (s : List (Int × Int)) : TokL := ⟨0, 0, s, 0, 0⟩
def tokS (r : Int) : TokL := ⟨1, r, [], 0, 0⟩
def tokN (a b : Int) : TokL := ⟨2, 0, [], a, b⟩
def namedS (r : Int) : List (Int × Int) := if r = 100 then [(48, 57)] else if r = 119 then [(48, 57), (65, 90), (95, 95), (97, 122)] else if r = 115 then [(9, 13), (32, 32)] else []
def signL : List Int := [46, 94, 36, 124, 40, 41, 91, 93, 123, 125, 42, 43, 63, 92, 45]
def escL (r : Int) : Option (List (Int × Int) × Bool) :=
  if r = 100 ∨ r = 119 ∨ r = 115 then some (namedS r, false)
  else if r = 68 ∨ r = 87 ∨ r = 83 then some (setOf fun x => !hasL (namedS (r + 32)) x, false)
  else if r = 110 then some ([(10, 10)], true)
  else if r = 114 then some ([(13, 13)], true)
  else if r = 116 then some ([(9, 9)], true)
  else if r ∈ signL then some ([(r, r)], true)
  else none
def ptL : List Int → Option (List (Int × Int) × Bool × List Int)
  | [] => none
  | r :: l =>
    if r = 91 ∨ r = 93 ∨ r = 94 ∨ r = 45 then none
    else if r = 92 then
      match l with
      | [] => none
      | e :: l' => (escL e).map fun p => (p.1, p.2, l')
    else some ([(r, r)], true, l)
def partL (l : List Int) : Option (List (Int × Int) × List Int) :=
  match ptL l with
  | none => none
  | some (s, is, l1) =>
    match l1 with
    | 45 :: l2 =>
      if is = true then
        match ptL l2 with
        | some (t, true, l3) => if (t.headD (0, 0)).1 < (s.headD (0, 0)).1 then none else some ([((s.headD (0, 0)).1, (t.headD (0, 0)).1)], l3)
        | _ => none
      else some (s, l1)
    | _ => some (s, l1)
def partsL : Nat → List Int → List (Int × Int) → Bool → Option (List (Int × Int) × List Int)
  | 0, _, _, _ => none
  | f + 1, l, all, more =>
    match more, l with
    | true, 93 :: l' => some (all, l')
    | _, _ =>
      match partL l with
      | none => none
      | some (s, l1) => partsL f l1 (all ++ s) true
def classL (l : List Int) : Option (List (Int × Int) × List Int) :=
  match l with
  | 94 :: l' => (partsL (l'.length + 1) l' [] false).map fun p => (setOf fun x => !hasL p.1 x, p.2)
  | _ => (partsL (l.length + 1) l [] false).map fun p => (setOf fun x => hasL p.1 x, p.2)
def isDig (r : Int) : Bool := decide (48 ≤ r) && decide (r ≤ 57)
def numL (l : List Int) : Option (Int × List Int) :=
  match l with
  | a :: b :: l' =>
    if isDig a = true then
      if isDig b = true then
        if 10 * (a - 48) + (b - 48) > 50 then none else some (10 * (a - 48) + (b - 48), l')
      else some (a - 48, b :: l')
    else none
  | [a] => if isDig a = true then some (a - 48, []) else none
  | [] => none
def braceL (l : List Int) : Option (TokL × List Int) :=
  match numL l with
  | some (a, 125 :: l') => some (tokN a a, l')
  | some (a, 44 :: 125 :: l') => some (tokN a (-1), l')
  | some (a, 44 :: l') =>
    match numL l' with
    | some (b, 125 :: l'') => if b < a then none else some (tokN a b, l'')
    | _ => none
  | _ => none
def tokL : List Int → Option (TokL × List Int)
  | [] => none
  | r :: l =>
    if r = 124 ∨ r = 40 ∨ r = 41 ∨ r = 94 ∨ r = 36 then some (tokS r, l)
    else if r = 42 then some (tokN 0 (-1), l)
    else if r = 43 then some (tokN 1 (-1), l)
    else if r = 63 then some (tokN 0 1, l)
    else if r = 123 then braceL l
    else if r = 46 then some (tokC [(0, 9), (11, 1114111)], l)
    else if r = 91 then (classL l).map fun p => (tokC p.1, p.2)
    else if r = 92 then
      match l with
      | [] => none
      | e :: l' => (escL e).map fun p => (tokC p.1, l')
    else if r = 93 ∨ r = 125 then none
    else some (tokC [(r, r)], l)
def toksL : Nat → List Int → Option (List TokL)
  | _, [] => some []
  | 0, _ :: _ => none
  | f + 1, r :: l =>
    match tokL (r :: l) with
    | none => none
    | some (t, l') => (toksL f l').map fun ts => t :: ts
def leaf (op : Int) (s : List (Int × Int)) : Wood := .cons op s 0 0 .nil .nil
def zeroN : Wood := leaf 0 []
def oneN (op : Int) (l : Wood) : Wood :=
  match l with
  | .nil => zeroN
  | .cons o s a z k .nil => .cons o s a z k .nil
  | .cons o s a z k x => .cons op [] 0 0 (.cons o s a z k x) .nil
def repLast (mn mx : Int) : Wood → Wood
  | .nil => .nil
  | .cons o s a z k .nil => .cons 6 [] mn mx (.cons o s a z k .nil) .nil
  | .cons o s a z k x => .cons o s a z k (repLast mn mx x)
def finN (alts pieces : Wood) : Wood := oneN 5 (alts.app (oneN 4 pieces))
def runT (D : Nat) : List TokL → List (Wood × Wood) → Wood → Wood → Bool → Option Wood
  | [], [], a, p, _ => some (finN a p)
  | [], _ :: _, _, _, _ => none
  | t :: l, st, a, p, loose =>
    if t.kind = 0 then runT D l st a (p.app (leaf 1 t.set)) true
    else if t.kind = 2 then (if loose = true then runT D l st a (repLast t.mn t.mx p) false else none)
    else if t.r = 124 then runT D l st (a.app (oneN 4 p)) .nil false
    else if t.r = 94 then runT D l st a (p.app (leaf 2 [])) false
    else if t.r = 36 then runT D l st a (p.app (leaf 3 [])) false
    else if t.r = 41 then
      match st with
      | [] => none
      | (a', p') :: st' => runT D l st' a' (p'.app (finN a p)) true
    else if D + st.length < 10 then runT D l ((a, p) :: st) .nil .nil false
    else none
def treeL (l : List Int) : Option Wood := (toksL l.length l).bind fun ts => runT 0 ts [] .nil .nil false
end Go.Proofs.YtaapbmdojkjphaaGreat
namespace Go.Proofs.YtaapbmdojkjphaaGreat
open Go Go.RowKit
set_option linter.unusedVariables false
def insI : List Int → Int → List Int
  | [], e => [e]
  | x :: xs, e => if x < e then x :: insI xs e else if x = e then x :: xs else e :: x :: xs
def Asc (l : List Int) : Prop := l.Pairwise (· < ·)
theorem insI_mem (e r : Int) : ∀ l : List Int, r ∈ insI l e ↔ r ∈ l ∨ r = e
  | [] => by simp [insI]
  | x :: xs => by
    rw [insI]
    split
    · rw [List.mem_cons, insI_mem e r xs, List.mem_cons, or_assoc]
    · split
      · rename_i h; subst h
        constructor
        · exact .inl
        · rintro (h | rfl)
          · exact h
          · exact List.mem_cons_self
      · rw [List.mem_cons, Or.comm]
theorem insI_asc (e : Int) : ∀ l : List Int, Asc l → Asc (insI l e)
  | [], _ => by unfold Asc insI; simp
  | x :: xs, h => by
    unfold Asc at h ⊢
    rw [List.pairwise_cons] at h
    rw [insI]
    split
    · rw [List.pairwise_cons]
      refine ⟨fun r hr => ?_, insI_asc e xs h.2⟩
      rcases (insI_mem e r xs).1 hr with hr | rfl
      · exact h.1 r hr
      · assumption
    · split
      · rw [List.pairwise_cons]; exact h
      · rw [List.pairwise_cons, List.pairwise_cons]
        refine ⟨fun r hr => ?_, h⟩
        rcases List.mem_cons.1 hr with rfl | hr
        · omega
        · have := h.1 r hr; omega
def sortE (es : List Int) : List Int := es.foldl insI []
theorem foldl_ins (es : List Int) : ∀ l : List Int, Asc l → Asc (es.foldl insI l) ∧ ∀ r, r ∈ es.foldl insI l ↔ r ∈ l ∨ r ∈ es := by
  induction es with
  | nil => intro l h; exact ⟨h, fun r => by simp⟩
  | cons e es ih =>
    intro l h
    obtain ⟨h1, h2⟩ := ih (insI l e) (insI_asc e l h)
    refine ⟨h1, fun r => ?_⟩
    rw [List.foldl_cons, h2 r, insI_mem, List.mem_cons, or_assoc]
theorem sortE_asc (es : List Int) : Asc (sortE es) := (foldl_ins es [] List.Pairwise.nil).1
theorem sortE_mem (es : List Int) (r : Int) : r ∈ sortE es ↔ r ∈ es := by
  rw [sortE, (foldl_ins es [] List.Pairwise.nil).2 r]; simp
theorem sortE_snoc (es : List Int) (e : Int) : sortE (es ++ [e]) = insI (sortE es) e := by simp [sortE]
theorem insI_at (e : Int) : ∀ (l : List Int) (k : Nat), k ≤ l.length → (∀ j (h : j < l.length), j < k → l[j] < e) → (∀ h : k < l.length, ¬ l[k] < e) → insI l e = if ∃ h : k < l.length, l[k] = e then l else l.take k ++ e :: l.drop k
  | [], k, hk, _, _ => by
    have : k = 0 := by simpa using hk
    subst this
    rw [if_neg (by rintro ⟨h, _⟩; simp at h)]
    rfl
  | x :: xs, 0, _, _, h2 => by
    have hx := h2 (by simp)
    rw [List.getElem_cons_zero] at hx
    rw [insI, if_neg hx]
    by_cases he : x = e
    · rw [if_pos he, if_pos ⟨by simp, by simpa using he⟩]
    · rw [if_neg he, if_neg (by rintro ⟨_, h⟩; exact he (by simpa using h))]
      rfl
  | x :: xs, k + 1, hk, h1, h2 => by
    have hx := h1 0 (by simp) (by omega)
    rw [List.getElem_cons_zero] at hx
    have ih := insI_at e xs k (by simpa using hk) (fun j h hj => by have := h1 (j + 1) (by simpa using h) (by omega); simpa using this) (fun h => by have := h2 (by simpa using h); simpa using this)
    rw [insI, if_pos hx, ih]
    by_cases hc : ∃ h : k < xs.length, xs[k] = e
    · rw [if_pos hc, if_pos (by obtain ⟨h, e1⟩ := hc; exact ⟨by simpa using h, by simpa using e1⟩)]
    · rw [if_neg hc, if_neg (by rintro ⟨h, e1⟩; exact hc ⟨by simpa using h, by simpa using e1⟩)]
      rfl
theorem nearT_mem (z r : Int) (h0 : 0 ≤ z) (h1 : z ≤ 1114111) : r ∈ nearT z 3 ↔ (r = z - 1 ∨ r = z ∨ r = z + 1) ∧ 0 ≤ r ∧ r ≤ 1114111 := by
  have hc : clampI z = z := by unfold clampI; rw [if_neg (by omega), if_neg (by omega)]
  have hm : ∀ (l : List Int) (P : Prop) [Decidable P] (v : Int), r ∈ l ++ (if P then [v] else []) ↔ r ∈ l ∨ (P ∧ r = v) := by
    intro l P _ v
    rw [List.mem_append]
    by_cases h : P
    · rw [if_pos h]; simp [h]
    · rw [if_neg h]; simp [h]
  rw [nearT, hm, nearT, hm, nearT, hm, nearT, hc]
  simp only [List.not_mem_nil, false_or]
  omega
theorem endsL_mem {s : List (Int × Int)} {p : Int × Int} (hp : p ∈ s) (hw : 0 ≤ p.1 ∧ p.1 ≤ p.2 ∧ p.2 ≤ 1114111) {r : Int} (hr : (r = p.1 - 1 ∨ r = p.1 ∨ r = p.2 ∨ r = p.2 + 1) ∧ 0 ≤ r ∧ r ≤ 1114111) : r ∈ endsL s := by
  unfold endsL
  rw [List.mem_append, List.mem_flatMap]
  refine .inr ⟨p, hp, ?_⟩
  show r ∈ nearT p.1 3 ++ nearT p.2 3
  rw [List.mem_append, nearT_mem _ _ hw.1 (by omega), nearT_mem _ _ (by omega) hw.2.2]
  omega
theorem endsL_in {s : List (Int × Int)} {r : Int} (h : r ∈ endsL s) : 0 ≤ r ∧ r ≤ 1114111 := by
  have hn : ∀ (z : Int) (j : Nat), r ∈ nearT z j → 0 ≤ r ∧ r ≤ 1114111 := by
    intro z j
    induction j with
    | zero => intro h; cases h
    | succ j ih =>
      intro h
      rw [nearT, List.mem_append] at h
      rcases h with h | h
      · exact ih h
      · split at h
        · rw [List.mem_singleton] at h; omega
        · cases h
  unfold endsL at h
  rw [List.mem_append, List.mem_flatMap] at h
  rcases h with h | ⟨p, _, h⟩
  · simp at h; omega
  · have h : r ∈ nearT p.1 3 ++ nearT p.2 3 := h
    rw [List.mem_append] at h
    rcases h with h | h
    · exact hn _ _ h
    · exact hn _ _ h
theorem alike {s : List (Int × Int)} (hw : ∀ p ∈ s, 0 ≤ p.1 ∧ p.1 ≤ p.2 ∧ p.2 ≤ 1114111) {a b : Int} (ha : 0 ≤ a) (hb : b ≤ 1114111) (hab : a + 1 < b) (hno : ∀ r ∈ endsL s, r ≤ a ∨ b ≤ r) (r : Int) (h1 : a ≤ r) (h2 : r ≤ b) : hasL s r = hasL s a := by
  apply Bool.eq_iff_iff.2
  rw [hasL_iff, hasL_iff]
  have key : ∀ p ∈ s, (p.1 ≤ r ∧ r ≤ p.2 ∧ 0 ≤ r ∧ r ≤ 1114111) ↔ (p.1 ≤ a ∧ a ≤ p.2 ∧ 0 ≤ a ∧ a ≤ 1114111) := by
    intro p hp
    have hq := hw p hp
    have e1 := hno p.1 (endsL_mem hp hq ⟨by omega, by omega, by omega⟩)
    have e2 := hno p.2 (endsL_mem hp hq ⟨by omega, by omega, by omega⟩)
    have e3 : p.1 = 0 ∨ (p.1 - 1 ≤ a ∨ b ≤ p.1 - 1) := by
      rcases Int.lt_or_le 0 p.1 with h | h
      · exact .inr (hno (p.1 - 1) (endsL_mem hp hq ⟨by omega, by omega, by omega⟩))
      · exact .inl (by omega)
    have e4 : p.2 = 1114111 ∨ (p.2 + 1 ≤ a ∨ b ≤ p.2 + 1) := by
      rcases Int.lt_or_le p.2 1114111 with h | h
      · exact .inr (hno (p.2 + 1) (endsL_mem hp hq ⟨by omega, by omega, by omega⟩))
      · exact .inl (by omega)
    omega
  constructor
  · rintro ⟨p, hp, h⟩; exact ⟨p, hp, (key p hp).1 h⟩
  · rintro ⟨p, hp, h⟩; exact ⟨p, hp, (key p hp).2 h⟩
end Go.Proofs.YtaapbmdojkjphaaGreat
namespace Go.Proofs.YtaapbmdojkjphaaGreat
open Go Go.RowKit
set_option linter.unusedVariables false
theorem asc_lt {l : List Int} (h : Asc l) (i j : Nat) (hij : i < j) (hj : j < l.length) : l.getD i 0 < l.getD j 0 := by
  have := List.pairwise_iff_getElem.1 h i j (by omega) hj hij
  simpa [List.getD, List.getElem?_eq_getElem hj, List.getElem?_eq_getElem (show i < l.length by omega)] using this
theorem mem_getD {l : List Int} {r : Int} (h : r ∈ l) : ∃ i, i < l.length ∧ l.getD i 0 = r := by
  obtain ⟨i, hi, e⟩ := List.getElem_of_mem h
  exact ⟨i, hi, by simpa [List.getD, List.getElem?_eq_getElem hi] using e⟩
theorem getD_mem' {l : List Int} {i : Nat} (h : i < l.length) : l.getD i 0 ∈ l := by
  simp [List.getD, List.getElem?_eq_getElem h]
theorem asc_gap {l : List Int} (h : Asc l) {i : Nat} (hi : i + 1 < l.length) {r : Int} (hr : r ∈ l) : r ≤ l.getD i 0 ∨ l.getD (i + 1) 0 ≤ r := by
  obtain ⟨j, hj, rfl⟩ := mem_getD hr
  rcases Nat.lt_or_ge i j with h1 | h1
  · right
    rcases Nat.lt_or_ge (i + 1) j with h2 | h2
    · exact Int.le_of_lt (asc_lt h _ _ h2 hj)
    · rw [show j = i + 1 by omega]; exact Int.le_refl _
  · left
    rcases Nat.lt_or_ge j i with h2 | h2
    · exact Int.le_of_lt (asc_lt h _ _ h2 (by omega))
    · rw [show j = i by omega]; exact Int.le_refl _
section
variable {rs : List (Int × Int)} {neg : Bool}
theorem ends_first (rs : List (Int × Int)) : 0 < (sortE (endsL rs)).length ∧ (sortE (endsL rs)).getD 0 0 = 0 ∧ (sortE (endsL rs)).getD ((sortE (endsL rs)).length - 1) 0 = 1114111 := by
  obtain ⟨l, hl⟩ : ∃ l, l = sortE (endsL rs) := ⟨_, rfl⟩
  have ha : Asc l := hl ▸ sortE_asc _
  have hm : ∀ r, r ∈ l ↔ r ∈ endsL rs := fun r => hl ▸ sortE_mem _ r
  rw [← hl]
  have h0 : (0 : Int) ∈ l := (hm 0).2 (by simp [endsL])
  have h1 : (1114111 : Int) ∈ l := (hm _).2 (by simp [endsL])
  obtain ⟨i, hi, e⟩ := mem_getD h0
  obtain ⟨j, hj, e'⟩ := mem_getD h1
  refine ⟨by omega, ?_, ?_⟩
  · rcases Nat.eq_zero_or_pos i with h | h
    · rw [h] at e; exact e
    · have := asc_lt ha 0 i h hi
      have := endsL_in ((hm _).1 (getD_mem' (show 0 < l.length by omega)))
      omega
  · rcases Nat.lt_or_ge j (l.length - 1) with h | h
    · have := asc_lt ha j (l.length - 1) h (by omega)
      have := endsL_in ((hm _).1 (getD_mem' (show l.length - 1 < l.length by omega)))
      omega
    · rw [show l.length - 1 = j by omega, e']
def Mid (f : Int → Bool) (a : Int) (out : List (Int × Int)) : Prop :=
  Canon out ∧ (∀ r, hasL out r = (decide (0 ≤ r ∧ r ≤ a) && f r)) ∧ endL 0 out ≤ a + 2 ∧ (f a = true → ∃ v q, out = v ++ [q] ∧ q.2 = a) ∧ (f a = false → endL 0 out ≤ a + 1)
variable {f : Int → Bool} {a b : Int} {out : List (Int × Int)}
def Near (f : Int → Bool) (a b : Int) : Prop := b = a + 1 ∨ (a + 1 < b ∧ ∀ r, a ≤ r → r ≤ b → f r = f a)
theorem mid_first (h : f 0 = false) : Mid f 0 [] := by
  refine ⟨trivial, fun r => ?_, by unfold endL; omega, (fun h' => by rw [h] at h'; cases h'), fun _ => by unfold endL; omega⟩
  rw [hasL_nil]
  by_cases hr : 0 ≤ r ∧ r ≤ 0
  · have : r = 0 := by omega
    rw [this, h, Bool.and_false]
  · rw [decide_eq_false hr, Bool.false_and]
theorem mid_first_one (h : f 0 = true) : Mid f 0 [(0, 0)] := by
  refine ⟨⟨by decide, by decide, by decide, trivial⟩, fun r => ?_, by simp [endL], fun _ => ⟨[], (0, 0), rfl, rfl⟩, fun h' => by rw [h] at h'; cases h'⟩
  rw [hasL_cons, hasL_nil, Bool.or_false]
  by_cases hr : 0 ≤ r ∧ r ≤ 0
  · have : r = 0 := by omega
    rw [this, h]
    decide
  · rw [decide_eq_false hr, Bool.false_and]
    exact decide_eq_false (by dsimp only; omega)
theorem mid_skip (h : Mid f a out) (ha : 0 ≤ a) (hn : Near f a b) (hb : f b = false) : Mid f b out := by
  obtain ⟨h1, h2, h3, h4, h5⟩ := h
  have hab : a < b := by rcases hn with rfl | ⟨h, _⟩ <;> omega
  refine ⟨h1, fun r => ?_, by omega, (fun h' => by rw [hb] at h'; cases h'), fun _ => by omega⟩
  rw [h2 r]
  by_cases hr : a < r ∧ r ≤ b
  · have : f r = false := by
      rcases hn with hn | ⟨_, hn⟩
      · rw [show r = b by omega]; exact hb
      · rw [hn r (by omega) hr.2, ← hn b (by omega) (Int.le_refl _)]; exact hb
    rw [this, Bool.and_false, Bool.and_false]
  · congr 1
    apply decide_eq_decide.2
    omega
theorem mid_join {v : List (Int × Int)} {q : Int × Int} (h : Mid f a (v ++ [q])) (ha : 0 ≤ a) (hb1 : b ≤ 1114111) (hn : Near f a b) (hfa : f a = true) (hb : f b = true) : Mid f b (v ++ [(q.1, b)]) := by
  obtain ⟨h1, h2, h3, h4, h5⟩ := h
  have hab : a < b := by rcases hn with rfl | ⟨h, _⟩ <;> omega
  obtain ⟨v', q', e, hq⟩ := h4 hfa
  obtain ⟨rfl, e2⟩ := List.append_inj' e rfl
  injection e2 with e2 _
  subst e2
  obtain ⟨c1, c2, c3, c4⟩ := (canonF_snoc q v 0).1 h1
  refine ⟨(canonF_snoc _ v 0).2 ⟨c1, c2, by dsimp only; omega, by dsimp only; omega⟩, fun r => ?_, by rw [endL_snoc]; dsimp only; omega, fun _ => ⟨v, (q.1, b), rfl, rfl⟩, fun h' => by rw [hb] at h'; cases h'⟩
  have e := h2 r
  rw [hasL_append, hasL_cons, hasL_nil, Bool.or_false] at e ⊢
  have hv : hasL v r = true → r < q.1 := fun hv => by
    rcases Int.lt_or_le r q.1 with h | h
    · exact h
    · have hge : ∀ (s : List (Int × Int)) (lo : Int), CanonF lo s → hasL s r = true → r + 2 ≤ endL lo s := by
        intro s
        induction s with
        | nil => intro lo _ h; cases h
        | cons p s ih =>
          intro lo hc hh
          obtain ⟨x1, x2, x3, x4⟩ := hc
          rw [hasL_cons, Bool.or_eq_true, decide_eq_true_eq] at hh
          have hmono : ∀ (s : List (Int × Int)) (lo : Int), CanonF lo s → lo ≤ endL lo s := by
            intro s
            induction s with
            | nil => intro lo _; exact Int.le_refl _
            | cons p s ih => intro lo ⟨y1, y2, y3, y4⟩; have := ih _ y4; show lo ≤ endL (p.2 + 2) s; omega
          show r + 2 ≤ endL (p.2 + 2) s
          rcases hh with hh | hh
          · have := hmono s _ x4; omega
          · exact ih _ x4 hh
      have := hge v 0 c1 hv
      omega
  by_cases hr : a < r ∧ r ≤ b
  · have hf : f r = true := by
      rcases hn with hn | ⟨_, hn⟩
      · rw [show r = b by omega]; exact hb
      · rw [hn r (by omega) hr.2]; exact hfa
    rw [hf, decide_eq_true (show 0 ≤ r ∧ r ≤ b by omega), decide_eq_true (by dsimp only; omega), Bool.or_true]
    rfl
  · rw [show decide (0 ≤ r ∧ r ≤ b) = decide (0 ≤ r ∧ r ≤ a) from decide_eq_decide.2 (by omega), ← e]
    congr 1
    apply decide_eq_decide.2
    dsimp only
    omega
theorem mid_push (h : Mid f a out) (ha : 0 ≤ a) (hb1 : b ≤ 1114111) (hn : Near f a b) (hfa : f a = false) (hb : f b = true) : Mid f b (out ++ [(b, b)]) := by
  obtain ⟨h1, h2, h3, h4, h5⟩ := h
  have hba : b = a + 1 := by
    rcases hn with hn | ⟨h, hn⟩
    · exact hn
    · rw [hn b (by omega) (Int.le_refl _), hfa] at hb; cases hb
  have h6 := h5 hfa
  refine ⟨(canonF_snoc _ out 0).2 ⟨h1, by dsimp only; omega, by dsimp only; omega, by dsimp only; omega⟩, fun r => ?_, by rw [endL_snoc]; dsimp only; omega, fun _ => ⟨out, (b, b), rfl, rfl⟩, fun h' => by rw [hb] at h'; cases h'⟩
  rw [hasL_append, h2 r, hasL_cons, hasL_nil, Bool.or_false]
  by_cases hr : r = b
  · rw [hr, hb, decide_eq_true (show 0 ≤ b ∧ b ≤ b by omega), Bool.and_true, Bool.and_true]
    rw [decide_eq_true (show b ≤ b ∧ b ≤ b ∧ 0 ≤ b ∧ b ≤ 1114111 by omega), Bool.or_true]
  · rw [decide_eq_false (show ¬ ((b, b).1 ≤ r ∧ r ≤ (b, b).2 ∧ 0 ≤ r ∧ r ≤ 1114111) by dsimp only; omega), Bool.or_false]
    congr 1
    apply decide_eq_decide.2
    omega
theorem mid_last (h : Mid f 1114111 out) : out = setOf f := setOf_one h.1 h.2.1
end
end Go.Proofs.YtaapbmdojkjphaaGreat
namespace Go.Proofs.YtaapbmdojkjphaaGreat
open Go Go.RowKit
set_option linter.unusedVariables false
set_option maxRecDepth 20000
theorem app_inG' {W w : World} {P : Option Addr} {q pc : Nat} {xs : List (Int × Int)} (h : w.ownsRow W.heap.size 74 2 (.slice P q pc) q (cellsG xs)) {A : Option Addr} {n c : Nat} {s : List (Int × Int)} (hr : RowG w A n s) (hA : A = none → n = 0 ∧ c = 0) (hq : q ≤ 3000000) (hn : n ≤ 3000000) (hb : Below W.heap.size W w) :
    ∃ P' pc' w', (Builtin.append_ #[24, 24] 24 #[.slice P q pc, .slice A n c]).run Tryz.prog w = .ok (.slice P' (q + n) pc') w' ∧ w'.ownsRow W.heap.size 74 2 (.slice P' (q + n) pc') (q + n) (cellsG (xs ++ s)) ∧ Below W.heap.size W w' ∧ ∀ g, g < w.heap.size → (Value.slice P q pc).ownBlock ≠ some g → w'.heap[g]? = w.heap[g]? := by
  obtain ⟨i0, hi, hz0, hz1, hz2⟩ := info_parts info_rng
  have hl := hr.1
  rw [cellsG_append]
  rcases A with _ | ad
  · obtain ⟨rfl, rfl⟩ := hA rfl
    have hs : s = [] := List.eq_nil_of_length_eq_zero hl
    subst hs
    rw [show cellsG [] = [] from rfl, List.append_nil]
    exact ⟨P, pc, w, run_append_owned_none (P := Tryz.prog) w W.heap.size 24 24 74 i0 2 Tryz.underlying24 hi _ q _ h, h, hb, fun _ _ _ => rfl⟩
  · have hcells : ∀ j u, (cellsG s)[j]? = some u → w.cell? (ad.add j) = some u := by
      intro j u hu
      have hj : j < n * 2 := by
        have := cellsG_length s
        rcases Nat.lt_or_ge j (cellsG s).length with h1 | h1
        · omega
        · rw [List.getElem?_eq_none h1] at hu; cases hu
      obtain ⟨b, o, hA, _, hc⟩ := hr.2 (by omega)
      injection hA with hA
      subst hA
      have hadd : (⟨b, o, none⟩ : Addr).add j = ⟨b, o + j, none⟩ := by unfold Addr.add; split <;> simp_all
      obtain ⟨e0, e1⟩ := cellsG_at s (j / 2) (by omega)
      obtain ⟨c0, c1⟩ := hc (j / 2) (by omega)
      rw [hadd]
      rcases Nat.mod_two_eq_zero_or_one j with hm | hm
      · have e : j = j / 2 * 2 := by omega
        rw [e] at hu ⊢
        rw [e0] at hu
        rw [c0, hu]
      · have e : j = j / 2 * 2 + 1 := by omega
        rw [e] at hu ⊢
        rw [e1] at hu
        rw [← Nat.add_assoc, c1, hu]
    obtain ⟨V', w', h1, h2, h3, _⟩ := run_append_own (P := Tryz.prog) w W.heap.size 24 24 74 i0 _ 2 16 Tryz.underlying24 hi hz0 hz1 hz2 rfl (by decide) _ q _ h ad n c (cellsG s) (by rw [cellsG_length, hl]) hcells
      (by intro u hu; obtain ⟨p, _, hp⟩ := List.mem_flatMap.1 hu; simp at hp; rcases hp with rfl | rfl <;> rfl) (by unfold maxLen; omega) (by omega) hb.size
    have hb' : Below W.heap.size W w' := hb.grown h3 hb.size (by intro k hk; exact (row_lt h hk).1)
    have hk' : ∀ g, g < w.heap.size → (Value.slice P q pc).ownBlock ≠ some g → w'.heap[g]? = w.heap[g]? := fun g hg hne => h3.block g hg fun e => hne e.symm
    rcases h2.2 with ⟨rfl, h0⟩ | ⟨b, cap, cu, rfl, _⟩
    · rw [h0] at h2 ⊢
      exact ⟨none, 0, w', h1, h2, hb', hk'⟩
    · exact ⟨_, _, w', h1, h2, hb', hk'⟩
theorem app_inG {W w : World} {P : Option Addr} {q pc : Nat} {xs : List (Int × Int)} (h : w.ownsRow W.heap.size 74 2 (.slice P q pc) q (cellsG xs)) {A : Option Addr} {n c : Nat} {s : List (Int × Int)} (hr : RowG w A n s) (hA : A = none → n = 0 ∧ c = 0) (hq : q ≤ 3000000) (hn : n ≤ 3000000) (hb : Below W.heap.size W w) :
    ∃ P' pc' w', (Builtin.append_ #[24, 24] 24 #[.slice P q pc, .slice A n c]).run Tryz.prog w = .ok (.slice P' (q + n) pc') w' ∧ w'.ownsRow W.heap.size 74 2 (.slice P' (q + n) pc') (q + n) (cellsG (xs ++ s)) ∧ Below W.heap.size W w' := by
  obtain ⟨P', pc', w', h1, h2, h3, _⟩ := app_inG' h hr hA hq hn hb
  exact ⟨P', pc', w', h1, h2, h3⟩
theorem rowG_made (w : World) (s : List (Int × Int)) : RowG (w.alloc (.cells (cellsG s).toArray 74)) (some ⟨w.heap.size, 0, none⟩) s.length s := by
  refine ⟨rfl, fun hn => ⟨w.heap.size, 0, rfl, by simp, fun j hj => ?_⟩⟩
  obtain ⟨e1, e2⟩ := cellsG_at s j hj
  refine ⟨?_, ?_⟩
  · rw [cell_of_row _ w.heap.size (0 + j * 2) _ 74 (0, 0) (heap_alloc_new w _), ← e1, Nat.zero_add]; simp
  · rw [cell_of_row _ w.heap.size (0 + j * 2 + 1) _ 74 (0, 0) (heap_alloc_new w _), ← e2, Nat.zero_add]; simp
theorem ownG_alloc {w : World} {B : Nat} {v : Value} {n : Nat} {xs : List Value} (h : w.ownsRow B 74 2 v n xs) (o : Obj) : (w.alloc o).ownsRow B 74 2 v n xs :=
  row_keep h fun k hk _ => Below.heap_alloc w o k hk
theorem ownG_kept {w w' : World} {B : Nat} {v : Value} {n : Nat} {xs : List Value} (h : w.ownsRow B 74 2 v n xs) (hb : Below w.heap.size w w') : w'.ownsRow B 74 2 v n xs :=
  row_keep h fun k hk _ => hb.block k hk
theorem push_rngs {W w : World} {P : Option Addr} {q pc : Nat} {xs : List (Int × Int)} (h : w.ownsRow W.heap.size 74 2 (.slice P q pc) q (cellsG xs)) (s : List (Int × Int)) (hq : q ≤ 3000000) (hn : s.length ≤ 3000000) (hb : Below W.heap.size W w) :
    ∃ P' pc' w', (Builtin.append_ #[24, 24] 24 #[.slice P q pc, .slice (some ⟨w.heap.size, 0, none⟩) s.length s.length]).run Tryz.prog (w.alloc (.cells (cellsG s).toArray 74)) = .ok (.slice P' (q + s.length) pc') w' ∧ w'.ownsRow W.heap.size 74 2 (.slice P' (q + s.length) pc') (q + s.length) (cellsG (xs ++ s)) ∧ Below W.heap.size W w' :=
  app_inG (ownG_alloc h _) (rowG_made w s) (fun e => by cases e) hq hn (hb.alloc hb.size _)
theorem push_keep {W w : World} {P : Option Addr} {q pc : Nat} {xs : List (Int × Int)} (h : w.ownsRow W.heap.size 74 2 (.slice P q pc) q (cellsG xs)) (s : List (Int × Int)) (hq : q ≤ 3000000) (hn : s.length ≤ 3000000) (hb : Below W.heap.size W w) :
    ∃ P' pc' w', (Builtin.append_ #[24, 24] 24 #[.slice P q pc, .slice (some ⟨w.heap.size, 0, none⟩) s.length s.length]).run Tryz.prog (w.alloc (.cells (cellsG s).toArray 74)) = .ok (.slice P' (q + s.length) pc') w' ∧ w'.ownsRow W.heap.size 74 2 (.slice P' (q + s.length) pc') (q + s.length) (cellsG (xs ++ s)) ∧ Below W.heap.size W w' ∧ ∀ g, g < w.heap.size → (Value.slice P q pc).ownBlock ≠ some g → w'.heap[g]? = w.heap[g]? := by
  obtain ⟨P', pc', w', h1, h2, h3, h4⟩ := app_inG' (ownG_alloc h (.cells (cellsG s).toArray 74)) (rowG_made w s) (fun e => by cases e) hq hn (hb.alloc hb.size _)
  exact ⟨P', pc', w', h1, h2, h3, fun g hg hne => (h4 g (by simp; omega) hne).trans (Below.heap_alloc w _ g hg)⟩
theorem nilG (w : World) (B : Nat) : w.ownsRow B 74 2 (.slice none 0 0) 0 (cellsG []) := World.ownsRow_nil _ _ _ _
theorem cellsG_last (v : List (Int × Int)) (q : Int × Int) (y : Int) : (cellsG (v ++ [q])).set (v.length * 2 + 1) (.int .i64 y) = cellsG (v ++ [(q.1, y)]) := by
  rw [cellsG_append, cellsG_append, List.set_append_right _ _ (by rw [cellsG_length]; omega), cellsG_length, show v.length * 2 + 1 - v.length * 2 = 1 by omega]
  rfl
theorem last_own {W w : World} {P : Option Addr} {n pc : Nat} {v : List (Int × Int)} {q : Int × Int} (h : w.ownsRow W.heap.size 74 2 (.slice P n pc) n (cellsG (v ++ [q]))) (hb : Below W.heap.size W w) :
    ∃ g, P = some ⟨g, 0, none⟩ ∧ n = v.length + 1 ∧ W.heap.size ≤ g ∧ g < w.heap.size ∧ n ≤ pc ∧ pc ≤ maxLen ∧ w.cell? ⟨g, v.length * 2, none⟩ = some (.int .i64 q.1) ∧ w.cell? ⟨g, v.length * 2 + 1, none⟩ = some (.int .i64 q.2) ∧ w.frozen? ⟨g, v.length * 2 + 1, none⟩ = false ∧
      ∀ y, (w.setCell ⟨g, v.length * 2 + 1, none⟩ (.int .i64 y)).ownsRow W.heap.size 74 2 (.slice P n pc) n (cellsG (v ++ [(q.1, y)])) ∧ Below W.heap.size W (w.setCell ⟨g, v.length * 2 + 1, none⟩ (.int .i64 y)) := by
  have hl := h.1
  rw [cellsG_length, List.length_append] at hl
  simp only [List.length_cons, List.length_nil] at hl
  rcases h.2 with ⟨e, h0⟩ | ⟨g, cap, cur, e, hB, hg, hnc, hcm, hcs, ht⟩
  · omega
  · injection e with e1 _ e3
    subst e1; subst e3
    obtain ⟨x1, x2⟩ := cellsG_at (v ++ [q]) v.length (by simp)
    have hd : (v ++ [q]).getD v.length (0, 0) = q := by simp [List.getD]
    rw [hd] at x1 x2
    have hc : ∀ j, j < n * 2 → w.cell? ⟨g, j, none⟩ = (cellsG (v ++ [q]))[j]? := fun j hj => by
      rw [cell_of_row w g j cur 74 (0, 0) hg, ← ht, List.getElem?_take_of_lt hj, Array.getElem?_toList]
    refine ⟨g, rfl, by omega, hB, (Array.getElem?_eq_some_iff.1 hg).1, hnc, hcm, by rw [hc _ (by omega), x1], by rw [hc _ (by omega), x2], by simp [World.frozen?, hg], fun y => ?_⟩
    obtain ⟨s1, s2⟩ := h.stored (v.length * 2 + 1) (.int .i64 y)
    rw [cellsG_last] at s1
    exact ⟨s1, hb.grown s2 hb.size (by intro k hk; injection hk with hk; omega)⟩
end Go.Proofs.YtaapbmdojkjphaaGreat
namespace Go.Proofs.YtaapbmdojkjphaaGreat
open Go Go.RowKit
set_option linter.unusedVariables false
theorem cellI {w : World} {B q pc : Nat} {P : Option Addr} {xs : List Int} (h : w.ownsRow B 3 1 (.slice P q pc) q (xs.map (.int .i64))) {i : Nat} (hi : i < q) : ∃ g, P = some ⟨g, 0, none⟩ ∧ w.cell? ⟨g, i, none⟩ = some (.int .i64 (xs.getD i 0)) := by
  have hl : xs.length = q := by simpa using h.1
  rcases h.2 with ⟨e, h0⟩ | ⟨g, cap, cu, e, _⟩
  · omega
  · injection e with e1 _ _
    subst e1
    refine ⟨g, rfl, ?_⟩
    rw [h.cellAt i (by omega), List.getElem?_map, List.getElem?_eq_getElem (by omega)]
    simp [List.getD, List.getElem?_eq_getElem (show i < xs.length by omega)]
end Go.Proofs.YtaapbmdojkjphaaGreat
namespace Go.Proofs.YtaapbmdojkjphaaGreat
open Go Go.RowKit
set_option linter.unusedVariables false
set_option maxRecDepth 20000
theorem take_snocI {es : List Int} {i : Nat} (h : i < es.length) : es.take (i + 1) = es.take i ++ [es.getD i 0] := by
  rw [List.take_succ_eq_append_getElem h]
  simp [List.getD, List.getElem?_eq_getElem h]
theorem step_append {P : Program} {ops : Array Oper} {o : Oper} {a : Act} {w : World} {K : Act → World → Prop} {Q : Exit → Act → World → Prop} {E : Prop} (hgd : o.guard = none) (s x : Operand) (t : TypeId)
    (ho : o.op = .call { callee := .builtin .append, args := #[s, x], argTypes := #[t, t] }) (hty : o.type = t)
    (v y v' : Value) (w' : World) (hs : a.eval s = v) (hx : a.eval x = y) (hrun : (Builtin.append_ #[t, t] t #[v, y]).run P w = .ok v' w')
    (hK : K (a.put o.dst v') w') : if Region.wanted o (yielded ops a.tmps) = true then Oper.wp P o a w K Q else E := by
  have hw : Region.wanted o (yielded ops a.tmps) = true := by simp [Region.wanted, hgd]
  rw [if_pos hw]
  subst hty
  unfold Oper.wp
  simp [execOp, ho, resolve, invoke, builtin, hs, hx, hrun, Result.andThen]
  exact hK
theorem joined_any (rs : List (Int × Int)) (A : Option Addr) (n c : Nat) (a b : Int) (neg : Bool) (W : World) (hr : RowG W A n rs) (hn : n ≤ 1000) (ha : 0 ≤ a ∧ a ≤ 1114111) :
    Calls Tryz.prog 100 #[.slice A n c, .int .i64 a, .int .i64 b, .bool neg] W fun e w' => e = .returned (.bool (b == a + 1 || (hasL rs (a + 1) != neg))) ∧ w' = W := by
  have HH := Lib.hid (rhas_any rs A n c (a + 1) W hr (by omega))
  clear hr
  obtain ⟨a0, a1⟩ := ha
  obtain ⟨X, hX⟩ : ∃ X, X = hasL rs (a + 1) := ⟨_, rfl⟩
  rw [← hX] at HH ⊢
  clear hX
  by_cases hb : b = a + 1
  · subst hb
    go_enter Tryz.func100, Tryz.ntmps100
    go_wp2
    go_ret
    exact ⟨by simp, rfl⟩
  · have b1 : (b == a + 1) = false := by simpa using hb
    rw [b1, Bool.false_or]
    go_enter Tryz.func100, Tryz.ntmps100
    go_wp2_with (go_at_call 99; refine HH.out.mono ?_; rintro e w1 ⟨rfl, rfl⟩)
    go_ret
    exact ⟨rfl, rfl⟩
set_option maxHeartbeats 8000000 in
theorem made_any (rs : List (Int × Int)) (A : Option Addr) (n c : Nat) (neg : Bool) (W : World) (hr : RowG W A n rs) (hn : n ≤ 1000) (hw : ∀ p ∈ rs, 0 ≤ p.1 ∧ p.1 ≤ p.2 ∧ p.2 ≤ 1114111) :
    Calls Tryz.prog 56 #[.slice A n c, .bool neg] W fun e w' => ∃ P q pc, e = .returned (.slice P q pc) ∧ w'.ownsRow W.heap.size 74 2 (.slice P q pc) q (cellsG (setOf fun r => hasL rs r != neg)) ∧ Below W.heap.size W w' := by
  have HE := Lib.hid (rends_eq rs A n c W hr hn)
  have HR := Lib.hid hr
  have HW := Lib.hid hw
  clear hr hw
  obtain ⟨f, hf⟩ : ∃ f : Int → Bool, f = fun r => hasL rs r != neg := ⟨_, rfl⟩
  have HF := Lib.hid hf
  rw [← hf]
  clear hf
  go_enter Tryz.func56, Tryz.ntmps56
  go_wp2_with (go_at_call 98; refine HE.out.mono ?_; rintro e w1 ⟨P0, q0, pc0, rfl, hown0, hb1, hq0⟩; obtain ⟨hE, _, _, _, _⟩ := ownI_row hown0; have HES := Lib.hid hE; have HB1 := Lib.hid hb1; clear hown0 hb1 hE)
  obtain ⟨es, hes⟩ : ∃ es, es = endsL rs := ⟨_, rfl⟩
  rw [← hes] at HES
  have HEQ := Lib.hid hes
  clear hes HE
  go_loopw [6, 7] (fun vl vi wr => ∃ (i m pc : Nat) (P : Option Addr) (l : List Int), vl = .slice P m pc ∧ vi = .int .i64 (i : Int) ∧ i ≤ q0 ∧ m ≤ i ∧ Hid (wr.ownsRow w1.heap.size 3 1 (.slice P m pc) m (l.map (.int .i64)) ∧ Below w1.heap.size w1 wr ∧ l = sortE (es.take i) ∧ l.length = m)) (fun _ vi _ => q0 - (intOf vi).toNat)
  case atStart => exact ⟨0, 0, 0, none, [], rfl, rfl, Nat.zero_le _, Nat.le_refl _, Lib.hid ⟨ownI_nil w1 _, Below.refl _ _, rfl, rfl⟩⟩
  case round =>
    obtain ⟨i, m, pc, P, l, rfl, rfl, hi, hm, HO⟩ := hrel
    by_cases hlt : i < q0
    · obtain ⟨b, o, rfl, hbw, hc⟩ := HES.out.2 (by omega)
      have d0 := (HO.out.2.1.cell (p := ⟨b, o + i, none⟩) hbw).trans (hc i hlt)
      have hts := take_snocI (es := es) (i := i) (by rw [HES.out.1]; exact hlt)
      obtain ⟨E, hEe⟩ : ∃ E, E = es.getD i 0 := ⟨_, rfl⟩
      have hc0 := hc i hlt
      rw [← hEe] at d0 hts hc0
      have HTS := Lib.hid hts
      have HC0 := Lib.hid hc0
      clear hc hts hEe hc0
      have hqm : q0 ≤ 10000 := by omega
      go_wp2
      go_loopw [8] (fun vk wt => ∃ (k q : Nat), vk = .int .i64 (k : Int) ∧ k ≤ m ∧ wt = wr.drewN q ∧ Hid (∀ j, j < k → l.getD j 0 < E)) (fun vk _ => m - (intOf vk).toNat)
      case atStart => exact ⟨0, 0, rfl, Nat.zero_le _, rfl, Lib.hid fun j h => by omega⟩
      case round =>
        obtain ⟨k, q, rfl, hk, rfl, HK⟩ := hrel
        by_cases hkm : k < m
        · obtain ⟨g, hP, hcell⟩ := cellI HO.out.1 hkm
          subst hP
          obtain ⟨Z, hZ⟩ : ∃ Z, Z = l.getD k 0 := ⟨_, rfl⟩
          rw [← hZ] at hcell
          have HZ := Lib.hid hZ
          clear hZ
          by_cases hZE : Z < E
          · have b1 : decide (Z < E) = true := decide_eq_true hZE
            go_wp2
            go_quiet (fail)
            go_wp2
            refine ⟨⟨k + 1, q + nq, by go_num, by omega, rfl, Lib.hid fun j hj => ?_⟩, by simp [intOf]; omega⟩
            rcases Nat.lt_or_ge j k with h | h
            · exact HK.out j h
            · rw [show j = k by omega, ← HZ.out]; exact hZE
          · have b1 : decide (Z < E) = false := decide_eq_false hZE
            go_wp2
            go_quiet (fail)
            revert nq
            intro Q
            go_wp2
            by_cases hZ2 : Z = E
            · have b2 : (Z == E) = true := by simpa using hZ2
              go_quiet (fail)
              go_wp2
              refine ⟨⟨i + 1, m, pc, _, l, rfl, by go_num, by omega, by omega, Lib.hid ⟨ownI_kept HO.out.1 (below_drewN (Below.refl _ _) _), below_drewN HO.out.2.1 _, ?_, HO.out.2.2.2⟩⟩, by simp [intOf]; omega⟩
              rw [HTS.out, sortE_snoc, ← HO.out.2.2.1, insI_at E l k (by rw [HO.out.2.2.2]; exact hk) (fun j h hj => by have := HK.out j hj; simpa [List.getD, List.getElem?_eq_getElem h] using this) (fun h => by have := HZ.out; simp [List.getD, List.getElem?_eq_getElem h] at this; rw [← this]; omega), if_pos ⟨by rw [HO.out.2.2.2]; exact hkm, by have := HZ.out; simp [List.getD, List.getElem?_eq_getElem (show k < l.length by rw [HO.out.2.2.2]; exact hkm)] at this; rw [← this]; exact hZ2⟩]
            · have b2 : (Z == E) = false := by simpa using hZ2
              go_quiet (fail)
              have hbq : Below wr.heap.size wr (wr.drewN (q + Q + nq)) := below_drewN (Below.refl _ _) _
              have hlq := ownI_kept HO.out.1 hbq
              obtain ⟨hlr, hlc, hlm, hln, hlb⟩ := ownI_row hlq
              have hkc : k ≤ pc := by omega
              have hkc2 : k < pc := by omega
              have hpm : pc ≤ 9223372036854775807 := by unfold maxLen at hlm; omega
              obtain ⟨P1, pc1, wa, r1, o1, b1', k1⟩ := appI_at (W := w1) (w := wr.drewN (q + Q + nq)) (ownI_nil _ _) (rowI_upto hlr hk) (c := pc) (fun e => by cases e) (by omega) (by omega) (then_ HO.out.2.1 hbq)
              rw [Nat.zero_add] at r1 o1 k1
              rw [List.nil_append] at o1
              obtain ⟨P2, pc2, wb, r2, o2, b2', k2⟩ := pushI_at o1 (by omega) b1' E
              have hgl : g < (wr.drewN (q + Q + nq)).heap.size := (row_lt HO.out.1 (hlb g 0 rfl)).2
              obtain ⟨j1, j2⟩ := k1 g hgl (by simp [Value.ownBlock])
              obtain ⟨j3, j4⟩ := k2 g (by have := (b1'.size); have h := (Array.getElem?_eq_some_iff.1 (j2.trans (Array.getElem?_eq_getElem hgl))).1; exact h) j1
              have hlr3 : RowI .i64 wb (some ⟨g, k, none⟩) (m - k) (l.drop k) := by
                have h := rowI_from (rowI_keep hlr (fun b o e h => by injection e with e; injection e with e1 _ _; subst e1; rw [j4, j2])) hk
                rcases Nat.eq_zero_or_pos k with h0 | h0
                · subst h0; simpa [Addr.add] using h
                · simpa [Addr.add, show ¬ k = 0 by omega] using h
              obtain ⟨P3, pc3, wc, r3, o3, b3', k3⟩ := appI_at (W := w1) o2 hlr3 (c := pc - k) (fun e => by cases e) (by omega) (by omega) b2'
              have d1 := (b1'.cell (p := ⟨b, o + i, none⟩) hbw).trans HC0.out
              have HA1 := Lib.hid r1
              have HA2 := Lib.hid r2
              have HA3 := Lib.hid r3
              have HOC := Lib.hid (And.intro o3 b3')
              clear r1 r2 r3 o1 o2 o3 b1' b2' b3' k1 k2 k3 j1 j2 j3 j4 hlr hlr3 hlq
              go_wp2_with (first
                | (at_builtin; refine wpList_append_run rfl (.tmp 53) (.tmp 56) 46 rfl rfl _ _ _ _ rfl rfl HA1.out ?_)
                | (at_builtin; refine wpList_append_run rfl (.tmp 58) (.tmp 63) 46 rfl rfl _ _ _ _ rfl rfl HA2.out ?_)
                | (at_builtin; refine wpList_append_run rfl (.tmp 65) (.tmp 68) 46 rfl rfl _ _ _ _ rfl rfl HA3.out ?_))
              refine ⟨⟨i + 1, k + 1 + (m - k), pc3, P3, _, rfl, by go_num, by omega, by omega, Lib.hid ⟨HOC.out.1, HOC.out.2, ?_, ?_⟩⟩, by simp [intOf]; omega⟩
              · rw [HTS.out, sortE_snoc, ← HO.out.2.2.1, insI_at E l k (by rw [HO.out.2.2.2]; exact hk) (fun j h hj => by have := HK.out j hj; simpa [List.getD, List.getElem?_eq_getElem h] using this) (fun h => by have := HZ.out; simp [List.getD, List.getElem?_eq_getElem h] at this; rw [← this]; omega), if_neg (fun ⟨h, e⟩ => hZ2 (by have := HZ.out; simp [List.getD, List.getElem?_eq_getElem h] at this; rw [this]; exact e))]
                simp
              · have := HO.out.2.2.2
                simp
                omega
        · have hkm2 : k = m := by omega
          subst hkm2
          have HINS : Hid (sortE (es.take (i + 1)) = l ++ [E]) := Lib.hid (by
            rw [HTS.out, sortE_snoc, ← HO.out.2.2.1, insI_at E l k (by rw [HO.out.2.2.2]; exact hk) (fun j h hj => by have := HK.out j hj; simpa [List.getD, List.getElem?_eq_getElem h] using this) (fun h => by rw [HO.out.2.2.2] at h; omega), if_neg (fun ⟨h, _⟩ => by rw [HO.out.2.2.2] at h; omega), List.take_of_length_le (by rw [HO.out.2.2.2]; exact Nat.le_refl _), List.drop_of_length_le (by rw [HO.out.2.2.2]; exact Nat.le_refl _)])
          go_wp2
          go_quiet (fail)
          revert nq
          intro Q
          go_wp2
          go_quiet (fail)
          have hbq : Below wr.heap.size wr (wr.drewN (q + Q + nq)) := below_drewN (Below.refl _ _) _
          have hlq := ownI_kept HO.out.1 hbq
          obtain ⟨hlr, hlc, hlm, hln, hlb⟩ := ownI_row hlq
          have hpm : pc ≤ 9223372036854775807 := by unfold maxLen at hlm; omega
          obtain ⟨P1, pc1, wa, r1, o1, b1', k1⟩ := appI_at (W := w1) (w := wr.drewN (q + Q + nq)) (ownI_nil _ _) hlr (c := pc) hln (by omega) (by omega) (then_ HO.out.2.1 hbq)
          rw [Nat.zero_add] at r1 o1 k1
          rw [List.nil_append] at o1
          obtain ⟨P2, pc2, wb, r2, o2, b2', k2⟩ := pushI_at o1 (by omega) b1' E
          have h3 : ∀ (A3 : Option Addr) (c3 : Nat), (A3 = none → c3 = 0) → ∃ P3 pc3 wc, (Builtin.append_ #[46, 46] 46 #[.slice P2 (k + 1) pc2, .slice A3 0 c3]).run Tryz.prog wb = .ok (.slice P3 (k + 1) pc3) wc ∧ wc.ownsRow w1.heap.size 3 1 (.slice P3 (k + 1) pc3) (k + 1) ((l ++ [E]).map (.int .i64)) ∧ Below w1.heap.size w1 wc := fun A3 c3 h => by
            obtain ⟨P3, pc3, wc, r3, o3, b3', _⟩ := appI_at (W := w1) o2 (A := A3) (m := 0) (c := c3) (ys := []) ⟨rfl, fun h => absurd h (by omega)⟩ (fun e => ⟨rfl, h e⟩) (by omega) (by omega) b2'
            rw [List.append_nil] at o3
            exact ⟨P3, pc3, wc, r3, o3, b3'⟩
          have d1 := (b1'.cell (p := ⟨b, o + i, none⟩) hbw).trans HC0.out
          have HA1 := Lib.hid r1
          have HA2 := Lib.hid r2
          have H3 := Lib.hid h3
          clear r1 r2 o1 o2 b1' b2' k1 k2 h3 hlr hlq
          rcases P with _ | ⟨g, go, gs⟩
          · obtain ⟨hk0, hpc0⟩ := hln rfl
            subst hpc0
            obtain ⟨P3, pc3, wc, r3, o3, b3'⟩ := H3.out none 0 (fun _ => rfl)
            have HA3 := Lib.hid r3
            have HOC := Lib.hid (And.intro o3 b3')
            clear r3 o3 b3'
            subst hk0
            go_wp2_with (first
              | (at_builtin; refine wpList_append_run rfl (.tmp 53) (.tmp 56) 46 rfl rfl _ _ _ _ rfl rfl HA1.out ?_)
              | (at_builtin; refine wpList_append_run rfl (.tmp 58) (.tmp 63) 46 rfl rfl _ _ _ _ rfl rfl HA2.out ?_)
              | (at_builtin; refine wpList_append_run rfl (.tmp 65) (.tmp 68) 46 rfl rfl _ _ _ _ rfl rfl HA3.out ?_))
            exact ⟨⟨i + 1, 0 + 1, pc3, P3, _, rfl, by go_num, by omega, by omega, Lib.hid ⟨HOC.out.1, HOC.out.2, HINS.out.symm, by rw [List.length_append, HO.out.2.2.2]; rfl⟩⟩, by simp [intOf]; omega⟩
          · obtain ⟨rfl, rfl⟩ : go = 0 ∧ gs = none := by
              rcases HO.out.1.2 with ⟨e, _⟩ | ⟨g', cap, cur, e, _⟩
              · injection e with e1 _ _; cases e1
              · injection e with e1 _ _
                injection e1 with e1
                injection e1 with _ e2 e3
                exact ⟨e2, e3⟩
            rcases Nat.lt_or_ge k pc with hkp | hkp
            · obtain ⟨P3, pc3, wc, r3, o3, b3'⟩ := H3.out (some ⟨g, k, none⟩) (pc - k) (fun e => by cases e)
              have HA3 := Lib.hid r3
              have HOC := Lib.hid (And.intro o3 b3')
              clear r3 o3 b3'
              go_wp2_with (first
                | (at_builtin; refine wpList_append_run rfl (.tmp 53) (.tmp 56) 46 rfl rfl _ _ _ _ rfl rfl HA1.out ?_)
                | (at_builtin; refine wpList_append_run rfl (.tmp 58) (.tmp 63) 46 rfl rfl _ _ _ _ rfl rfl HA2.out ?_)
                | (at_builtin; refine wpList_append_run rfl (.tmp 65) (.tmp 68) 46 rfl rfl _ _ _ _ rfl rfl HA3.out ?_))
              exact ⟨⟨i + 1, k + 1, pc3, P3, _, rfl, by go_num, by omega, by omega, Lib.hid ⟨HOC.out.1, HOC.out.2, HINS.out.symm, by rw [List.length_append, HO.out.2.2.2]; rfl⟩⟩, by simp [intOf]; omega⟩
            · obtain rfl : pc = k := by omega
              obtain ⟨P3, pc3, wc, r3, o3, b3'⟩ := H3.out (some ⟨g, 0, none⟩) 0 (fun e => by cases e)
              have HA3 := Lib.hid r3
              have HOC := Lib.hid (And.intro o3 b3')
              clear r3 o3 b3'
              go_wp2_with (first
                | (at_builtin; refine wpList_append_run rfl (.tmp 53) (.tmp 56) 46 rfl rfl _ _ _ _ rfl rfl HA1.out ?_)
                | (at_builtin; refine wpList_append_run rfl (.tmp 58) (.tmp 63) 46 rfl rfl _ _ _ _ rfl rfl HA2.out ?_)
                | (at_builtin; refine wpList_append_run rfl (.tmp 65) (.tmp 68) 46 rfl rfl _ _ _ _ rfl rfl HA3.out ?_))
              exact ⟨⟨i + 1, pc + 1, pc3, P3, _, rfl, by go_num, by omega, by omega, Lib.hid ⟨HOC.out.1, HOC.out.2, HINS.out.symm, by rw [List.length_append, HO.out.2.2.2]; rfl⟩⟩, by simp [intOf]; omega⟩
    · have hiq : i = q0 := by omega
      subst hiq
      have HL := Lib.hid (show l = sortE (endsL rs) by rw [HO.out.2.2.1, List.take_of_length_le (by rw [HES.out.1]; exact Nat.le_refl _), HEQ.out])
      have HLR := Lib.hid (ownI_row HO.out.1).1
      have HWR := Lib.hid (HB1.out.trans (HO.out.2.1.mono HB1.out.size))
      have HLM := Lib.hid HO.out.2.2.2
      clear HO HEQ HES HB1
      have hf1 : ∀ r, f r = (hasL rs r != neg) := fun r => by rw [HF.out]
      have HF1 := Lib.hid hf1
      clear hf1
      obtain ⟨e0, e1, e2⟩ := ends_first rs
      have HFI := Lib.hid (And.intro (show l.getD 0 0 = 0 by rw [HL.out]; exact e1) (show l.getD (m - 1) 0 = 1114111 by rw [← HLM.out, HL.out]; exact e2))
      have hm0 : 0 < m := by rw [← HLM.out, HL.out]; exact e0
      have hm1 : m ≤ 10000 := by omega
      have HIN : Hid (∀ j, j < m → 0 ≤ l.getD j 0 ∧ l.getD j 0 ≤ 1114111) := Lib.hid fun j hj => endsL_in ((sortE_mem _ _).1 (by rw [← HL.out]; exact getD_mem' (by rw [HLM.out]; exact hj)))
      have HNE : Hid (∀ j, j + 1 < m → Near f (l.getD j 0) (l.getD (j + 1) 0)) := Lib.hid fun j hj => by
        have h1 := HIN.out j (by omega)
        have h2 := HIN.out (j + 1) hj
        have hlt := asc_lt (l := l) (by rw [HL.out]; exact sortE_asc _) j (j + 1) (by omega) (by rw [HLM.out]; exact hj)
        rcases Int.lt_or_le (l.getD j 0 + 1) (l.getD (j + 1) 0) with h | h
        · refine .inr ⟨h, fun r hr1 hr2 => ?_⟩
          rw [HF1.out, HF1.out, alike HW.out h1.1 h2.2 h (fun r' hr' => asc_gap (l := l) (by rw [HL.out]; exact sortE_asc _) (by rw [HLM.out]; exact hj) (by rw [HL.out, sortE_mem]; exact hr')) r hr1 hr2]
        · exact .inl (by omega)
      clear e0 e1 e2 hi hlt hm
      obtain ⟨W2, hW2⟩ : ∃ W2, W2 = wr := ⟨_, rfl⟩
      subst hW2
      obtain ⟨g, go, rfl, hgw, hgc⟩ := HLR.out.2 hm0
      have HGC := Lib.hid hgc
      clear hgc
      go_wp2
      go_loopw [10, 11] (fun vo vi wr => ∃ (j mo pco : Nat) (Po : Option Addr) (out : List (Int × Int)), vo = .slice Po mo pco ∧ vi = .int .i64 (j : Int) ∧ j ≤ m ∧ mo ≤ j ∧ Hid (wr.ownsRow W2.heap.size 74 2 (.slice Po mo pco) mo (cellsG out) ∧ Below W2.heap.size W2 wr ∧ (j = 0 → out = []) ∧ (0 < j → Mid f (l.getD (j - 1) 0) out))) (fun _ vi _ => m - (intOf vi).toNat)
      case atStart => exact ⟨0, 0, 0, none, [], rfl, rfl, Nat.zero_le _, Nat.le_refl _, Lib.hid ⟨nilG _ _, Below.refl _ _, fun _ => rfl, fun h => by omega⟩⟩
      case round =>
        obtain ⟨j, mo, pco, Po, out, rfl, rfl, hj, hmo, HO⟩ := hrel
        by_cases hjm : j < m
        · have c0 := (HO.out.2.1.cell (p := ⟨g, go + j, none⟩) hgw).trans (HGC.out j hjm)
          have hbin := HIN.out j hjm
          obtain ⟨b, hb⟩ : ∃ b, b = l.getD j 0 := ⟨_, rfl⟩
          rw [← hb] at c0 hbin
          have HBV := Lib.hid hb
          clear hb
          have K := Lib.hid fun r q => (rhas_any rs A n c r (wr.drewN q) (HR.out.below (HWR.out.trans ((below_drewN HO.out.2.1 q).mono HWR.out.size)) (Nat.le_refl _)) (by omega)).mono fun e w' (h : _ ∧ _) => And.intro h.1 h.2.symm
          have K0 := Lib.hid ((rhas_any rs A n c b wr (HR.out.below (HWR.out.trans (HO.out.2.1.mono HWR.out.size)) (Nat.le_refl _)) (by omega)))
          obtain ⟨hB, hhB⟩ : ∃ hB, hB = hasL rs b := ⟨_, rfl⟩
          rw [← hhB] at K0
          have HFB := Lib.hid (show f b = (hB != neg) by rw [HF1.out, hhB])
          clear hhB
          cases hfb : f b with
          | false =>
            have hBn : hB = neg := by have := HFB.out; rw [hfb] at this; simpa using this.symm
            subst hBn
            have HMID : Hid (Mid f b out) := Lib.hid (by
              rcases Nat.eq_zero_or_pos j with h0 | h0
              · subst h0
                rw [HO.out.2.2.1 rfl]
                have hb0 : b = 0 := by rw [HBV.out, HFI.out.1]
                rw [hb0]
                exact mid_first (by rw [← hb0]; exact hfb)
              · have h1 := HO.out.2.2.2 h0
                have h2 := HNE.out (j - 1) (by omega)
                rw [show j - 1 + 1 = j by omega, ← HBV.out] at h2
                exact mid_skip h1 (HIN.out (j - 1) (by omega)).1 h2 hfb)
            clear hfb
            go_wp2_with (go_at_call 99; (with_reducible refine K0.out.mono ?_); rintro e w2 ⟨rfl, rfl⟩)
            exact ⟨⟨j + 1, mo, pco, Po, out, rfl, by go_num, by omega, by omega, Lib.hid ⟨HO.out.1, HO.out.2.1, fun h => by omega, fun _ => by rw [show j + 1 - 1 = j by omega, ← HBV.out]; exact HMID.out⟩⟩, by simp [intOf]; omega⟩
          | true =>
            have hBn : ¬ hB = neg := by have h := HFB.out; rw [hfb] at h; simpa using h.symm
            have q1 : (hB == neg) = false := by simpa using hBn
            have HFBT := Lib.hid hfb
            clear hfb hBn
            rcases Nat.eq_zero_or_pos j with h0 | h0
            · have hout := HO.out.2.2.1 h0
              have hmo0 : mo = 0 := by omega
              have HMID : Hid (Mid f b (out ++ [(b, b)])) := Lib.hid (by
                have hb0 : b = 0 := by rw [HBV.out, h0, HFI.out.1]
                rw [hout, hb0]
                exact mid_first_one (by rw [← hb0]; exact HFBT.out))
              have d4 : decide (0 < mo) = false := decide_eq_false (by omega)
              clear hout h0 hmo0
              go_wp2_with (go_at_call 99; (with_reducible refine K0.out.mono ?_); rintro e w2 ⟨rfl, rfl⟩)
              go_quiet (fail)
              obtain ⟨X, hX⟩ : ∃ X, X = wr.drewN nq := ⟨_, rfl⟩
              rw [← hX]
              have hXb : Below wr.heap.size wr X := by rw [hX]; exact below_drewN (Below.refl _ _) nq
              have cX : ∀ w, Below wr.heap.size wr w → w.cell? ⟨g, go + j, none⟩ = some (.int .i64 b) := fun w h => (h.cell (p := ⟨g, go + j, none⟩) (Nat.lt_of_lt_of_le hgw HO.out.2.1.size)).trans c0
              have cX0 := cX X hXb
              obtain ⟨P', pc', w', happ, hown, hbel⟩ := app_inG (W := W2) (ownG_kept (ownG_alloc (ownG_kept HO.out.1 hXb) (.cells (cellsG [(b, b)]).toArray 74)) ((Below.refl _ _).drew)) ((rowG_made X [(b, b)]).below ((Below.refl _ _).drew) (Nat.le_refl _)) (c := 1) (fun e => by cases e) (by omega) (by simp) (((then_ HO.out.2.1 hXb).alloc (Nat.le_trans HO.out.2.1.size hXb.size) _).drew)
              have cX1 : w'.cell? ⟨g, go + j, none⟩ = some (.int .i64 b) := (hbel.cell (p := ⟨g, go + j, none⟩) hgw).trans (HGC.out j hjm |>.trans (by rw [← HBV.out]))
              have cX2 : (X.alloc (.cells (cellsG [(b, b)]).toArray 74)).drew.cell? ⟨g, go + j, none⟩ = some (.int .i64 b) := cX _ (((hXb.alloc hXb.size _)).drew)
              simp only [List.length_cons, List.length_nil, Nat.zero_add] at happ hown
              have HA := Lib.hid happ
              have HOC := Lib.hid (And.intro hown hbel)
              clear happ hown hbel hX cX
              go_wp2_with fail
              go_region_held_law (fun w' => w'.cell? ⟨g, go + j, none⟩ = some (.int .i64 b)) (first | assumption | go_keep) (refine step_append rfl (.tmp 126) (.tmp 136) 24 rfl rfl _ _ _ _ rfl rfl HA.out ?_)
              go_wp2
              exact ⟨⟨j + 1, mo + 1, pc', P', _, rfl, by go_num, by omega, by omega, Lib.hid ⟨HOC.out.1, HOC.out.2, fun h => by omega, fun _ => by rw [show j + 1 - 1 = j by omega, ← HBV.out]; exact HMID.out⟩⟩, by simp [intOf]; omega⟩
            · have hmid := HO.out.2.2.2 h0
              have hnear := HNE.out (j - 1) (by omega)
              rw [show j - 1 + 1 = j by omega, ← HBV.out] at hnear
              have hain := HIN.out (j - 1) (by omega)
              have ca := (HO.out.2.1.cell (p := ⟨g, go + (j - 1), none⟩) hgw).trans (HGC.out (j - 1) (by omega))
              obtain ⟨a, ha⟩ : ∃ a, a = l.getD (j - 1) 0 := ⟨_, rfl⟩
              rw [← ha] at hmid hnear hain ca
              clear ha
              have hw2 : IntKind.i64.wrap ((j : Int) - 1) = (j : Int) - 1 := by rw [IntKind.wrap_i64]; omega
              have b1 : (0 : Int) ≤ (j : Int) - 1 := by omega
              have b2 : (j : Int) - 1 < (m : Int) := by omega
              have b3 : ((j : Int) - 1).toNat = j - 1 := by omega
              have dj : decide (0 < j) = true := decide_eq_true h0
              have ka := K.out a
              obtain ⟨hA, hhA⟩ : ∃ hA, hA = hasL rs a := ⟨_, rfl⟩
              rw [← hhA] at ka
              have hfa : f a = (hA != neg) := by rw [HF1.out, hhA]
              have KA := Lib.hid ka
              clear hhA ka
              cases hfav : f a with
              | true =>
                obtain ⟨v, ⟨z0, z⟩, rfl, hq⟩ := hmid.2.2.2.1 hfav
                dsimp only at hq
                subst hq
                have hAn : (hA != neg) = true := by rw [← hfa, hfav]
                have hAn2 : (hA == neg) = false := by simpa [bne] using hAn
                have HMID : Hid (Mid f b (v ++ [(z0, b)])) := Lib.hid (mid_join hmid hain.1 hbin.2 hnear hfav HFBT.out)
                have hjo : (b == z + 1 || (hasL rs (z + 1) != neg)) = true := by
                  rcases hnear with h | ⟨h, hall⟩
                  · rw [h]; simp
                  · rw [← HF1.out, hall (z + 1) (by omega) (by omega), hfav, Bool.or_true]
                have KJ := Lib.hid fun q => (joined_any rs A n c z b neg (wr.drewN q) (HR.out.below (HWR.out.trans ((below_drewN HO.out.2.1 q).mono HWR.out.size)) (Nat.le_refl _)) (by omega) hain)
                have KJ2 : Hid (∀ q, Calls Tryz.prog 100 #[.slice A n c, .int .i64 z, .int .i64 b, .bool neg] (wr.drewN q) fun e w' => e = .returned (.bool true) ∧ w' = wr.drewN q) := Lib.hid (by rw [hjo] at KJ; exact KJ.out)
                have hmo1 : mo = v.length + 1 := by have := HO.out.1.1; rw [cellsG_length] at this; simp at this; omega
                have d4 : decide (0 < mo) = true := decide_eq_true (by omega)
                have HMO := Lib.hid hmo1
                clear hmo1 hjo KJ hfav hfa hmid hnear
                go_wp2_with (go_at_call 99; (with_reducible refine K0.out.mono ?_); rintro e w2 ⟨rfl, rfl⟩)
                go_quiet (first | (go_at_call 99; with_reducible exact Calls.quiet_of_same (KA.out _)) | (go_at_call 100; with_reducible exact Calls.quiet_of_same (KJ2.out _)))
                obtain ⟨X, hX⟩ : ∃ X, X = wr.drewN nq := ⟨_, rfl⟩
                rw [← hX]
                have hXb : Below wr.heap.size wr X := by rw [hX]; exact below_drewN (Below.refl _ _) nq
                have cX0 : X.cell? ⟨g, go + j, none⟩ = some (.int .i64 b) := (hXb.cell (p := ⟨g, go + j, none⟩) (Nat.lt_of_lt_of_le hgw HO.out.2.1.size)).trans c0
                obtain ⟨g2, rfl, hmoe, _, _, hpc, _, _, k1, kfz, kst⟩ := last_own (W := W2) (ownG_kept HO.out.1 hXb) (then_ HO.out.2.1 hXb)
                have hv : v.length = mo - 1 := by have := HMO.out; omega
                rw [hv] at k1 kfz kst
                have hw3 : IntKind.i64.wrap ((mo : Int) - 1) = (mo : Int) - 1 := by rw [IntKind.wrap_i64]; omega
                have m1 : (0 : Int) ≤ (mo : Int) - 1 := by have := HMO.out; omega
                have m2 : (mo : Int) - 1 < (mo : Int) := by omega
                have m3 : ((mo : Int) - 1).toNat = mo - 1 := by have := HMO.out; omega
                have KST := Lib.hid (kst b)
                clear kst hX hv hmoe
                go_wp2
                exact ⟨⟨j + 1, mo, pco, _, _, rfl, by go_num, by omega, by omega, Lib.hid ⟨KST.out.1, KST.out.2, fun h => by omega, fun _ => by rw [show j + 1 - 1 = j by omega, ← HBV.out]; exact HMID.out⟩⟩, by simp [intOf]; omega⟩
              | false =>
                have hAn : (hA != neg) = false := by rw [← hfa, hfav]
                have hAn2 : (hA == neg) = true := by simpa [bne] using hAn
                have HMID : Hid (Mid f b (out ++ [(b, b)])) := Lib.hid (mid_push hmid hain.1 hbin.2 hnear hfav HFBT.out)
                clear hfav hfa hmid hnear
                rcases Nat.eq_zero_or_pos mo with hmo0 | hmo0
                · have d4 : decide (0 < mo) = false := decide_eq_false (by omega)
                  clear hmo0
                  go_wp2_with (go_at_call 99; (with_reducible refine K0.out.mono ?_); rintro e w2 ⟨rfl, rfl⟩)
                  go_quiet (fail)
                  obtain ⟨X, hX⟩ : ∃ X, X = wr.drewN nq := ⟨_, rfl⟩
                  rw [← hX]
                  have hXb : Below wr.heap.size wr X := by rw [hX]; exact below_drewN (Below.refl _ _) nq
                  have cX : ∀ w, Below wr.heap.size wr w → w.cell? ⟨g, go + j, none⟩ = some (.int .i64 b) := fun w h => (h.cell (p := ⟨g, go + j, none⟩) (Nat.lt_of_lt_of_le hgw HO.out.2.1.size)).trans c0
                  have cX0 := cX X hXb
                  obtain ⟨P', pc', w', happ, hown, hbel⟩ := app_inG (W := W2) (ownG_kept (ownG_alloc (ownG_kept HO.out.1 hXb) (.cells (cellsG [(b, b)]).toArray 74)) ((Below.refl _ _).drew)) ((rowG_made X [(b, b)]).below ((Below.refl _ _).drew) (Nat.le_refl _)) (c := 1) (fun e => by cases e) (by omega) (by simp) (((then_ HO.out.2.1 hXb).alloc (Nat.le_trans HO.out.2.1.size hXb.size) _).drew)
                  have cX1 : w'.cell? ⟨g, go + j, none⟩ = some (.int .i64 b) := (hbel.cell (p := ⟨g, go + j, none⟩) hgw).trans (HGC.out j hjm |>.trans (by rw [← HBV.out]))
                  have cX2 : (X.alloc (.cells (cellsG [(b, b)]).toArray 74)).drew.cell? ⟨g, go + j, none⟩ = some (.int .i64 b) := cX _ (((hXb.alloc hXb.size _)).drew)
                  simp only [List.length_cons, List.length_nil, Nat.zero_add] at happ hown
                  have HA := Lib.hid happ
                  have HOC := Lib.hid (And.intro hown hbel)
                  clear happ hown hbel hX cX
                  go_wp2_with fail
                  go_region_held_law (fun w' => w'.cell? ⟨g, go + j, none⟩ = some (.int .i64 b)) (first | assumption | go_keep) (refine step_append rfl (.tmp 126) (.tmp 136) 24 rfl rfl _ _ _ _ rfl rfl HA.out ?_)
                  go_wp2
                  exact ⟨⟨j + 1, mo + 1, pc', P', _, rfl, by go_num, by omega, by omega, Lib.hid ⟨HOC.out.1, HOC.out.2, fun h => by omega, fun _ => by rw [show j + 1 - 1 = j by omega, ← HBV.out]; exact HMID.out⟩⟩, by simp [intOf]; omega⟩
                · have d4 : decide (0 < mo) = true := decide_eq_true hmo0
                  clear hmo0
                  go_wp2_with (go_at_call 99; (with_reducible refine K0.out.mono ?_); rintro e w2 ⟨rfl, rfl⟩)
                  go_quiet ((go_at_call 99; with_reducible exact Calls.quiet_of_same (KA.out _)))
                  obtain ⟨X, hX⟩ : ∃ X, X = wr.drewN nq := ⟨_, rfl⟩
                  rw [← hX]
                  have hXb : Below wr.heap.size wr X := by rw [hX]; exact below_drewN (Below.refl _ _) nq
                  have cX : ∀ w, Below wr.heap.size wr w → w.cell? ⟨g, go + j, none⟩ = some (.int .i64 b) := fun w h => (h.cell (p := ⟨g, go + j, none⟩) (Nat.lt_of_lt_of_le hgw HO.out.2.1.size)).trans c0
                  have cX0 := cX X hXb
                  obtain ⟨P', pc', w', happ, hown, hbel⟩ := app_inG (W := W2) (ownG_kept (ownG_alloc (ownG_kept HO.out.1 hXb) (.cells (cellsG [(b, b)]).toArray 74)) ((Below.refl _ _).drew)) ((rowG_made X [(b, b)]).below ((Below.refl _ _).drew) (Nat.le_refl _)) (c := 1) (fun e => by cases e) (by omega) (by simp) (((then_ HO.out.2.1 hXb).alloc (Nat.le_trans HO.out.2.1.size hXb.size) _).drew)
                  have cX1 : w'.cell? ⟨g, go + j, none⟩ = some (.int .i64 b) := (hbel.cell (p := ⟨g, go + j, none⟩) hgw).trans (HGC.out j hjm |>.trans (by rw [← HBV.out]))
                  have cX2 : (X.alloc (.cells (cellsG [(b, b)]).toArray 74)).drew.cell? ⟨g, go + j, none⟩ = some (.int .i64 b) := cX _ (((hXb.alloc hXb.size _)).drew)
                  simp only [List.length_cons, List.length_nil, Nat.zero_add] at happ hown
                  have HA := Lib.hid happ
                  have HOC := Lib.hid (And.intro hown hbel)
                  clear happ hown hbel hX cX
                  go_wp2_with fail
                  go_region_held_law (fun w' => w'.cell? ⟨g, go + j, none⟩ = some (.int .i64 b)) (first | assumption | go_keep) (refine step_append rfl (.tmp 126) (.tmp 136) 24 rfl rfl _ _ _ _ rfl rfl HA.out ?_)
                  go_wp2
                  exact ⟨⟨j + 1, mo + 1, pc', P', _, rfl, by go_num, by omega, by omega, Lib.hid ⟨HOC.out.1, HOC.out.2, fun h => by omega, fun _ => by rw [show j + 1 - 1 = j by omega, ← HBV.out]; exact HMID.out⟩⟩, by simp [intOf]; omega⟩
        · have hjm2 : j = m := by omega
          subst hjm2
          have HFIN := Lib.hid (show out = setOf f from mid_last (by have h := HO.out.2.2.2 hm0; rwa [HFI.out.2] at h))
          go_wp2
          go_ret
          exact ⟨Po, mo, pco, rfl, by rw [← HFIN.out]; exact row_base HO.out.1 (fun x hx => Nat.le_trans HWR.out.size (row_lt HO.out.1 hx).1), HWR.out.trans (HO.out.2.1.mono HWR.out.size)⟩
end Go.Proofs.YtaapbmdojkjphaaGreat
