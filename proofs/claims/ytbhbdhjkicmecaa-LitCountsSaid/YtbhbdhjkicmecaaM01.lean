/- Sets of code points in plain words: which numbers a list of ranges has, when it is a set, that a set is told by its numbers, how many they are. -/
import Derived.Test.YtbhbdhjkicmecaaRows
import Derived.WalkKit
import Derived.Lib.ItoaNum
namespace Go.Proofs.Ytbhbdhjkicmecaa
open Go Go.RowKit
set_option linter.unusedVariables false

/-- Is r in one of the ranges, and a code point's number? -/
def hasL (s : List (Int × Int)) (r : Int) : Bool := s.any fun p => decide (p.1 ≤ r ∧ r ≤ p.2 ∧ 0 ≤ r ∧ r ≤ 1114111)
/-- From lo on: rising, none touching the next one. -/
def CanonF : Int → List (Int × Int) → Prop
  | _, [] => True
  | lo, p :: s => lo ≤ p.1 ∧ p.1 ≤ p.2 ∧ p.2 ≤ 1114111 ∧ CanonF (p.2 + 2) s
def Canon (s : List (Int × Int)) : Prop := CanonF 0 s

theorem hasL_nil (r : Int) : hasL [] r = false := rfl
theorem hasL_cons (p : Int × Int) (s : List (Int × Int)) (r : Int) : hasL (p :: s) r = (decide (p.1 ≤ r ∧ r ≤ p.2 ∧ 0 ≤ r ∧ r ≤ 1114111) || hasL s r) := rfl
theorem hasL_append (a b : List (Int × Int)) (r : Int) : hasL (a ++ b) r = (hasL a r || hasL b r) := by simp [hasL]
theorem hasL_iff (s : List (Int × Int)) (r : Int) : hasL s r = true ↔ ∃ p ∈ s, p.1 ≤ r ∧ r ≤ p.2 ∧ 0 ≤ r ∧ r ≤ 1114111 := by simp [hasL]
theorem hasL_in {s : List (Int × Int)} {r : Int} (h : hasL s r = true) : 0 ≤ r ∧ r ≤ 1114111 := by
  obtain ⟨p, _, h1⟩ := (hasL_iff s r).1 h
  omega
theorem CanonF.mono : ∀ {s : List (Int × Int)} {lo lo' : Int}, CanonF lo s → lo' ≤ lo → CanonF lo' s
  | [], _, _, _, _ => trivial
  | p :: s, lo, lo', h, hl => ⟨by have := h.1; omega, h.2⟩
/-- Nothing of it lies below where it begins. -/
theorem CanonF.ge : ∀ {s : List (Int × Int)} {lo r : Int}, CanonF lo s → hasL s r = true → lo ≤ r
  | [], _, _, _, h => by cases h
  | p :: s, lo, r, hc, h => by
    obtain ⟨h1, h2, h3, h4⟩ := hc
    rw [hasL_cons, Bool.or_eq_true, decide_eq_true_eq] at h
    rcases h with h | h
    · omega
    · have := CanonF.ge h4 h; omega
/-- A set is told by its numbers. -/
theorem canon_eq : ∀ (a b : List (Int × Int)) (lo : Int), 0 ≤ lo → CanonF lo a → CanonF lo b → (∀ r, hasL a r = hasL b r) → a = b
  | [], [], _, _, _, _, _ => rfl
  | [], q :: b, lo, h0, _, hb, h => by
    have h1 := h q.1
    obtain ⟨h2, h3, h4, h5⟩ := hb
    rw [hasL_nil, hasL_cons, decide_eq_true (by omega)] at h1
    cases h1
  | p :: a, [], lo, h0, ha, _, h => by
    have h1 := h p.1
    obtain ⟨h2, h3, h4, h5⟩ := ha
    rw [hasL_nil, hasL_cons, decide_eq_true (by omega)] at h1
    cases h1
  | p :: a, q :: b, lo, h0, ha, hb, h => by
    obtain ⟨a1, a2, a3, a4⟩ := ha
    obtain ⟨b1, b2, b3, b4⟩ := hb
    have key : ∀ (x y : Int × Int) (s t : List (Int × Int)), lo ≤ x.1 → x.1 ≤ x.2 → x.2 ≤ 1114111 → lo ≤ y.1 → y.1 ≤ y.2 → CanonF (y.2 + 2) t → (∀ r, hasL (x :: s) r = hasL (y :: t) r) → y.1 ≤ x.1 := by
      intro x y s t x1 x2 x3 y1 y2 hy he
      have h1 := he x.1
      rw [hasL_cons, decide_eq_true (by omega), Bool.true_or, hasL_cons] at h1
      have h2 := h1.symm
      rw [Bool.or_eq_true, decide_eq_true_eq] at h2
      rcases h2 with h2 | h2
      · omega
      · have := hy.ge h2; omega
    have e1 : p.1 = q.1 := by
      have k1 := key p q a b a1 a2 a3 b1 b2 b4 h
      have k2 := key q p b a b1 b2 b3 a1 a2 a4 fun r => (h r).symm
      omega
    have key2 : ∀ (x y : Int × Int) (s t : List (Int × Int)), x.1 = y.1 → lo ≤ x.1 → x.1 ≤ x.2 → y.2 ≤ 1114111 → CanonF (x.2 + 2) s → (∀ r, hasL (x :: s) r = hasL (y :: t) r) → y.2 ≤ x.2 := by
      intro x y s t exy x1 x2 y3 hx he
      rcases Int.lt_or_le x.2 y.2 with hlt | hle
      · have h1 := he (x.2 + 1)
        rw [hasL_cons y, decide_eq_true (by omega), Bool.true_or, hasL_cons, Bool.or_eq_true, decide_eq_true_eq] at h1
        rcases h1 with h1 | h1
        · omega
        · have := hx.ge h1; omega
      · exact hle
    have e2 : p.2 = q.2 := by
      have k1 := key2 p q a b e1 a1 a2 b3 a4 h
      have k2 := key2 q p b a e1.symm b1 b2 a3 b4 fun r => (h r).symm
      omega
    have epq : p = q := Prod.ext e1 e2
    subst epq
    have ht : ∀ r, hasL a r = hasL b r := by
      intro r
      have h1 := h r
      rw [hasL_cons, hasL_cons] at h1
      rcases Int.lt_or_le r (p.2 + 2) with hlt | hle
      · have ha' : hasL a r = false := by
          cases hx : hasL a r with
          | false => rfl
          | true => have := a4.ge hx; omega
        have hb' : hasL b r = false := by
          cases hx : hasL b r with
          | false => rfl
          | true => have := b4.ge hx; omega
        rw [ha', hb']
      · rw [decide_eq_false (by omega), Bool.false_or, Bool.false_or] at h1
        exact h1
    rw [canon_eq a b (p.2 + 2) (by omega) a4 b4 ht]
theorem canon_one {a b : List (Int × Int)} (ha : Canon a) (hb : Canon b) (h : ∀ r, hasL a r = hasL b r) : a = b := canon_eq a b 0 (Int.le_refl _) ha hb h

/-- How many numbers. -/
def countL (s : List (Int × Int)) : Int := s.foldr (fun p n => (p.2 - p.1 + 1) + n) 0
theorem countL_cons (p : Int × Int) (s : List (Int × Int)) : countL (p :: s) = (p.2 - p.1 + 1) + countL s := rfl
/-- How many of the first N numbers. -/
def cardL (N : Nat) (f : Int → Bool) : Nat := (List.range N).countP fun k : Nat => f (k : Int)
theorem cardL_succ (N : Nat) (f : Int → Bool) : cardL (N + 1) f = cardL N f + (if f (N : Int) = true then 1 else 0) := by
  unfold cardL
  rw [List.range_succ, List.countP_append, List.countP_singleton]
theorem cardL_or (f g : Int → Bool) : ∀ N, cardL N (fun r => f r || g r) + cardL N (fun r => f r && g r) = cardL N f + cardL N g
  | 0 => rfl
  | N + 1 => by
    have := cardL_or f g N
    rw [cardL_succ, cardL_succ, cardL_succ, cardL_succ]
    cases f (N : Int) <;> cases g (N : Int) <;> simp <;> omega
theorem cardL_not (f : Int → Bool) : ∀ N, cardL N f + cardL N (fun r => !f r) = N
  | 0 => rfl
  | N + 1 => by
    have := cardL_not f N
    rw [cardL_succ, cardL_succ]
    cases f (N : Int) <;> simp <;> omega
theorem cardL_congr {f g : Int → Bool} : ∀ N : Nat, (∀ k : Nat, k < N → f (k : Int) = g (k : Int)) → cardL N f = cardL N g
  | 0, _ => rfl
  | N + 1, h => by
    rw [cardL_succ, cardL_succ, cardL_congr N fun k hk => h k (by omega), h N (by omega)]
theorem cardL_range (a b : Nat) (h : a ≤ b) : ∀ N : Nat, cardL N (fun r => decide ((a : Int) ≤ r ∧ r ≤ (b : Int))) = min N (b + 1) - min N a
  | 0 => by simp [cardL]
  | N + 1 => by
    rw [cardL_succ, cardL_range a b h N]
    by_cases hN : a ≤ N ∧ N ≤ b
    · rw [if_pos (by simp; omega)]; omega
    · rw [if_neg (by simp; omega)]; omega
/-- A set's count is how many code points it has. -/
theorem count_card (N : Nat) (hN : N = 1114112) : ∀ (s : List (Int × Int)) (lo : Int), 0 ≤ lo → CanonF lo s → countL s = (cardL N (hasL s) : Int)
  | [], _, _, _ => by
    have : cardL N (hasL []) = 0 := by
      unfold cardL
      rw [List.countP_eq_zero]
      intro k _ h
      cases h
    rw [this]; rfl
  | p :: s, lo, h0, ⟨h1, h2, h3, h4⟩ => by
    have ih := count_card N hN s (p.2 + 2) (by omega) h4
    rw [countL_cons, ih]
    obtain ⟨a, ha⟩ : ∃ a : Nat, p.1 = (a : Int) := ⟨p.1.toNat, by omega⟩
    obtain ⟨b, hb⟩ : ∃ b : Nat, p.2 = (b : Int) := ⟨p.2.toNat, by omega⟩
    have e1 : cardL N (hasL (p :: s)) = cardL N (fun r => decide ((a : Int) ≤ r ∧ r ≤ (b : Int)) || hasL s r) := by
      refine cardL_congr N fun k hk => ?_
      rw [hasL_cons, ha, hb]
      congr 1
      apply decide_eq_decide.2
      omega
    have e2 := cardL_or (fun r => decide ((a : Int) ≤ r ∧ r ≤ (b : Int))) (hasL s) N
    have e3 : cardL N (fun r => decide ((a : Int) ≤ r ∧ r ≤ (b : Int)) && hasL s r) = 0 := by
      unfold cardL
      rw [List.countP_eq_zero]
      intro k _ hk
      rw [Bool.and_eq_true, decide_eq_true_eq] at hk
      have := h4.ge hk.2
      omega
    have e4 := cardL_range a b (by omega) N
    rw [e1]
    omega
theorem count_or {a b o n : List (Int × Int)} (ha : Canon a) (hb : Canon b) (ho : Canon o) (hn : Canon n) (h1 : ∀ r, hasL o r = (hasL a r || hasL b r)) (h2 : ∀ r, hasL n r = (hasL a r && hasL b r)) : countL o + countL n = countL a + countL b := by
  rw [count_card _ rfl o 0 (Int.le_refl _) ho, count_card _ rfl n 0 (Int.le_refl _) hn, count_card _ rfl a 0 (Int.le_refl _) ha, count_card _ rfl b 0 (Int.le_refl _) hb]
  have := cardL_or (hasL a) (hasL b) 1114112
  have e1 : cardL 1114112 (hasL o) = cardL 1114112 (fun r => hasL a r || hasL b r) := cardL_congr _ fun k _ => h1 k
  have e2 : cardL 1114112 (hasL n) = cardL 1114112 (fun r => hasL a r && hasL b r) := cardL_congr _ fun k _ => h2 k
  rw [e1, e2]
  generalize cardL 1114112 _ = x at this ⊢
  omega
theorem count_not {a n : List (Int × Int)} (ha : Canon a) (hn : Canon n) (h : ∀ r, hasL n r = (decide (0 ≤ r ∧ r ≤ 1114111) && !hasL a r)) : countL a + countL n = 1114112 := by
  rw [count_card _ rfl a 0 (Int.le_refl _) ha, count_card _ rfl n 0 (Int.le_refl _) hn]
  have := cardL_not (hasL a) 1114112
  have e : cardL 1114112 (hasL n) = cardL 1114112 (fun r => !hasL a r) := cardL_congr _ fun k hk => by rw [h, decide_eq_true (by omega), Bool.true_and]
  rw [e]
  omega
end Go.Proofs.Ytbhbdhjkicmecaa
/- Trees in plain words: rows of nodes, how great they are, how they are shown. -/
namespace Go.Proofs.Ytbhbdhjkicmecaa
open Go Go.RowKit
set_option linter.unusedVariables false

/-- A row of nodes: the first one's fields, its kids, and the nodes behind it. -/
inductive Wood where
  | nil
  | cons (op : Int) (set : List (Int × Int)) (mn mx : Int) (kids next : Wood)

namespace Wood
def len : Wood → Nat
  | nil => 0
  | cons _ _ _ _ _ x => x.len + 1
/-- How many nodes, the kids' too. -/
def size : Wood → Nat
  | nil => 0
  | cons _ _ _ _ k x => 1 + k.size + x.size
def app : Wood → Wood → Wood
  | nil, b => b
  | cons o s a z k x, b => cons o s a z k (x.app b)
/-- The j-th node alone. -/
def nth : Wood → Nat → Wood
  | nil, _ => nil
  | cons o s a z k _, 0 => cons o s a z k nil
  | cons _ _ _ _ _ x, j + 1 => x.nth j
/-- The first k nodes. -/
def take : Wood → Nat → Wood
  | nil, _ => nil
  | _, 0 => nil
  | cons o s a z k x, j + 1 => cons o s a z k (x.take j)
def same : Wood → Wood → Bool
  | nil, nil => true
  | cons o s a z k x, cons o' s' a' z' k' x' => (o == o' && (a == a' && (z == z' && (s == s' && (k.same k' && x.same x')))))
  | _, _ => false
/-- One node's depth below it. -/
def deep : Wood → Nat
  | nil => 0
  | cons _ _ _ _ k x => max (k.deep + 1) x.deep
/-- The greatest number of kids or ranges that a node has. -/
def wide : Wood → Nat
  | nil => 0
  | cons _ s _ _ k x => max (max k.len s.length) (max k.wide x.wide)

theorem same_iff : ∀ a b : Wood, a.same b = true ↔ a = b
  | nil, nil => by simp [same]
  | nil, cons .. => by simp [same]
  | cons .., nil => by simp [same]
  | cons o s a z k x, cons o' s' a' z' k' x' => by
    rw [same, Bool.and_eq_true, Bool.and_eq_true, Bool.and_eq_true, Bool.and_eq_true, Bool.and_eq_true, same_iff k k', same_iff x x']
    simp only [beq_iff_eq, cons.injEq]
    constructor
    · rintro ⟨h1, h2, h3, h4, h5, h6⟩; exact ⟨h1, h4, h2, h3, h5, h6⟩
    · rintro ⟨h1, h4, h2, h3, h5, h6⟩; exact ⟨h1, h2, h3, h4, h5, h6⟩
theorem same_refl (a : Wood) : a.same a = true := (same_iff a a).2 rfl
theorem same_len {a b : Wood} (h : a.len ≠ b.len) : a.same b = false := by
  cases hx : a.same b with
  | false => rfl
  | true => rw [(same_iff a b).1 hx] at h; exact absurd rfl h
theorem nth_len : ∀ (a : Wood) (j : Nat), j < a.len → (a.nth j).len = 1
  | nil, _, h => by simp [len] at h
  | cons .., 0, _ => rfl
  | cons _ _ _ _ _ x, j + 1, h => nth_len x j (by simp only [len] at h; omega)
theorem same_nth : ∀ (a b : Wood), a.len = b.len → (a.same b = true ↔ ∀ j, j < a.len → (a.nth j).same (b.nth j) = true)
  | nil, nil, _ => by simp [same, len]
  | nil, cons .., h => by simp [len] at h
  | cons .., nil, h => by simp [len] at h
  | cons o s a z k x, cons o' s' a' z' k' x', h => by
    have ih := same_nth x x' (by simp only [len] at h; omega)
    constructor
    · intro hs j hj
      rw [(same_iff _ _).1 hs]
      exact same_refl _
    · intro hj
      have h0 := hj 0 (by simp [len])
      have h1 := ih.2 fun j hx => hj (j + 1) (by simp only [len]; omega)
      rw [same_iff] at h0 h1 ⊢
      simp only [nth, cons.injEq] at h0
      obtain ⟨e1, e2, e3, e4, e5, _⟩ := h0
      rw [e1, e2, e3, e4, e5, h1]
theorem take_len : ∀ (a : Wood) (j : Nat), j ≤ a.len → (a.take j).len = j
  | nil, 0, _ => rfl
  | nil, _ + 1, h => by simp [len] at h
  | cons .., 0, _ => rfl
  | cons _ _ _ _ _ x, j + 1, h => by simp only [take, len]; rw [take_len x j (by simp only [len] at h; omega)]
theorem take_all : ∀ (a : Wood), a.take a.len = a
  | nil => rfl
  | cons _ _ _ _ _ x => by simp only [len, take]; rw [take_all x]
theorem take_zero : ∀ (a : Wood), a.take 0 = nil
  | nil => rfl
  | cons .. => rfl
theorem take_succ : ∀ (a : Wood) (j : Nat), j < a.len → a.take (j + 1) = (a.take j).app (a.nth j)
  | nil, _, h => by simp [len] at h
  | cons _ _ _ _ _ x, 0, _ => by simp only [take, app, nth, take_zero]
  | cons _ _ _ _ _ x, j + 1, h => by simp only [take, app, nth]; rw [← take_succ x j (by simp only [len] at h; omega)]
theorem size_app : ∀ a b : Wood, (a.app b).size = a.size + b.size
  | nil, b => by simp [app, size]
  | cons _ _ _ _ k x, b => by simp only [app, size]; rw [size_app x b]; omega
theorem len_app : ∀ a b : Wood, (a.app b).len = a.len + b.len
  | nil, b => by simp [app, len]
  | cons _ _ _ _ k x, b => by simp only [app, len]; rw [len_app x b]; omega
theorem app_nil : ∀ a : Wood, a.app nil = a
  | nil => rfl
  | cons _ _ _ _ k x => by simp only [app]; rw [app_nil x]
theorem app_assoc : ∀ a b c : Wood, (a.app b).app c = a.app (b.app c)
  | nil, _, _ => rfl
  | cons _ _ _ _ _ x, b, c => by simp only [app]; rw [app_assoc x b c]
theorem one_of_len : ∀ {a : Wood}, a.len = 1 → ∃ o s x z k, a = cons o s x z k nil
  | nil, h => by simp [len] at h
  | cons o s x z k nil, _ => ⟨o, s, x, z, k, rfl⟩
  | cons _ _ _ _ _ (cons ..), h => by simp [len] at h
end Wood

/-! ### How they are shown -/
def digB (n : Int) : ByteArray := ⟨(Lib.itoa n).toArray⟩
def strB (l : List UInt8) : ByteArray := ⟨l.toArray⟩
/-- One behind the other, with a text between. -/
def joinB (sep : ByteArray) : List ByteArray → ByteArray
  | [] => ByteArray.empty
  | [x] => x
  | x :: y :: l => x ++ (sep ++ joinB sep (y :: l))
theorem ba_assoc (a b c : ByteArray) : a ++ b ++ c = a ++ (b ++ c) := ByteArray.append_assoc
theorem ba_nil (a : ByteArray) : a ++ ByteArray.empty = a := ByteArray.append_empty
theorem nil_ba (a : ByteArray) : ByteArray.empty ++ a = a := ByteArray.empty_append
theorem joinB_snoc (sep y : ByteArray) : ∀ l : List ByteArray, joinB sep (l ++ [y]) = if l = [] then y else joinB sep l ++ sep ++ y
  | [] => rfl
  | [x] => by simp [joinB, ba_assoc]
  | x :: z :: l => by
    have ih := joinB_snoc sep y (z :: l)
    rw [if_neg (by simp)] at ih ⊢
    show x ++ (sep ++ joinB sep ((z :: l) ++ [y])) = _
    rw [ih]
    simp only [joinB, ba_assoc]
def rngB (p : Int × Int) : ByteArray := if p.2 = p.1 then digB p.1 else digB p.1 ++ (strB [45] ++ digB p.2)
def setB (s : List (Int × Int)) : ByteArray := joinB (strB [32]) (s.map rngB)
theorem setB_snoc (s : List (Int × Int)) (p : Int × Int) : setB (s ++ [p]) = if s = [] then rngB p else setB s ++ strB [32] ++ rngB p := by
  unfold setB
  rw [List.map_append, List.map_cons, List.map_nil, joinB_snoc]
  simp
/-- A node by its Op, with its kids' text. -/
def nodeB (op : Int) (s : List (Int × Int)) (mn mx : Int) (kids : ByteArray) : ByteArray :=
  if op = 0 then strB [101, 109, 112, 116, 121]
  else if op = 1 then strB [99, 104, 97, 114, 123] ++ setB s ++ strB [125]
  else if op = 2 then strB [98, 101, 103, 105, 110]
  else if op = 3 then strB [101, 110, 100]
  else if op = 4 then strB [99, 97, 116, 40] ++ kids ++ strB [41]
  else if op = 5 then strB [97, 108, 116, 40] ++ kids ++ strB [41]
  else if op = 6 then strB [114, 101, 112, 123] ++ digB mn ++ strB [32] ++ digB mx ++ strB [125, 40] ++ kids ++ strB [41]
  else strB [63]
def showW : Wood → List ByteArray
  | .nil => []
  | .cons op s mn mx k x => nodeB op s mn mx (joinB (strB [44]) (showW k)) :: showW x
def kidsB (k : Wood) : ByteArray := joinB (strB [44]) (showW k)
theorem showW_app : ∀ a b : Wood, showW (a.app b) = showW a ++ showW b
  | .nil, _ => rfl
  | .cons _ _ _ _ _ x, b => by simp only [Wood.app, showW]; rw [showW_app x b]; rfl
theorem showW_len : ∀ a : Wood, (showW a).length = a.len
  | .nil => rfl
  | .cons _ _ _ _ _ x => by simp only [showW, Wood.len, List.length_cons]; rw [showW_len x]
/-- One node's text. -/
def oneB (a : Wood) : ByteArray := kidsB a
theorem kidsB_take (a : Wood) (j : Nat) (h : j < a.len) : kidsB (a.take (j + 1)) = if j = 0 then oneB (a.nth j) else kidsB (a.take j) ++ strB [44] ++ oneB (a.nth j) := by
  have h1 := Wood.nth_len a j h
  obtain ⟨o, s, x, z, k, e⟩ := Wood.one_of_len h1
  unfold kidsB oneB
  rw [Wood.take_succ a j h, showW_app, e]
  simp only [showW]
  rw [joinB_snoc]
  have hl := showW_len (a.take j)
  rw [Wood.take_len a j (by omega)] at hl
  by_cases hj : j = 0
  · rw [if_pos hj, if_pos (List.eq_nil_of_length_eq_zero (by omega))]
    simp [kidsB, showW, joinB]
  · rw [if_neg hj, if_neg (by intro e2; rw [e2] at hl; simp at hl; omega)]
    simp [kidsB, showW, joinB]
end Go.Proofs.Ytbhbdhjkicmecaa
/- Patterns in plain words, over code points: sets, tokens, trees. -/
namespace Go.Proofs.Ytbhbdhjkicmecaa
open Go Go.RowKit
set_option linter.unusedVariables false

/-! ### The set of the numbers that a test says -/
def setGo (f : Int → Bool) : Nat → List (Int × Int)
  | 0 => []
  | k + 1 =>
    if f (1114112 - ((k + 1 : Nat) : Int)) = true then
      match setGo f k with
      | [] => [(1114112 - ((k + 1 : Nat) : Int), 1114112 - ((k + 1 : Nat) : Int))]
      | p :: s => if p.1 = 1114112 - ((k + 1 : Nat) : Int) + 1 then (1114112 - ((k + 1 : Nat) : Int), p.2) :: s else (1114112 - ((k + 1 : Nat) : Int), 1114112 - ((k + 1 : Nat) : Int)) :: p :: s
    else setGo f k
theorem setGo_is (f : Int → Bool) : ∀ k : Nat, k ≤ 1114112 → CanonF (1114112 - (k : Int)) (setGo f k) ∧ ∀ r, hasL (setGo f k) r = (decide (1114112 - (k : Int) ≤ r ∧ r ≤ 1114111) && f r)
  | 0, _ => ⟨trivial, fun r => by rw [setGo, hasL_nil, decide_eq_false (by omega), Bool.false_and]⟩
  | k + 1, hk => by
    obtain ⟨h1, h2⟩ := setGo_is f k (by omega)
    rw [setGo]
    obtain ⟨L, hL⟩ : ∃ L : Int, L = 1114112 - ((k + 1 : Nat) : Int) := ⟨_, rfl⟩
    have e : (1114112 : Int) - (k : Int) = L + 1 := by omega
    rw [← hL]
    rw [e] at h1 h2
    have hL0 : 0 ≤ L ∧ L ≤ 1114111 := by omega
    obtain ⟨t, ht⟩ : ∃ t, t = setGo f k := ⟨_, rfl⟩
    rw [← ht] at h1 h2 ⊢
    clear ht
    by_cases hf : f L = true
    · rw [if_pos hf]
      have done : ∀ u, CanonF L u → (∀ r, hasL u r = (decide (r = L) || hasL t r)) → CanonF L u ∧ ∀ r, hasL u r = (decide (L ≤ r ∧ r ≤ 1114111) && f r) := by
        intro u hu hm
        refine ⟨hu, fun r => ?_⟩
        rw [hm r, h2 r]
        by_cases hr : r = L
        · subst hr
          rw [hf, decide_eq_true rfl, Bool.true_or, decide_eq_true (by omega), Bool.true_and]
        · rw [decide_eq_false hr, Bool.false_or]
          congr 1
          apply decide_eq_decide.2
          omega
      rcases t with _ | ⟨p, s⟩
      · refine done [(L, L)] ⟨Int.le_refl _, Int.le_refl _, hL0.2, trivial⟩ fun r => ?_
        rw [hasL_cons, hasL_nil, Bool.or_false, Bool.or_false]
        apply decide_eq_decide.2
        dsimp only
        omega
      · obtain ⟨q1, q2, q3, q4⟩ := h1
        by_cases hp : p.1 = L + 1
        · show CanonF L (if p.1 = L + 1 then _ else _) ∧ _
          dsimp only
          rw [if_pos hp]
          refine done ((L, p.2) :: s) ⟨Int.le_refl _, by dsimp only; omega, q3, q4⟩ fun r => ?_
          rw [hasL_cons, hasL_cons, ← Bool.or_assoc, ← Bool.decide_or]
          congr 1
          apply decide_eq_decide.2
          dsimp only
          omega
        · dsimp only
          rw [if_neg hp]
          refine done ((L, L) :: p :: s) ⟨Int.le_refl _, Int.le_refl _, hL0.2, by dsimp only; omega, q2, q3, q4⟩ fun r => ?_
          rw [hasL_cons]
          congr 1
          apply decide_eq_decide.2
          dsimp only
          omega
    · rw [if_neg hf]
      refine ⟨h1.mono (by omega), fun r => ?_⟩
      rw [h2 r]
      by_cases hr : r = L
      · subst hr
        rw [Bool.eq_false_iff.2 hf, Bool.and_false, Bool.and_false]
      · congr 1
        apply decide_eq_decide.2
        omega
/-- The set of the numbers from 0 to 10ffff for which f is true. -/
def setOf (f : Int → Bool) : List (Int × Int) := setGo f 1114112
theorem setOf_canon (f : Int → Bool) : Canon (setOf f) := (setGo_is f 1114112 (Nat.le_refl _)).1
theorem setOf_has (f : Int → Bool) (r : Int) : hasL (setOf f) r = (decide (0 ≤ r ∧ r ≤ 1114111) && f r) := (setGo_is f 1114112 (Nat.le_refl _)).2 r
attribute [irreducible] setOf
theorem setOf_one {f : Int → Bool} {s : List (Int × Int)} (hc : Canon s) (h : ∀ r, hasL s r = (decide (0 ≤ r ∧ r ≤ 1114111) && f r)) : s = setOf f :=
  canon_one hc (setOf_canon f) fun r => (h r).trans (setOf_has f r).symm

/-! ### Tokens -/
/-- A token: kind 0: one point of a set; 1: a bar, a parenthesis, a beginning, an end (r); 2: a count. -/
structure TokL where
  kind : Int
  r : Int
  set : List (Int × Int)
  mn : Int
  mx : Int
def tokC (s : List (Int × Int)) : TokL := ⟨0, 0, s, 0, 0⟩
def tokS (r : Int) : TokL := ⟨1, r, [], 0, 0⟩
def tokN (a b : Int) : TokL := ⟨2, 0, [], a, b⟩

def namedS (r : Int) : List (Int × Int) := if r = 100 then [(48, 57)] else if r = 119 then [(48, 57), (65, 90), (95, 95), (97, 122)] else if r = 115 then [(9, 13), (32, 32)] else []
/-- What stands for itself behind a backslash. -/
def signL : List Int := [46, 94, 36, 124, 40, 41, 91, 93, 123, 125, 42, 43, 63, 92, 45]
/-- What stands behind a backslash: its set; is it a point? -/
def escL (r : Int) : Option (List (Int × Int) × Bool) :=
  if r = 100 ∨ r = 119 ∨ r = 115 then some (namedS r, false)
  else if r = 68 ∨ r = 87 ∨ r = 83 then some (setOf fun x => !hasL (namedS (r + 32)) x, false)
  else if r = 110 then some ([(10, 10)], true)
  else if r = 114 then some ([(13, 13)], true)
  else if r = 116 then some ([(9, 9)], true)
  else if r ∈ signL then some ([(r, r)], true)
  else none
/-- A point of a class, and what is behind it. -/
def ptL : List Int → Option (List (Int × Int) × Bool × List Int)
  | [] => none
  | r :: l =>
    if r = 91 ∨ r = 93 ∨ r = 94 ∨ r = 45 then none
    else if r = 92 then
      match l with
      | [] => none
      | e :: l' => (escL e).map fun p => (p.1, p.2, l')
    else some ([(r, r)], true, l)
/-- A part of a class, and what is behind it. -/
def partL (l : List Int) : Option (List (Int × Int) × List Int) :=
  match ptL l with
  | none => none
  | some (s, is, l1) =>
    match l1 with
    | 45 :: l2 =>
      if is = true then
        match ptL l2 with
        | some (t, true, l3) => if (t.headD (0, 0)).1 < (s.headD (0, 0)).1 then none else some ([((s.headD (0, 0)).1, (t.headD (0, 0)).1)], l3)
        | _ => none
      else some (s, l1)
    | _ => some (s, l1)
/-- The parts of a class: at least one, up to its end. -/
def partsL : Nat → List Int → List (Int × Int) → Bool → Option (List (Int × Int) × List Int)
  | 0, _, _, _ => none
  | f + 1, l, all, more =>
    match more, l with
    | true, 93 :: l' => some (all, l')
    | _, _ =>
      match partL l with
      | none => none
      | some (s, l1) => partsL f l1 (all ++ s) true
/-- A class behind its bracket. -/
def classL (l : List Int) : Option (List (Int × Int) × List Int) :=
  match l with
  | 94 :: l' => (partsL (l'.length + 1) l' [] false).map fun p => (setOf fun x => !hasL p.1 x, p.2)
  | _ => (partsL (l.length + 1) l [] false).map fun p => (setOf fun x => hasL p.1 x, p.2)
def isDig (r : Int) : Bool := decide (48 ≤ r) && decide (r ≤ 57)
/-- One or two digits. -/
def numL (l : List Int) : Option (Int × List Int) :=
  match l with
  | a :: b :: l' =>
    if isDig a = true then
      if isDig b = true then
        if 10 * (a - 48) + (b - 48) > 50 then none else some (10 * (a - 48) + (b - 48), l')
      else some (a - 48, b :: l')
    else none
  | [a] => if isDig a = true then some (a - 48, []) else none
  | [] => none
/-- A count behind its brace. -/
def braceL (l : List Int) : Option (TokL × List Int) :=
  match numL l with
  | some (a, 125 :: l') => some (tokN a a, l')
  | some (a, 44 :: 125 :: l') => some (tokN a (-1), l')
  | some (a, 44 :: l') =>
    match numL l' with
    | some (b, 125 :: l'') => if b < a then none else some (tokN a b, l'')
    | _ => none
  | _ => none
/-- The first token, and what is behind it. -/
def tokL : List Int → Option (TokL × List Int)
  | [] => none
  | r :: l =>
    if r = 124 ∨ r = 40 ∨ r = 41 ∨ r = 94 ∨ r = 36 then some (tokS r, l)
    else if r = 42 then some (tokN 0 (-1), l)
    else if r = 43 then some (tokN 1 (-1), l)
    else if r = 63 then some (tokN 0 1, l)
    else if r = 123 then braceL l
    else if r = 46 then some (tokC [(0, 9), (11, 1114111)], l)
    else if r = 91 then (classL l).map fun p => (tokC p.1, p.2)
    else if r = 92 then
      match l with
      | [] => none
      | e :: l' => (escL e).map fun p => (tokC p.1, l')
    else if r = 93 ∨ r = 125 then none
    else some (tokC [(r, r)], l)
def toksL : Nat → List Int → Option (List TokL)
  | _, [] => some []
  | 0, _ :: _ => none
  | f + 1, r :: l =>
    match tokL (r :: l) with
    | none => none
    | some (t, l') => (toksL f l').map fun ts => t :: ts

/-! ### Trees -/
def leaf (op : Int) (s : List (Int × Int)) : Wood := .cons op s 0 0 .nil .nil
def zeroN : Wood := leaf 0 []
/-- One node, or more of them under an Op. -/
def oneN (op : Int) (l : Wood) : Wood :=
  match l with
  | .nil => zeroN
  | .cons o s a z k .nil => .cons o s a z k .nil
  | .cons o s a z k x => .cons op [] 0 0 (.cons o s a z k x) .nil
/-- The last node put under a count. -/
def repLast (mn mx : Int) : Wood → Wood
  | .nil => .nil
  | .cons o s a z k .nil => .cons 6 [] mn mx (.cons o s a z k .nil) .nil
  | .cons o s a z k x => .cons o s a z k (repLast mn mx x)
/-- Alternatives that are through. -/
def finN (alts pieces : Wood) : Wood := oneN 5 (alts.app (oneN 4 pieces))
/-- Tokens gone through one by one: what stands in open parentheses is kept for when they are closed. -/
def runT (D : Nat) : List TokL → List (Wood × Wood) → Wood → Wood → Bool → Option Wood
  | [], [], a, p, _ => some (finN a p)
  | [], _ :: _, _, _, _ => none
  | t :: l, st, a, p, loose =>
    if t.kind = 0 then runT D l st a (p.app (leaf 1 t.set)) true
    else if t.kind = 2 then (if loose = true then runT D l st a (repLast t.mn t.mx p) false else none)
    else if t.r = 124 then runT D l st (a.app (oneN 4 p)) .nil false
    else if t.r = 94 then runT D l st a (p.app (leaf 2 [])) false
    else if t.r = 36 then runT D l st a (p.app (leaf 3 [])) false
    else if t.r = 41 then
      match st with
      | [] => none
      | (a', p') :: st' => runT D l st' a' (p'.app (finN a p)) true
    else if D + st.length < 10 then runT D l ((a, p) :: st) .nil .nil false
    else none
/-- A pattern's tree, out of its code points. -/
def treeL (l : List Int) : Option Wood := (toksL l.length l).bind fun ts => runT 0 ts [] .nil .nil false
end Go.Proofs.Ytbhbdhjkicmecaa
/- Trees of tokens: an open parenthesis, what stands in it, and what is behind it. -/
namespace Go.Proofs.Ytbhbdhjkicmecaa
open Go Go.RowKit
set_option linter.unusedVariables false

def isOpen (t : TokL) : Bool := t.kind == 1 && t.r == 40
def isShut (t : TokL) : Bool := t.kind == 1 && t.r == 41
/-- Where the parenthesis that stands open c times more is closed. -/
def closeL : Nat → List TokL → Option Nat
  | _, [] => none
  | c, t :: l =>
    if isOpen t = true then (closeL (c + 1) l).map (· + 1)
    else if isShut t = true then (match c with | 0 => some 0 | c + 1 => (closeL c l).map (· + 1))
    else (closeL c l).map (· + 1)
theorem closeL_cons (c : Nat) (t : TokL) (l : List TokL) : closeL c (t :: l) = if isOpen t = true then (closeL (c + 1) l).map (· + 1) else if isShut t = true then (match c with | 0 => some 0 | c + 1 => (closeL c l).map (· + 1)) else (closeL c l).map (· + 1) := by
  cases c <;> rfl
/-- What a token may be. -/
def TokOk (t : TokL) : Prop := t.kind = 0 ∨ t.kind = 2 ∨ (t.kind = 1 ∧ (t.r = 124 ∨ t.r = 94 ∨ t.r = 36 ∨ t.r = 40 ∨ t.r = 41))

theorem closeL_lt : ∀ (l : List TokL) (c j : Nat), closeL c l = some j → j < l.length
  | [], _, _, h => by cases h
  | t :: l, c, j, h => by
    rw [closeL_cons] at h
    rw [List.length_cons]
    split at h
    · obtain ⟨i, hi, rfl⟩ := Option.map_eq_some_iff.1 h
      have := closeL_lt l _ i hi
      omega
    · split at h
      · rcases c with _ | c
        · injection h with h; omega
        · obtain ⟨i, hi, rfl⟩ := Option.map_eq_some_iff.1 h
          have := closeL_lt l _ i hi
          omega
      · obtain ⟨i, hi, rfl⟩ := Option.map_eq_some_iff.1 h
        have := closeL_lt l _ i hi
        omega

section
variable {D : Nat} {t : TokL} {l : List TokL} {st : List (Wood × Wood)} {a p : Wood} {lo : Bool}
theorem run_char (h : t.kind = 0) : runT D (t :: l) st a p lo = runT D l st a (p.app (leaf 1 t.set)) true := by
  cases st <;> simp [runT, h]
theorem run_count (h : t.kind = 2) : runT D (t :: l) st a p lo = if lo = true then runT D l st a (repLast t.mn t.mx p) false else none := by
  cases st <;> simp [runT, h]
theorem run_bar (h : t.kind = 1) (hr : t.r = 124) : runT D (t :: l) st a p lo = runT D l st (a.app (oneN 4 p)) .nil false := by
  cases st <;> simp [runT, h, hr]
theorem run_begin (h : t.kind = 1) (hr : t.r = 94) : runT D (t :: l) st a p lo = runT D l st a (p.app (leaf 2 [])) false := by
  cases st <;> simp [runT, h, hr]
theorem run_end (h : t.kind = 1) (hr : t.r = 36) : runT D (t :: l) st a p lo = runT D l st a (p.app (leaf 3 [])) false := by
  cases st <;> simp [runT, h, hr]
theorem run_shut_nil (h : t.kind = 1) (hr : t.r = 41) : runT D (t :: l) [] a p lo = none := by
  simp [runT, h, hr]
theorem run_shut (a' p' : Wood) (h : t.kind = 1) (hr : t.r = 41) : runT D (t :: l) ((a', p') :: st) a p lo = runT D l st a' (p'.app (finN a p)) true := by
  simp [runT, h, hr]
theorem run_paren (h : t.kind = 1) (hr : t.r = 40) : runT D (t :: l) st a p lo = if D + st.length < 10 then runT D l ((a, p) :: st) .nil .nil false else none := by
  cases st <;> simp [runT, h, hr]
theorem open_no (h : t.kind ≠ 1 ∨ t.r ≠ 40) : isOpen t = false := by
  unfold isOpen
  rcases h with h | h
  · simp [h]
  · simp [h]
theorem shut_no (h : t.kind ≠ 1 ∨ t.r ≠ 41) : isShut t = false := by
  unfold isShut
  rcases h with h | h
  · simp [h]
  · simp [h]
theorem close_other (c : Nat) (h1 : isOpen t = false) (h2 : isShut t = false) : closeL c (t :: l) = (closeL c l).map (· + 1) := by
  rw [closeL_cons, h1, h2]
  rfl
theorem close_open (c : Nat) (h : t.kind = 1) (hr : t.r = 40) : closeL c (t :: l) = (closeL (c + 1) l).map (· + 1) := by
  rw [closeL_cons]
  simp [isOpen, h, hr]
theorem close_shut (c : Nat) (h : t.kind = 1) (hr : t.r = 41) : closeL c (t :: l) = (match c with | 0 => some 0 | c + 1 => (closeL c l).map (· + 1)) := by
  rw [closeL_cons]
  simp [isOpen, isShut, h, hr]
end

theorem run_close (D : Nat) (a p : Wood) (st : List (Wood × Wood)) : ∀ (l : List TokL), (∀ t ∈ l, TokOk t) → ∀ (st' : List (Wood × Wood)) (x y : Wood) (lo : Bool) (j : Nat), closeL st'.length l = some j →
    runT D l (st' ++ (a, p) :: st) x y lo = (runT (D + 1 + st.length) (l.take j) st' x y lo).bind fun n => runT D (l.drop (j + 1)) st a (p.app n) true
  | [], _, _, _, _, _, _, h => by cases h
  | t :: l, hok, st', x, y, lo, j, h => by
    have hl : ∀ t ∈ l, TokOk t := fun t ht => hok t (List.mem_cons_of_mem _ ht)
    rcases hok t (by simp) with h0 | h2 | ⟨h1, hr | hr | hr | hr | hr⟩
    · rw [close_other _ (open_no (by omega)) (shut_no (by omega))] at h
      obtain ⟨i, hi, rfl⟩ := Option.map_eq_some_iff.1 h
      rw [List.take_succ_cons, run_char h0, run_char h0, run_close D a p st l hl st' _ _ _ i hi, List.drop_succ_cons]
    · rw [close_other _ (open_no (by omega)) (shut_no (by omega))] at h
      obtain ⟨i, hi, rfl⟩ := Option.map_eq_some_iff.1 h
      rw [List.take_succ_cons, run_count h2, run_count h2, List.drop_succ_cons]
      cases lo with
      | false => rfl
      | true => rw [if_pos rfl, if_pos rfl, run_close D a p st l hl st' _ _ _ i hi]
    · rw [close_other _ (open_no (by omega)) (shut_no (by omega))] at h
      obtain ⟨i, hi, rfl⟩ := Option.map_eq_some_iff.1 h
      rw [List.take_succ_cons, run_bar h1 hr, run_bar h1 hr, run_close D a p st l hl st' _ _ _ i hi, List.drop_succ_cons]
    · rw [close_other _ (open_no (by omega)) (shut_no (by omega))] at h
      obtain ⟨i, hi, rfl⟩ := Option.map_eq_some_iff.1 h
      rw [List.take_succ_cons, run_begin h1 hr, run_begin h1 hr, run_close D a p st l hl st' _ _ _ i hi, List.drop_succ_cons]
    · rw [close_other _ (open_no (by omega)) (shut_no (by omega))] at h
      obtain ⟨i, hi, rfl⟩ := Option.map_eq_some_iff.1 h
      rw [List.take_succ_cons, run_end h1 hr, run_end h1 hr, run_close D a p st l hl st' _ _ _ i hi, List.drop_succ_cons]
    · rw [close_open _ h1 hr] at h
      obtain ⟨i, hi, rfl⟩ := Option.map_eq_some_iff.1 h
      rw [List.take_succ_cons, run_paren h1 hr, run_paren h1 hr, List.drop_succ_cons, List.length_append, List.length_cons]
      by_cases hd : D + 1 + st.length + st'.length < 10
      · rw [if_pos hd, if_pos (by omega), ← List.cons_append, run_close D a p st l hl ((x, y) :: st') _ _ _ i (by simpa using hi)]
      · rw [if_neg hd, if_neg (by omega)]
        rfl
    · rw [close_shut _ h1 hr] at h
      rcases st' with _ | ⟨⟨u, v⟩, st'⟩
      · injection h with h
        subst h
        rw [List.nil_append, run_shut _ _ h1 hr]
        rfl
      · obtain ⟨i, hi, rfl⟩ := Option.map_eq_some_iff.1 h
        rw [List.take_succ_cons, List.cons_append, run_shut _ _ h1 hr, run_shut _ _ h1 hr, List.drop_succ_cons, run_close D a p st l hl st' _ _ _ i hi]

theorem run_open (D : Nat) (a p : Wood) (st : List (Wood × Wood)) : ∀ (l : List TokL), (∀ t ∈ l, TokOk t) → ∀ (st' : List (Wood × Wood)) (x y : Wood) (lo : Bool), closeL st'.length l = none →
    runT D l (st' ++ (a, p) :: st) x y lo = none
  | [], _, st', _, _, _, _ => by rcases st' with _ | ⟨q, st'⟩ <;> rfl
  | t :: l, hok, st', x, y, lo, h => by
    have hl : ∀ t ∈ l, TokOk t := fun t ht => hok t (List.mem_cons_of_mem _ ht)
    rcases hok t (by simp) with h0 | h2 | ⟨h1, hr | hr | hr | hr | hr⟩
    · rw [close_other _ (open_no (by omega)) (shut_no (by omega)), Option.map_eq_none_iff] at h
      rw [run_char h0, run_open D a p st l hl st' _ _ _ h]
    · rw [close_other _ (open_no (by omega)) (shut_no (by omega)), Option.map_eq_none_iff] at h
      rw [run_count h2, run_open D a p st l hl st' _ _ _ h]
      split <;> rfl
    · rw [close_other _ (open_no (by omega)) (shut_no (by omega)), Option.map_eq_none_iff] at h
      rw [run_bar h1 hr, run_open D a p st l hl st' _ _ _ h]
    · rw [close_other _ (open_no (by omega)) (shut_no (by omega)), Option.map_eq_none_iff] at h
      rw [run_begin h1 hr, run_open D a p st l hl st' _ _ _ h]
    · rw [close_other _ (open_no (by omega)) (shut_no (by omega)), Option.map_eq_none_iff] at h
      rw [run_end h1 hr, run_open D a p st l hl st' _ _ _ h]
    · rw [close_open _ h1 hr, Option.map_eq_none_iff] at h
      rw [run_paren h1 hr]
      split
      · rw [← List.cons_append]
        exact run_open D a p st l hl ((x, y) :: st') _ _ _ (by simpa using h)
      · rfl
    · rw [close_shut _ h1 hr] at h
      rcases st' with _ | ⟨⟨u, v⟩, st'⟩
      · cases h
      · simp only [List.length_cons, Option.map_eq_none_iff] at h
        rw [List.cons_append, run_shut _ _ h1 hr]
        exact run_open D a p st l hl st' _ _ _ h
end Go.Proofs.Ytbhbdhjkicmecaa
