/- Sets of code points in plain words: which numbers a list of ranges has, when it is a set, that a set is told by its numbers, how many they are. -/
import Derived.Test.YtegcebgoiocakaaDoorA02
import Derived.Test.YtegcebgoiocakaaDoorRows
import Derived.WalkKit
import Derived.BigQuiet
import Derived.BigRegion
namespace Go.Proofs.YtegcebgoiocakaaDoor
open Go Go.RowKit
set_option linter.unusedVariables false

/-- Is r in one of the ranges, and a code point's number? -/
def hasL (s : List (Int × Int)) (r : Int) : Bool := s.any fun p => decide (p.1 ≤ r ∧ r ≤ p.2 ∧ 0 ≤ r ∧ r ≤ 1114111)
/-- From lo on: rising, none touching the next one. -/
def CanonF : Int → List (Int × Int) → Prop
  | _, [] => True
  | lo, p :: s => lo ≤ p.1 ∧ p.1 ≤ p.2 ∧ p.2 ≤ 1114111 ∧ CanonF (p.2 + 2) s
def Canon (s : List (Int × Int)) : Prop := CanonF 0 s

theorem hasL_nil (r : Int) : hasL [] r = false := rfl
theorem hasL_cons (p : Int × Int) (s : List (Int × Int)) (r : Int) : hasL (p :: s) r = (decide (p.1 ≤ r ∧ r ≤ p.2 ∧ 0 ≤ r ∧ r ≤ 1114111) || hasL s r) := rfl
theorem hasL_append (a b : List (Int × Int)) (r : Int) : hasL (a ++ b) r = (hasL a r || hasL b r) := by simp [hasL]
theorem hasL_iff (s : List (Int × Int)) (r : Int) : hasL s r = true ↔ ∃ p ∈ s, p.1 ≤ r ∧ r ≤ p.2 ∧ 0 ≤ r ∧ r ≤ 1114111 := by simp [hasL]
theorem hasL_in {s : List (Int × Int)} {r : Int} (h : hasL s r = true) : 0 ≤ r ∧ r ≤ 1114111 := by
  obtain ⟨p, _, h1⟩ := (hasL_iff s r).1 h
  omega
theorem CanonF.mono : ∀ {s : List (Int × Int)} {lo lo' : Int}, CanonF lo s → lo' ≤ lo → CanonF lo' s
  | [], _, _, _, _ => trivial
  | p :: s, lo, lo', h, hl => ⟨by have := h.1; omega, h.2⟩
/-- Nothing of it lies below where it begins. -/
theorem CanonF.ge : ∀ {s : List (Int × Int)} {lo r : Int}, CanonF lo s → hasL s r = true → lo ≤ r
  | [], _, _, _, h => by cases h
  | p :: s, lo, r, hc, h => by
    obtain ⟨h1, h2, h3, h4⟩ := hc
    rw [hasL_cons, Bool.or_eq_true, decide_eq_true_eq] at h
    rcases h with h | h
    · omega
    · have := CanonF.ge h4 h; omega
/-- A set is told by its numbers. -/
theorem canon_eq : ∀ (a b : List (Int × Int)) (lo : Int), 0 ≤ lo → CanonF lo a → CanonF lo b → (∀ r, hasL a r = hasL b r) → a = b
  | [], [], _, _, _, _, _ => rfl
  | [], q :: b, lo, h0, _, hb, h => by
    have h1 := h q.1
    obtain ⟨h2, h3, h4, h5⟩ := hb
    rw [hasL_nil, hasL_cons, decide_eq_true (by omega)] at h1
    cases h1
  | p :: a, [], lo, h0, ha, _, h => by
    have h1 := h p.1
    obtain ⟨h2, h3, h4, h5⟩ := ha
    rw [hasL_nil, hasL_cons, decide_eq_true (by omega)] at h1
    cases h1
  | p :: a, q :: b, lo, h0, ha, hb, h => by
    obtain ⟨a1, a2, a3, a4⟩ := ha
    obtain ⟨b1, b2, b3, b4⟩ := hb
    have key : ∀ (x y : Int × Int) (s t : List (Int × Int)), lo ≤ x.1 → x.1 ≤ x.2 → x.2 ≤ 1114111 → lo ≤ y.1 → y.1 ≤ y.2 → CanonF (y.2 + 2) t → (∀ r, hasL (x :: s) r = hasL (y :: t) r) → y.1 ≤ x.1 := by
      intro x y s t x1 x2 x3 y1 y2 hy he
      have h1 := he x.1
      rw [hasL_cons, decide_eq_true (by omega), Bool.true_or, hasL_cons] at h1
      have h2 := h1.symm
      rw [Bool.or_eq_true, decide_eq_true_eq] at h2
      rcases h2 with h2 | h2
      · omega
      · have := hy.ge h2; omega
    have e1 : p.1 = q.1 := by
      have k1 := key p q a b a1 a2 a3 b1 b2 b4 h
      have k2 := key q p b a b1 b2 b3 a1 a2 a4 fun r => (h r).symm
      omega
    have key2 : ∀ (x y : Int × Int) (s t : List (Int × Int)), x.1 = y.1 → lo ≤ x.1 → x.1 ≤ x.2 → y.2 ≤ 1114111 → CanonF (x.2 + 2) s → (∀ r, hasL (x :: s) r = hasL (y :: t) r) → y.2 ≤ x.2 := by
      intro x y s t exy x1 x2 y3 hx he
      rcases Int.lt_or_le x.2 y.2 with hlt | hle
      · have h1 := he (x.2 + 1)
        rw [hasL_cons y, decide_eq_true (by omega), Bool.true_or, hasL_cons, Bool.or_eq_true, decide_eq_true_eq] at h1
        rcases h1 with h1 | h1
        · omega
        · have := hx.ge h1; omega
      · exact hle
    have e2 : p.2 = q.2 := by
      have k1 := key2 p q a b e1 a1 a2 b3 a4 h
      have k2 := key2 q p b a e1.symm b1 b2 a3 b4 fun r => (h r).symm
      omega
    have epq : p = q := Prod.ext e1 e2
    subst epq
    have ht : ∀ r, hasL a r = hasL b r := by
      intro r
      have h1 := h r
      rw [hasL_cons, hasL_cons] at h1
      rcases Int.lt_or_le r (p.2 + 2) with hlt | hle
      · have ha' : hasL a r = false := by
          cases hx : hasL a r with
          | false => rfl
          | true => have := a4.ge hx; omega
        have hb' : hasL b r = false := by
          cases hx : hasL b r with
          | false => rfl
          | true => have := b4.ge hx; omega
        rw [ha', hb']
      · rw [decide_eq_false (by omega), Bool.false_or, Bool.false_or] at h1
        exact h1
    rw [canon_eq a b (p.2 + 2) (by omega) a4 b4 ht]
theorem canon_one {a b : List (Int × Int)} (ha : Canon a) (hb : Canon b) (h : ∀ r, hasL a r = hasL b r) : a = b := canon_eq a b 0 (Int.le_refl _) ha hb h

/-- How many numbers. -/
def countL (s : List (Int × Int)) : Int := s.foldr (fun p n => (p.2 - p.1 + 1) + n) 0
theorem countL_cons (p : Int × Int) (s : List (Int × Int)) : countL (p :: s) = (p.2 - p.1 + 1) + countL s := rfl
/-- How many of the first N numbers. -/
def cardL (N : Nat) (f : Int → Bool) : Nat := (List.range N).countP fun k : Nat => f (k : Int)
theorem cardL_succ (N : Nat) (f : Int → Bool) : cardL (N + 1) f = cardL N f + (if f (N : Int) = true then 1 else 0) := by
  unfold cardL
  rw [List.range_succ, List.countP_append, List.countP_singleton]
theorem cardL_or (f g : Int → Bool) : ∀ N, cardL N (fun r => f r || g r) + cardL N (fun r => f r && g r) = cardL N f + cardL N g
  | 0 => rfl
  | N + 1 => by
    have := cardL_or f g N
    rw [cardL_succ, cardL_succ, cardL_succ, cardL_succ]
    cases f (N : Int) <;> cases g (N : Int) <;> simp <;> omega
theorem cardL_not (f : Int → Bool) : ∀ N, cardL N f + cardL N (fun r => !f r) = N
  | 0 => rfl
  | N + 1 => by
    have := cardL_not f N
    rw [cardL_succ, cardL_succ]
    cases f (N : Int) <;> simp <;> omega
theorem cardL_congr {f g : Int → Bool} : ∀ N : Nat, (∀ k : Nat, k < N → f (k : Int) = g (k : Int)) → cardL N f = cardL N g
  | 0, _ => rfl
  | N + 1, h => by
    rw [cardL_succ, cardL_succ, cardL_congr N fun k hk => h k (by omega), h N (by omega)]
theorem cardL_range (a b : Nat) (h : a ≤ b) : ∀ N : Nat, cardL N (fun r => decide ((a : Int) ≤ r ∧ r ≤ (b : Int))) = min N (b + 1) - min N a
  | 0 => by simp [cardL]
  | N + 1 => by
    rw [cardL_succ, cardL_range a b h N]
    by_cases hN : a ≤ N ∧ N ≤ b
    · rw [if_pos (by simp; omega)]; omega
    · rw [if_neg (by simp; omega)]; omega
/-- A set's count is how many code points it has. -/
theorem count_card (N : Nat) (hN : N = 1114112) : ∀ (s : List (Int × Int)) (lo : Int), 0 ≤ lo → CanonF lo s → countL s = (cardL N (hasL s) : Int)
  | [], _, _, _ => by
    have : cardL N (hasL []) = 0 := by
      unfold cardL
      rw [List.countP_eq_zero]
      intro k _ h
      cases h
    rw [this]; rfl
  | p :: s, lo, h0, ⟨h1, h2, h3, h4⟩ => by
    have ih := count_card N hN s (p.2 + 2) (by omega) h4
    rw [countL_cons, ih]
    obtain ⟨a, ha⟩ : ∃ a : Nat, p.1 = (a : Int) := ⟨p.1.toNat, by omega⟩
    obtain ⟨b, hb⟩ : ∃ b : Nat, p.2 = (b : Int) := ⟨p.2.toNat, by omega⟩
    have e1 : cardL N (hasL (p :: s)) = cardL N (fun r => decide ((a : Int) ≤ r ∧ r ≤ (b : Int)) || hasL s r) := by
      refine cardL_congr N fun k hk => ?_
      rw [hasL_cons, ha, hb]
      congr 1
      apply decide_eq_decide.2
      omega
    have e2 := cardL_or (fun r => decide ((a : Int) ≤ r ∧ r ≤ (b : Int))) (hasL s) N
    have e3 : cardL N (fun r => decide ((a : Int) ≤ r ∧ r ≤ (b : Int)) && hasL s r) = 0 := by
      unfold cardL
      rw [List.countP_eq_zero]
      intro k _ hk
      rw [Bool.and_eq_true, decide_eq_true_eq] at hk
      have := h4.ge hk.2
      omega
    have e4 := cardL_range a b (by omega) N
    rw [e1]
    omega
theorem count_or {a b o n : List (Int × Int)} (ha : Canon a) (hb : Canon b) (ho : Canon o) (hn : Canon n) (h1 : ∀ r, hasL o r = (hasL a r || hasL b r)) (h2 : ∀ r, hasL n r = (hasL a r && hasL b r)) : countL o + countL n = countL a + countL b := by
  rw [count_card _ rfl o 0 (Int.le_refl _) ho, count_card _ rfl n 0 (Int.le_refl _) hn, count_card _ rfl a 0 (Int.le_refl _) ha, count_card _ rfl b 0 (Int.le_refl _) hb]
  have := cardL_or (hasL a) (hasL b) 1114112
  have e1 : cardL 1114112 (hasL o) = cardL 1114112 (fun r => hasL a r || hasL b r) := cardL_congr _ fun k _ => h1 k
  have e2 : cardL 1114112 (hasL n) = cardL 1114112 (fun r => hasL a r && hasL b r) := cardL_congr _ fun k _ => h2 k
  rw [e1, e2]
  generalize cardL 1114112 _ = x at this ⊢
  omega
theorem count_not {a n : List (Int × Int)} (ha : Canon a) (hn : Canon n) (h : ∀ r, hasL n r = (decide (0 ≤ r ∧ r ≤ 1114111) && !hasL a r)) : countL a + countL n = 1114112 := by
  rw [count_card _ rfl a 0 (Int.le_refl _) ha, count_card _ rfl n 0 (Int.le_refl _) hn]
  have := cardL_not (hasL a) 1114112
  have e : cardL 1114112 (hasL n) = cardL 1114112 (fun r => !hasL a r) := cardL_congr _ fun k hk => by rw [h, decide_eq_true (by omega), Bool.true_and]
  rw [e]
  omega
end Go.Proofs.YtegcebgoiocakaaDoor
/- Ranges as values: rows of them, and what they read as. -/
namespace Go.Proofs.YtegcebgoiocakaaDoor
open Go Go.RowKit
set_option linter.unusedVariables false
set_option maxRecDepth 20000

def cellsG (s : List (Int × Int)) : List Value := s.flatMap fun p => [.int .i64 p.1, .int .i64 p.2]
theorem cellsG_length (s : List (Int × Int)) : (cellsG s).length = s.length * 2 := by
  induction s with
  | nil => rfl
  | cons p s ih =>
    show ([_, _] ++ cellsG s).length = _
    rw [List.length_append, ih]
    simp
    omega
theorem cellsG_append (a b : List (Int × Int)) : cellsG (a ++ b) = cellsG a ++ cellsG b := by simp [cellsG]
theorem cellsG_at : ∀ (s : List (Int × Int)) (j : Nat), j < s.length → (cellsG s)[j * 2]? = some (.int .i64 (s.getD j (0, 0)).1) ∧ (cellsG s)[j * 2 + 1]? = some (.int .i64 (s.getD j (0, 0)).2)
  | [], j, h => by simp at h
  | p :: s, 0, _ => ⟨rfl, rfl⟩
  | p :: s, j + 1, h => by
    have ih := cellsG_at s j (by simpa using h)
    have e1 : (j + 1) * 2 = j * 2 + 2 := by omega
    show ([.int .i64 p.1, .int .i64 p.2] ++ cellsG s)[(j + 1) * 2]? = _ ∧ ([.int .i64 p.1, .int .i64 p.2] ++ cellsG s)[(j + 1) * 2 + 1]? = _
    rw [List.getElem?_append_right (by simp; omega), List.getElem?_append_right (by simp; omega), e1]
    simpa using ih

/-- The slice of ranges at A with n elements reads as s. -/
def RowG (w : World) (A : Option Addr) (n : Nat) (s : List (Int × Int)) : Prop :=
  s.length = n ∧ (0 < n → ∃ b o, A = some ⟨b, o, none⟩ ∧ b < w.heap.size ∧ ∀ j, j < n →
    w.cell? ⟨b, o + j * 2, none⟩ = some (.int .i64 (s.getD j (0, 0)).1) ∧ w.cell? ⟨b, o + j * 2 + 1, none⟩ = some (.int .i64 (s.getD j (0, 0)).2))
section
variable {w w' : World} {A : Option Addr} {n : Nat} {s : List (Int × Int)}
theorem RowG.nil_ : RowG w A 0 [] := ⟨rfl, fun h => absurd h (by omega)⟩
theorem RowG.drewN (h : RowG w A n s) (q : Nat) : RowG (w.drewN q) A n s := h
theorem RowG.below (h : RowG w A n s) {B : Nat} (hb : Below B w w') (hB : w.heap.size ≤ B) : RowG w' A n s := by
  refine ⟨h.1, fun hn => ?_⟩
  obtain ⟨b, o, hA, hlt, hc⟩ := h.2 hn
  refine ⟨b, o, hA, Nat.lt_of_lt_of_le hlt hb.size, fun j hj => ?_⟩
  rw [hb.cell (p := ⟨b, o + j * 2, none⟩) (show b < B by omega), hb.cell (p := ⟨b, o + j * 2 + 1, none⟩) (show b < B by omega)]
  exact hc j hj
end
theorem rowG_of_own {w : World} {B : Nat} {V : Value} {s : List (Int × Int)} {n : Nat} (h : w.ownsRow B 51 2 V n (cellsG s)) (hl : s.length = n) : ∃ A c, V = .slice A n c ∧ RowG w A n s ∧ n ≤ c ∧ c ≤ maxLen := by
  rcases h.2 with ⟨rfl, rfl⟩ | ⟨g, cap, cur, rfl, hB, hg, hnc, hcm, hcs, ht⟩
  · exact ⟨none, 0, rfl, ⟨hl, fun h => absurd h (by omega)⟩, Nat.le_refl _, Nat.zero_le _⟩
  · refine ⟨_, cap, rfl, ⟨hl, fun hn => ⟨g, 0, rfl, (Array.getElem?_eq_some_iff.1 hg).1, fun j hj => ?_⟩⟩, hnc, hcm⟩
    obtain ⟨e1, e2⟩ := cellsG_at s j (by omega)
    refine ⟨?_, ?_⟩
    · rw [cell_of_row w g (0 + j * 2) cur 51 (0, 0) hg, ← e1, ← ht, List.getElem?_take_of_lt (by omega), Array.getElem?_toList, Nat.zero_add]
    · rw [cell_of_row w g (0 + j * 2 + 1) cur 51 (0, 0) hg, ← e2, ← ht, List.getElem?_take_of_lt (by omega), Array.getElem?_toList, Nat.zero_add]

theorem info_rng : (Tryd.prog.info? 51).map (fun i => (i.zero, i.size, i.bytes)) = some (some (.agg #[.int .i64 0, .int .i64 0]), 2, 16) := by kernel_rfl
theorem rng_cells : Tryd.prog.cellsOf 51 = 2 := by kernel_rfl

end Go.Proofs.YtegcebgoiocakaaDoor
/- Rows of values that the call owns: what hangs on no type. -/
namespace Go.Proofs.YtegcebgoiocakaaDoor
open Go Go.RowKit
set_option linter.unusedVariables false

section
variable {w w' : World} {B : Nat} {e : TypeId} {v : Value} {n : Nat} {xs : List Value}
theorem own_kept (h : w.ownsRow B e 1 v n xs) (hb : Below w.heap.size w w') : w'.ownsRow B e 1 v n xs := by
  refine ⟨h.1, ?_⟩
  rcases h.2 with h2 | ⟨g, cap, cur, hv, hbg, hg, hr⟩
  · exact .inl h2
  · exact .inr ⟨g, cap, cur, hv, hbg, (hb.block g (Array.getElem?_eq_some_iff.1 hg).1).trans hg, hr⟩
theorem own_mono1 (h : w.ownsRow B e 1 v n xs) {B' : Nat} (hb : B' ≤ B) : w.ownsRow B' e 1 v n xs := by
  refine ⟨h.1, ?_⟩
  rcases h.2 with h2 | ⟨g, cap, cur, hv, hbg, hg⟩
  · exact .inl h2
  · exact .inr ⟨g, cap, cur, hv, Nat.le_trans hb hbg, hg⟩
theorem own_alloc (h : w.ownsRow B e 1 v n xs) (o : Obj) : (w.alloc o).ownsRow B e 1 v n xs :=
  own_kept h ((Below.refl _ _).alloc (Nat.le_refl _) o)
/-- What the call owns stays where a row of another type grows. -/
theorem own_other {B' : Nat} {e' : TypeId} {V : Value} {m : Nat} {ys : List Value} (h : w.ownsRow B e 1 v n xs) (h' : w.ownsRow B' e' 1 V m ys) (hne : e ≠ e') (hg : w.grownBy w' V.ownBlock) : w'.ownsRow B e 1 v n xs := by
  refine ⟨h.1, ?_⟩
  rcases h.2 with h2 | ⟨g, cap, cur, hv, hbg, hw, hr⟩
  · exact .inl h2
  · refine .inr ⟨g, cap, cur, hv, hbg, ?_, hr⟩
    have hlt := (Array.getElem?_eq_some_iff.1 hw).1
    obtain ⟨_, _, _, _, hk⟩ := hg
    rw [hk g hlt ?_]
    · exact hw
    · intro hc
      rcases h'.2 with ⟨rfl, _⟩ | ⟨g', cap', cur', rfl, _, hw', _⟩
      · cases hc
      · simp [Value.ownBlock] at hc
        subst hc
        rw [hw] at hw'
        injection hw' with hw'
        injection hw' with _ ht _
        exact hne ht
/-- Its cells. -/
theorem own_cells (h : w.ownsRow B e 1 v n xs) :
    ∃ A c, v = .slice A n c ∧ n ≤ c ∧ c ≤ maxLen ∧ (A = none → n = 0 ∧ c = 0) ∧ (∀ a, A = some a → ∃ g, a = ⟨g, 0, none⟩ ∧ B ≤ g ∧ g < w.heap.size ∧ (∀ j u, xs[j]? = some u → w.cell? ⟨g, j, none⟩ = some u) ∧ ∀ j, w.frozen? ⟨g, j, none⟩ = false) := by
  rcases h.2 with ⟨rfl, rfl⟩ | ⟨g, cap, cur, rfl, hB, hg, hnc, hcm, hcs, ht⟩
  · exact ⟨none, 0, rfl, Nat.le_refl _, Nat.zero_le _, fun _ => ⟨rfl, rfl⟩, fun a ha => by cases ha⟩
  · refine ⟨_, cap, rfl, hnc, hcm, (fun hA => by cases hA), fun a ha => ?_⟩
    injection ha with ha
    refine ⟨g, ha.symm, hB, (Array.getElem?_eq_some_iff.1 hg).1, fun j u hj => ?_, fun j => by simp [World.frozen?, hg]⟩
    have hjn : j < n := by
      have := h.1
      rcases Nat.lt_or_ge j xs.length with h1 | h1
      · omega
      · rw [List.getElem?_eq_none h1] at hj; cases hj
    rw [cell_of_row w g j cur e (0, 0) hg]
    have h1 : (cur.toList.take (n * 1))[j]? = xs[j]? := by rw [ht]
    rw [List.getElem?_take_of_lt (by omega), Array.getElem?_toList] at h1
    rw [h1, hj]
end

set_option maxRecDepth 20000 in
/-- append of one value to a row that the call owns: the value lies in a block of its own, just made. -/
theorem push_run (t e : TypeId) (z : Value) (bytes : Nat) (ht : Tryd.prog.underlying t = some (.slice e)) (hinfo : (Tryd.prog.info? e).map (fun i => (i.zero, i.size, i.bytes)) = some (some z, 1, bytes)) (hzs : z.cells.size = 1)
    (w : World) (base : Nat) (v : Value) (n : Nat) (xs : List Value) (hown : w.ownsRow base e 1 v n xs) (x : Value) (hx : x.oneCell' = true) (hsz : (n + 1) * bytes ≤ 140737488355328) (h63 : n + 1 ≤ maxLen) (hbase : base ≤ w.heap.size) :
    ∃ v' w', (Builtin.append_ #[t, t] t #[v, .slice (some ⟨w.heap.size, 0, none⟩) 1 1]).run Tryd.prog (w.alloc (.cells #[x] e)) = .ok v' w' ∧ w'.ownsRow base e 1 v' (n + 1) (xs ++ [x]) ∧ (w.alloc (.cells #[x] e)).grownBy w' v.ownBlock := by
  obtain ⟨i0, hi, hz0, hz1, hz2⟩ := info_parts hinfo
  obtain ⟨v', w', h1, h2, h3, _⟩ := run_append_own (P := Tryd.prog) (w.alloc (.cells #[x] e)) base t t e i0 z 1 bytes ht hi hz0 hz1 hz2 hzs (by decide) v n xs (own_alloc hown _) ⟨w.heap.size, 0, none⟩ 1 1 [x] rfl
    (by
      intro j u hu
      rcases j with _ | j
      · injection hu with hu
        subst hu
        rw [show (⟨w.heap.size, 0, none⟩ : Addr).add 0 = ⟨w.heap.size, 0, none⟩ by rfl, cell_of_row (w.alloc (.cells #[x] e)) w.heap.size 0 #[x] e (0, 0) (heap_alloc_new w _)]
        rfl
      · simp at hu) (by simpa using hx) h63 hsz (by simp; omega)
  exact ⟨v', w', h1, h2, h3⟩

section
variable {w w' : World} {B : Nat} {e : TypeId} {s : Nat} {v : Value} {n : Nat} {xs : List Value}
/-- A row stays where its block stays. -/
theorem row_keep (h : w.ownsRow B e s v n xs) (hk : ∀ k, k < w.heap.size → v.ownBlock = some k → w'.heap[k]? = w.heap[k]?) : w'.ownsRow B e s v n xs := by
  refine ⟨h.1, ?_⟩
  rcases h.2 with h2 | ⟨g, cap, cur, rfl, hbg, hg, hr⟩
  · exact .inl h2
  · exact .inr ⟨g, cap, cur, rfl, hbg, (hk g (Array.getElem?_eq_some_iff.1 hg).1 rfl).trans hg, hr⟩
theorem row_base (h : w.ownsRow B e s v n xs) {B' : Nat} (hB : ∀ k, v.ownBlock = some k → B' ≤ k) : w.ownsRow B' e s v n xs := by
  refine ⟨h.1, ?_⟩
  rcases h.2 with h2 | ⟨g, cap, cur, rfl, hbg, hg⟩
  · exact .inl h2
  · exact .inr ⟨g, cap, cur, rfl, hB g rfl, hg⟩
theorem row_lt (h : w.ownsRow B e s v n xs) {k : Nat} (hk : v.ownBlock = some k) : B ≤ k ∧ k < w.heap.size := by
  rcases h.2 with ⟨rfl, _⟩ | ⟨g, cap, cur, rfl, hbg, hg, _⟩
  · cases hk
  · injection hk with hk
    subst hk
    exact ⟨hbg, (Array.getElem?_eq_some_iff.1 hg).1⟩
/-- Rows of different types lie in different blocks. -/
theorem row_ne_blk (h : w.ownsRow B e s v n xs) {g : Nat} {cs : Array Value} {t : TypeId} {f : Nat × Nat} (hg : w.heap[g]? = some (.cells cs t f)) (hne : e ≠ t) : v.ownBlock ≠ some g := by
  rcases h.2 with ⟨rfl, _⟩ | ⟨b, cap, cur, rfl, hb, hr, _⟩
  · simp [Value.ownBlock]
  · simp [Value.ownBlock]
    rintro rfl
    rw [hr] at hg
    injection hg with hg
    injection hg with _ ht _
    exact hne ht
theorem row_ne_row {B' : Nat} {e' : TypeId} {s' : Nat} {v' : Value} {n' : Nat} {xs' : List Value} (h : w.ownsRow B e s v n xs) (h' : w.ownsRow B' e' s' v' n' xs') (hne : e ≠ e') {k : Nat} (hk : v'.ownBlock = some k) : v.ownBlock ≠ some k := by
  rcases h'.2 with ⟨rfl, _⟩ | ⟨b, cap, cur, rfl, hb, hr, _⟩
  · cases hk
  · injection hk with hk
    subst hk
    exact row_ne_blk h hr hne
end


theorem then_ {a b c : World} (h : Below a.heap.size a b) (k : Below b.heap.size b c) : Below a.heap.size a c := h.trans (Below.mono k h.size)
end Go.Proofs.YtegcebgoiocakaaDoor
/- The document's Ends: some whole numbers, in a row that is new. -/
namespace Go.Proofs.YtegcebgoiocakaaDoor
open Go Go.RowKit
set_option linter.unusedVariables false
set_option maxRecDepth 20000

theorem info_intG : (Tryd.prog.info? 3).map (fun i => (i.zero, i.size, i.bytes)) = some (some (.int .i64 0), 1, 8) := by kernel_rfl
/-- append of one whole number to a row of the call's own, and where the row lies then. -/
theorem pushI_at {W w : World} {P : Option Addr} {q pc : Nat} {xs : List Int} (hown : w.ownsRow W.heap.size 3 1 (.slice P q pc) q (xs.map (.int .i64))) (hq : q ≤ 100000) (hb : Below W.heap.size W w) (x : Int) :
    ∃ P' pc' w', (Builtin.append_ #[34, 34] 34 #[.slice P q pc, .slice (some ⟨w.heap.size, 0, none⟩) 1 1]).run Tryd.prog (w.alloc (.cells #[.int .i64 x] 3)) = .ok (.slice P' (q + 1) pc') w' ∧
      w'.ownsRow W.heap.size 3 1 (.slice P' (q + 1) pc') (q + 1) ((xs ++ [x]).map (.int .i64)) ∧ Below W.heap.size W w' ∧
      ∀ g, g < w.heap.size → (Value.slice P q pc).ownBlock ≠ some g → (Value.slice P' (q + 1) pc').ownBlock ≠ some g ∧ w'.heap[g]? = w.heap[g]? := by
  obtain ⟨i0, hi, hz0, hz1, hz2⟩ := info_parts info_intG
  have hb1 := hb.alloc hb.size (.cells #[.int .i64 x] 3)
  obtain ⟨V', w', h1, h2, h3, _, h4⟩ := run_append_own_at (P := Tryd.prog) (w.alloc (.cells #[.int .i64 x] 3)) W.heap.size 34 34 3 i0 (.int .i64 0) 1 8 Tryd.underlying34 hi hz0 hz1 hz2 rfl (by decide) _ q _ (own_alloc hown _) ⟨w.heap.size, 0, none⟩ 1 1 [.int .i64 x] rfl
    (by
      intro j u hu
      rcases j with _ | j
      · injection hu with hu
        subst hu
        rw [show (⟨w.heap.size, 0, none⟩ : Addr).add 0 = ⟨w.heap.size, 0, none⟩ by rfl, cell_of_row (w.alloc (.cells #[.int .i64 x] 3)) w.heap.size 0 #[.int .i64 x] 3 (0, 0) (heap_alloc_new w _)]
        rfl
      · simp at hu) (by simp [Value.oneCell']) (by unfold maxLen; omega) (by omega) hb1.size
  have hb' : Below W.heap.size W w' := hb1.grown h3 hb1.size (by intro k hk; exact (row_lt hown hk).1)
  have hz : (w.alloc (.cells #[.int .i64 x] 3)).heap.size = w.heap.size + 1 := by simp
  have key : ∀ g, g < w.heap.size → (Value.slice P q pc).ownBlock ≠ some g → V'.ownBlock ≠ some g ∧ w'.heap[g]? = w.heap[g]? := by
    intro g hg hne
    refine ⟨fun e => ?_, ?_⟩
    · rcases h4 with h4 | h4
      · exact hne (h4 ▸ e)
      · rw [h4] at e
        injection e with e
        omega
    · rw [h3.block g (by omega) fun e => hne e.symm]
      exact Below.heap_alloc w _ g hg
  rw [show xs.map (Value.int .i64) ++ [.int .i64 x] = (xs ++ [x]).map (.int .i64) by simp] at h2
  rcases h2.2 with ⟨rfl, h0⟩ | ⟨g, cap, cur, rfl, _⟩
  · omega
  · exact ⟨_, _, w', h1, h2, hb', key⟩

end Go.Proofs.YtegcebgoiocakaaDoor
