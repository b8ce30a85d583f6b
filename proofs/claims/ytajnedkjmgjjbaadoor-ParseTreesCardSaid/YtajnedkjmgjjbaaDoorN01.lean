/- Trees that are shown alike. -/
import Derived.Test.YtajnedkjmgjjbaaDoorM05
import Derived.Test.YtajnedkjmgjjbaaDoorM06
import Derived.Test.YtajnedkjmgjjbaaDoorM10
import Derived.Test.YtajnedkjmgjjbaaDoorM15
import Derived.Test.YtajnedkjmgjjbaaDoorM17
import Derived.Test.YtajnedkjmgjjbaaDoorM19
namespace Go.Proofs.YtajnedkjmgjjbaaDoor
open Go Go.RowKit
set_option linter.unusedVariables false

/-! ### Digits -/
def digU (c : UInt8) : Bool := decide (48 ≤ c.toNat ∧ c.toNat ≤ 57)
theorem decDigits_dig : ∀ (N u : Nat), u ≤ N → Lib.decDigits u ≠ [] ∧ ∀ c ∈ Lib.decDigits u, digU c = true
  | N, u, h => by
    by_cases h10 : u < 10
    · rw [decDigits_small h10]
      refine ⟨by simp, fun c hc => ?_⟩
      rw [List.mem_singleton] at hc
      subst hc
      unfold digU
      have : (UInt8.ofNat (48 + u)).toNat = 48 + u := by simp; omega
      rw [this, decide_eq_true_iff]; omega
    · match N, h with
      | 0, h => omega
      | N + 1, h =>
        rw [decDigits_big h10]
        obtain ⟨h1, h2⟩ := decDigits_dig N (u / 10) (by omega)
        obtain ⟨h3, h4⟩ := decDigits_dig N (u % 10) (by omega)
        refine ⟨by simp [h1], fun c hc => ?_⟩
        rcases List.mem_append.1 hc with hc | hc
        · exact h2 c hc
        · exact h4 c hc
/-- A number out of its digits. -/
def readU (l : List UInt8) : Nat := l.foldl (fun a c => 10 * a + (c.toNat - 48)) 0
theorem readU_snoc (l : List UInt8) (c : UInt8) : readU (l ++ [c]) = 10 * readU l + (c.toNat - 48) := by simp [readU]
theorem readU_dec : ∀ (N u : Nat), u ≤ N → readU (Lib.decDigits u) = u
  | N, u, h => by
    by_cases h10 : u < 10
    · rw [decDigits_small h10]
      have : (UInt8.ofNat (48 + u)).toNat = 48 + u := by simp; omega
      simp only [readU, List.foldl, this]; omega
    · match N, h with
      | 0, h => omega
      | N + 1, h =>
        rw [decDigits_big h10, decDigits_small (u := u % 10) (by omega), readU_snoc, readU_dec N (u / 10) (by omega)]
        have : (UInt8.ofNat (48 + u % 10)).toNat = 48 + u % 10 := by simp; omega
        rw [this]; omega
theorem decDigits_inj {u v : Nat} (h : Lib.decDigits u = Lib.decDigits v) : u = v := by
  rw [← readU_dec u u (Nat.le_refl _), h, readU_dec v v (Nat.le_refl _)]
/-- Digits, and what stands behind them. -/
theorem digits_cut : ∀ (a b r t : List UInt8), (∀ c ∈ a, digU c = true) → (∀ c ∈ b, digU c = true) → (∀ c, r.head? = some c → digU c = false) → (∀ c, t.head? = some c → digU c = false) → a ++ r = b ++ t → a = b ∧ r = t
  | [], [], r, t, _, _, _, _, h => ⟨rfl, h⟩
  | [], y :: b, r, t, _, hb, hr, _, h => by
    rw [List.nil_append, List.cons_append] at h
    have := hr y (by rw [h]; rfl)
    rw [hb y (by simp)] at this; cases this
  | x :: a, [], r, t, ha, _, _, ht, h => by
    rw [List.nil_append, List.cons_append] at h
    have := ht x (by rw [← h]; rfl)
    rw [ha x (by simp)] at this; cases this
  | x :: a, y :: b, r, t, ha, hb, hr, ht, h => by
    rw [List.cons_append, List.cons_append] at h
    injection h with h1 h2
    obtain ⟨e1, e2⟩ := digits_cut a b r t (fun c hc => ha c (by simp [hc])) (fun c hc => hb c (by simp [hc])) hr ht h2
    exact ⟨by rw [h1, e1], e2⟩
def itoaOk (r : List UInt8) : Prop := ∀ c, r.head? = some c → digU c = false
theorem itoa_cut {n m : Int} {r t : List UInt8} (hr : itoaOk r) (ht : itoaOk t) (h : Lib.itoa n ++ r = Lib.itoa m ++ t) : n = m ∧ r = t := by
  have D := fun u => (decDigits_dig u u (Nat.le_refl _)).2
  have NE := fun u => (decDigits_dig u u (Nat.le_refl _)).1
  have no45 : ∀ (u : Nat) (l x : List UInt8), Lib.decDigits u ++ l ≠ 45 :: x := fun u l x e => by
    rcases hd : Lib.decDigits u with _ | ⟨c, ds⟩
    · exact NE u hd
    · rw [hd, List.cons_append] at e
      injection e with e _
      have := D u c (by rw [hd]; simp)
      rw [e] at this
      cases this
  unfold Lib.itoa at h
  by_cases hn : n < 0 <;> by_cases hm : m < 0
  · rw [if_pos hn, if_pos hm, List.cons_append, List.cons_append] at h
    injection h with _ h
    obtain ⟨e1, e2⟩ := digits_cut _ _ _ _ (D _) (D _) hr ht h
    have := decDigits_inj e1
    exact ⟨by omega, e2⟩
  · rw [if_pos hn, if_neg hm, List.cons_append] at h
    exact absurd h.symm (no45 _ _ _)
  · rw [if_neg hn, if_pos hm, List.cons_append] at h
    exact absurd h (no45 _ _ _)
  · rw [if_neg hn, if_neg hm] at h
    obtain ⟨e1, e2⟩ := digits_cut _ _ _ _ (D _) (D _) hr ht h
    have := decDigits_inj e1
    exact ⟨by omega, e2⟩
end Go.Proofs.YtajnedkjmgjjbaaDoor
/- Trees that are shown alike are the same. -/
namespace Go.Proofs.YtajnedkjmgjjbaaDoor
open Go Go.RowKit
set_option linter.unusedVariables false

def rngU (p : Int × Int) : List UInt8 := Lib.itoa p.1 ++ (if p.2 = p.1 then [] else 45 :: Lib.itoa p.2)
/-- Ranges, and the brace behind them. -/
def setU : List (Int × Int) → List UInt8 → List UInt8
  | [], r => r
  | [p], r => rngU p ++ r
  | p :: q :: s, r => rngU p ++ 32 :: setU (q :: s) r
theorem rng_cut {p q : Int × Int} {r t : List UInt8} (hr : ∀ c, r.head? = some c → c = 32 ∨ c = 125) (ht : ∀ c, t.head? = some c → c = 32 ∨ c = 125) (hr0 : r ≠ []) (ht0 : t ≠ []) (h : rngU p ++ r = rngU q ++ t) : p = q ∧ r = t := by
  have okR : ∀ (l : List UInt8), (∀ c, l.head? = some c → c = 32 ∨ c = 125) → itoaOk l := fun l hl c hc => by rcases hl c hc with rfl | rfl <;> rfl
  have ok45 : ∀ (l : List UInt8), itoaOk (45 :: l) := fun l c hc => by
    simp only [List.head?_cons, Option.some.injEq] at hc; subst hc; rfl
  obtain ⟨p1, p2⟩ := p
  obtain ⟨q1, q2⟩ := q
  unfold rngU at h
  dsimp only at h
  rw [List.append_assoc, List.append_assoc] at h
  have ok1 : itoaOk ((if p2 = p1 then [] else 45 :: Lib.itoa p2) ++ r) := by split <;> first | exact okR r hr | exact ok45 _
  have ok2 : itoaOk ((if q2 = q1 then [] else 45 :: Lib.itoa q2) ++ t) := by split <;> first | exact okR t ht | exact ok45 _
  obtain ⟨e1, e2⟩ := itoa_cut ok1 ok2 h
  subst e1
  by_cases hp : p2 = p1 <;> by_cases hq : q2 = p1
  · rw [if_pos hp, if_pos hq] at e2
    exact ⟨by rw [hp, hq], e2⟩
  · rw [if_pos hp, if_neg hq, List.nil_append, List.cons_append] at e2
    rcases hr 45 (by rw [e2]; rfl) with h | h <;> cases h
  · rw [if_neg hp, if_pos hq, List.nil_append, List.cons_append] at e2
    rcases ht 45 (by rw [← e2]; rfl) with h | h <;> cases h
  · rw [if_neg hp, if_neg hq, List.cons_append, List.cons_append] at e2
    injection e2 with _ e2
    obtain ⟨e3, e4⟩ := itoa_cut (okR r hr) (okR t ht) e2
    exact ⟨by rw [e3], e4⟩
theorem rngU_head (p : Int × Int) : ∃ c l, rngU p = c :: l ∧ c ≠ 125 := by
  unfold rngU Lib.itoa
  split
  · exact ⟨45, _, rfl, by decide⟩
  · obtain ⟨h1, h2⟩ := decDigits_dig p.1.toNat p.1.toNat (Nat.le_refl _)
    rcases hd : Lib.decDigits p.1.toNat with _ | ⟨c, l⟩
    · exact absurd hd h1
    · refine ⟨c, _, rfl, fun e => ?_⟩
      have := h2 c (by rw [hd]; simp)
      rw [e] at this
      cases this
theorem setU_cons (p : Int × Int) (s : List (Int × Int)) (r : List UInt8) : ∃ c l, setU (p :: s) r = c :: l ∧ c ≠ 125 := by
  obtain ⟨c, l, h, hc⟩ := rngU_head p
  rcases s with _ | ⟨q, s⟩
  · exact ⟨c, l ++ r, by rw [setU, h]; rfl, hc⟩
  · exact ⟨c, l ++ 32 :: setU (q :: s) r, by rw [setU, h]; rfl, hc⟩
theorem set_cut : ∀ (s u : List (Int × Int)) (r t : List UInt8), setU s (125 :: r) = setU u (125 :: t) → s = u ∧ r = t
  | [], [], r, t, h => by rw [setU, setU] at h; injection h with _ h; exact ⟨rfl, h⟩
  | [], q :: u, r, t, h => by
    obtain ⟨c, l, h1, h2⟩ := setU_cons q u (125 :: t)
    rw [h1, setU] at h
    injection h with h _
    exact absurd h.symm h2
  | p :: s, [], r, t, h => by
    obtain ⟨c, l, h1, h2⟩ := setU_cons p s (125 :: r)
    rw [h1, setU] at h
    injection h with h _
    exact absurd h h2
  | [p], [q], r, t, h => by
    rw [setU, setU] at h
    obtain ⟨e1, e2⟩ := rng_cut (by simp) (by simp) (by simp) (by simp) h
    injection e2 with _ e2
    exact ⟨by rw [e1], e2⟩
  | [p], q :: q' :: u, r, t, h => by
    rw [setU, setU] at h
    obtain ⟨e1, e2⟩ := rng_cut (by simp) (by simp) (by simp) (by simp) h
    injection e2 with e2 _
    cases e2
  | p :: p' :: s, [q], r, t, h => by
    rw [setU, setU] at h
    obtain ⟨e1, e2⟩ := rng_cut (by simp) (by simp) (by simp) (by simp) h
    injection e2 with e2 _
    cases e2
  | p :: p' :: s, q :: q' :: u, r, t, h => by
    rw [setU, setU] at h
    obtain ⟨e1, e2⟩ := rng_cut (by simp) (by simp) (by simp) (by simp) h
    injection e2 with _ e2
    obtain ⟨e3, e4⟩ := set_cut (p' :: s) (q' :: u) r t e2
    exact ⟨by rw [e1, e3], e4⟩

/-! ### Nodes -/
/-- What a parsed tree's node is. -/
def NodeOk (op : Int) (s : List (Int × Int)) (mn mx : Int) (k : Wood) : Prop :=
  (op = 0 ∧ s = [] ∧ mn = 0 ∧ mx = 0 ∧ k = .nil) ∨ (op = 1 ∧ mn = 0 ∧ mx = 0 ∧ k = .nil) ∨ (op = 2 ∧ s = [] ∧ mn = 0 ∧ mx = 0 ∧ k = .nil) ∨ (op = 3 ∧ s = [] ∧ mn = 0 ∧ mx = 0 ∧ k = .nil) ∨ (op = 4 ∧ s = [] ∧ mn = 0 ∧ mx = 0) ∨ (op = 5 ∧ s = [] ∧ mn = 0 ∧ mx = 0) ∨ (op = 6 ∧ s = [])
def PW : Wood → Prop
  | .nil => True
  | .cons op s mn mx k x => NodeOk op s mn mx k ∧ PW k ∧ PW x
/-- A node's text, its kids' text, and what stands behind. -/
def nodeU (op : Int) (s : List (Int × Int)) (mn mx : Int) (K : List UInt8 → List UInt8) (r : List UInt8) : List UInt8 :=
  if op = 0 then 101 :: 109 :: 112 :: 116 :: 121 :: r
  else if op = 1 then 99 :: 104 :: 97 :: 114 :: 123 :: setU s (125 :: r)
  else if op = 2 then 98 :: 101 :: 103 :: 105 :: 110 :: r
  else if op = 3 then 101 :: 110 :: 100 :: r
  else if op = 4 then 99 :: 97 :: 116 :: 40 :: K (41 :: r)
  else if op = 5 then 97 :: 108 :: 116 :: 40 :: K (41 :: r)
  else if op = 6 then 114 :: 101 :: 112 :: 123 :: (Lib.itoa mn ++ 32 :: (Lib.itoa mx ++ 125 :: 40 :: K (41 :: r)))
  else 63 :: r
mutual
def kidsU : Wood → List UInt8 → List UInt8
  | .nil, r => r
  | .cons op s mn mx k x, r => nodeU op s mn mx (kidsU k) (tailU x r)
def tailU : Wood → List UInt8 → List UInt8
  | .nil, r => r
  | .cons op s mn mx k x, r => 44 :: nodeU op s mn mx (kidsU k) (tailU x r)
end
theorem tailU_cons {x : Wood} (hx : x ≠ .nil) (r : List UInt8) : tailU x r = 44 :: kidsU x r := by
  rcases x with _ | ⟨o, s, a, z, k, y⟩
  · exact absurd rfl hx
  · rw [tailU, kidsU]
theorem node_head (op : Int) (s : List (Int × Int)) (mn mx : Int) (K : List UInt8 → List UInt8) (r : List UInt8) : ∃ c l, nodeU op s mn mx K r = c :: l ∧ c ≠ 41 ∧ c ≠ 44 := by
  unfold nodeU
  (repeat' split) <;> exact ⟨_, _, rfl, by decide, by decide⟩
/-- A row's text ends where a parenthesis closes, or the text. -/
def EndU (r : List UInt8) : Prop := ∀ c, r.head? = some c → c = 41
theorem row_inj : ∀ (T U : Wood) (r t : List UInt8), PW T → PW U → EndU r → EndU t → kidsU T r = kidsU U t → T = U ∧ r = t
  | .nil, .nil, r, t, _, _, _, _, h => by rw [kidsU, kidsU] at h; exact ⟨rfl, h⟩
  | .nil, .cons op s mn mx k x, r, t, _, _, hr, _, h => by
    rw [kidsU, kidsU] at h
    obtain ⟨c, l, h1, h2, _⟩ := node_head op s mn mx (kidsU k) (tailU x t)
    exact absurd (hr c (by rw [h, h1]; rfl)) h2
  | .cons op s mn mx k x, .nil, r, t, _, _, _, ht, h => by
    rw [kidsU, kidsU] at h
    obtain ⟨c, l, h1, h2, _⟩ := node_head op s mn mx (kidsU k) (tailU x r)
    exact absurd (ht c (by rw [← h, h1]; rfl)) h2
  | .cons op s mn mx k x, .cons op' s' mn' mx' k' x', r, t, ⟨n1, pk, px⟩, ⟨n2, pk', px'⟩, hr, ht, h => by
    rw [kidsU, kidsU] at h
    have key : (op = op' ∧ s = s' ∧ mn = mn' ∧ mx = mx' ∧ k = k') ∧ tailU x r = tailU x' t := by
      have e41 : ∀ l, EndU (41 :: l) := fun l c hc => by simp only [List.head?_cons, Option.some.injEq] at hc; exact hc.symm
      have ok32 : ∀ l : List UInt8, itoaOk (32 :: l) := fun l c hc => by simp only [List.head?_cons, Option.some.injEq] at hc; subst hc; rfl
      have ok125 : ∀ l : List UInt8, itoaOk (125 :: l) := fun l c hc => by simp only [List.head?_cons, Option.some.injEq] at hc; subst hc; rfl
      rcases n1 with ⟨rfl, rfl, rfl, rfl, rfl⟩ | ⟨rfl, rfl, rfl, rfl⟩ | ⟨rfl, rfl, rfl, rfl, rfl⟩ | ⟨rfl, rfl, rfl, rfl, rfl⟩ | ⟨rfl, rfl, rfl, rfl⟩ | ⟨rfl, rfl, rfl, rfl⟩ | ⟨rfl, rfl⟩ <;>
      rcases n2 with ⟨rfl, rfl, rfl, rfl, rfl⟩ | ⟨rfl, rfl, rfl, rfl⟩ | ⟨rfl, rfl, rfl, rfl, rfl⟩ | ⟨rfl, rfl, rfl, rfl, rfl⟩ | ⟨rfl, rfl, rfl, rfl⟩ | ⟨rfl, rfl, rfl, rfl⟩ | ⟨rfl, rfl⟩ <;>
      first
      | (exfalso; revert h; simp [nodeU]; done)
      | (simp only [nodeU] at h; simp at h; exact ⟨⟨rfl, rfl, rfl, rfl, rfl⟩, h⟩)
      | (simp [nodeU] at h; obtain ⟨e1, e2⟩ := set_cut _ _ _ _ h; exact ⟨⟨rfl, e1, rfl, rfl, rfl⟩, e2⟩)
      | (simp [nodeU] at h; obtain ⟨e1, e2⟩ := row_inj k k' _ _ pk pk' (e41 _) (e41 _) h; injection e2 with _ e2; exact ⟨⟨rfl, rfl, rfl, rfl, e1⟩, e2⟩)
      | (simp [nodeU] at h; obtain ⟨e1, e2⟩ := itoa_cut (ok32 _) (ok32 _) h; injection e2 with _ e2; obtain ⟨e3, e4⟩ := itoa_cut (ok125 _) (ok125 _) e2; injection e4 with _ e4; injection e4 with _ e4; obtain ⟨e5, e6⟩ := row_inj k k' _ _ pk pk' (e41 _) (e41 _) e4; injection e6 with _ e6; exact ⟨⟨rfl, rfl, e1, e3, e5⟩, e6⟩)
    obtain ⟨⟨rfl, rfl, rfl, rfl, rfl⟩, e⟩ := key
    have hx : x = x' ∧ r = t := by
      rcases Classical.em (x = .nil) with h0 | h0 <;> rcases Classical.em (x' = .nil) with h0' | h0'
      · subst h0; subst h0'; rw [tailU, tailU] at e; exact ⟨rfl, e⟩
      · subst h0
        rw [tailU_cons h0', tailU] at e
        exact absurd (hr 44 (by rw [e]; rfl)) (by decide)
      · subst h0'
        rw [tailU_cons h0, tailU] at e
        exact absurd (ht 44 (by rw [← e]; rfl)) (by decide)
      · rw [tailU_cons h0, tailU_cons h0'] at e
        injection e with _ e
        exact row_inj x x' r t px px' hr ht e
    exact ⟨by rw [hx.1], hx.2⟩
end Go.Proofs.YtajnedkjmgjjbaaDoor
/- What a parsed tree is: its nodes, how great it is. -/
namespace Go.Proofs.YtajnedkjmgjjbaaDoor
open Go Go.RowKit
set_option linter.unusedVariables false

/-! ### How many ranges a set has -/
theorem nodup_len : ∀ (l L : List Int), l.Nodup → (∀ x ∈ l, x ∈ L) → l.length ≤ L.length
  | [], L, _, _ => Nat.zero_le _
  | x :: l, L, hn, hs => by
    rw [List.nodup_cons] at hn
    have hx := hs x (by simp)
    have h := nodup_len l (L.erase x) hn.2 fun y hy => (List.mem_erase_of_ne (fun e => hn.1 (by rw [← e]; exact hy))).2 (hs y (by simp [hy]))
    rw [List.length_erase_of_mem hx] at h
    have : 0 < L.length := List.length_pos_of_mem hx
    rw [List.length_cons]; omega
theorem canonF_starts : ∀ {t : List (Int × Int)} {lo : Int}, CanonF lo t → (∀ p ∈ t, lo ≤ p.1) ∧ (t.map (·.1)).Nodup
  | [], _, _ => ⟨fun p hp => (by cases hp), List.nodup_nil⟩
  | p :: t, lo, ⟨h1, h2, h3, h4⟩ => by
    obtain ⟨k1, k2⟩ := canonF_starts h4
    refine ⟨fun q hq => ?_, ?_⟩
    · rcases List.mem_cons.1 hq with rfl | hq
      · exact h1
      · have := k1 q hq; omega
    · rw [List.map_cons, List.nodup_cons]
      refine ⟨fun hm => ?_, k2⟩
      obtain ⟨q, hq, e⟩ := List.mem_map.1 hm
      have := k1 q hq
      omega
/-- A range's first number is in the set, the one ahead of it isn't. -/
theorem canonF_edge : ∀ {t : List (Int × Int)} {lo : Int}, 0 ≤ lo → CanonF lo t → ∀ p ∈ t, hasL t p.1 = true ∧ hasL t (p.1 - 1) = false
  | [], _, _, _, p, hp => by cases hp
  | q :: t, lo, h0, ⟨h1, h2, h3, h4⟩, p, hp => by
    rcases List.mem_cons.1 hp with rfl | hp
    · refine ⟨by rw [hasL_cons, decide_eq_true (by omega)]; rfl, ?_⟩
      rw [hasL_cons, decide_eq_false (by omega), Bool.false_or]
      cases hx : hasL t (p.1 - 1) with
      | false => rfl
      | true => have := h4.ge hx; omega
    · obtain ⟨e1, e2⟩ := canonF_edge (by omega) h4 p hp
      have hge := (canonF_starts h4).1 p hp
      refine ⟨by rw [hasL_cons, e1, Bool.or_true], ?_⟩
      rw [hasL_cons, e2, Bool.or_false, decide_eq_false (by omega)]
theorem set_len {t xs : List (Int × Int)} (hc : Canon t) (h : ∀ r, hasL t r = hasL xs r) : t.length ≤ xs.length := by
  have := nodup_len (t.map (·.1)) (xs.map fun q => if q.1 < 0 then 0 else q.1) (canonF_starts hc).2 fun x hx => by
    obtain ⟨p, hp, rfl⟩ := List.mem_map.1 hx
    obtain ⟨e1, e2⟩ := canonF_edge (Int.le_refl _) hc p hp
    rw [h] at e1 e2
    obtain ⟨q, hq, h1, h2, h3, h4⟩ := (hasL_iff xs _).1 e1
    refine List.mem_map.2 ⟨q, hq, ?_⟩
    have hno : ¬ (q.1 ≤ p.1 - 1 ∧ p.1 - 1 ≤ q.2 ∧ 0 ≤ p.1 - 1 ∧ p.1 - 1 ≤ 1114111) := fun hh => by
      rw [(hasL_iff xs _).2 ⟨q, hq, hh⟩] at e2; cases e2
    split <;> omega
  simpa using this
theorem not_len {t xs : List (Int × Int)} (hc : Canon t) (h : ∀ r, hasL t r = (inR r && !hasL xs r)) : t.length ≤ xs.length + 1 := by
  have := nodup_len (t.map (·.1)) (0 :: xs.map fun q => q.2 + 1) (canonF_starts hc).2 fun x hx => by
    obtain ⟨p, hp, rfl⟩ := List.mem_map.1 hx
    obtain ⟨e1, e2⟩ := canonF_edge (Int.le_refl _) hc p hp
    rw [h] at e1 e2
    rw [Bool.and_eq_true, Bool.not_eq_true'] at e1
    obtain ⟨i1, i2⟩ := e1
    unfold inR at i1 e2
    rw [decide_eq_true_iff] at i1
    by_cases h0 : p.1 = 0
    · rw [h0]; simp
    · rw [decide_eq_true (by omega), Bool.true_and] at e2
      rw [Bool.not_eq_false'] at e2
      obtain ⟨q, hq, h1, h2, h3, h4⟩ := (hasL_iff xs _).1 e2
      refine List.mem_cons_of_mem _ (List.mem_map.2 ⟨q, hq, ?_⟩)
      have hno : ¬ (q.1 ≤ p.1 ∧ p.1 ≤ q.2 ∧ 0 ≤ p.1 ∧ p.1 ≤ 1114111) := fun hh => by
        rw [(hasL_iff xs _).2 ⟨q, hq, hh⟩] at i2; cases i2
      omega
  simpa using this
theorem partsL_len : ∀ (f : Nat) (l : List Int) (xs : List (Int × Int)) (more : Bool) (s : List (Int × Int)) (r : List Int), partsL f l xs more = some (s, r) → s.length + 5 * r.length ≤ xs.length + 5 * l.length
  | 0, _, _, _, _, _, h => by cases h
  | f + 1, l, xs, more, s, r, h => by
    rw [partsL.eq_def] at h
    dsimp only at h
    split at h
    · injection h with h; injection h with h1 h2; subst h1; subst h2; simp only [List.length_cons]; omega
    · split at h
      · cases h
      · rename_i s1 l1 h1
        have a1 := partL_lt h1
        have a2 := (partL_some h1).2
        have a3 := partsL_len f _ _ _ _ _ h
        rw [List.length_append] at a3
        omega
theorem classL_ok {l r : List Int} {s : List (Int × Int)} (h : classL l = some (s, r)) : Canon s ∧ s.length ≤ 5 * l.length + 1 := by
  unfold classL at h
  split at h
  · obtain ⟨⟨a, b⟩, h1, h⟩ := Option.map_eq_some_iff.1 h
    injection h with h _; subst h
    have := partsL_len _ _ _ _ _ _ h1
    have h2 := not_len (setOf_canon _) (fun r => setOf_has (fun x => !hasL a x) r)
    simp only [List.length_nil, List.length_cons] at this ⊢
    exact ⟨setOf_canon _, by omega⟩
  · obtain ⟨⟨a, b⟩, h1, h⟩ := Option.map_eq_some_iff.1 h
    injection h with h _; subst h
    have := partsL_len _ _ _ _ _ _ h1
    have h2 := set_len (setOf_canon (fun x => hasL a x)) (fun r => (setOf_has (fun x => hasL a x) r).trans (hasL_inR a r).symm)
    simp only [List.length_nil] at this
    exact ⟨setOf_canon _, by dsimp only; omega⟩
end Go.Proofs.YtajnedkjmgjjbaaDoor
/- What a parsed tree is: its nodes, how great it is. -/
namespace Go.Proofs.YtajnedkjmgjjbaaDoor
open Go Go.RowKit
set_option linter.unusedVariables false

/-! ### What a token is -/
def TokGood (M : Nat) (t : TokL) : Prop := TokOk t ∧ Canon t.set ∧ t.set.length ≤ M ∧ In64 t.mn ∧ In64 t.mx
theorem in64_of {a : Int} (h : -1 ≤ a ∧ a ≤ 1114111) : In64 a := by unfold In64; omega
theorem tokS_good (M : Nat) {r : Int} (h : r = 124 ∨ r = 40 ∨ r = 41 ∨ r = 94 ∨ r = 36) : TokGood M (tokS r) :=
  ⟨Or.inr (Or.inr ⟨rfl, by show r = 124 ∨ r = 94 ∨ r = 36 ∨ r = 40 ∨ r = 41; omega⟩), trivial, Nat.zero_le _, in64_of (a := 0) (by decide), in64_of (a := 0) (by decide)⟩
theorem tokN_good (M : Nat) {a b : Int} (ha : -1 ≤ a ∧ a ≤ 1114111) (hb : -1 ≤ b ∧ b ≤ 1114111) : TokGood M (tokN a b) :=
  ⟨Or.inr (Or.inl rfl), trivial, Nat.zero_le _, in64_of ha, in64_of hb⟩
theorem tokC_good {M : Nat} {s : List (Int × Int)} (hs : Canon s) (hl : s.length ≤ M) : TokGood M (tokC s) :=
  ⟨Or.inl rfl, hs, hl, in64_of (a := 0) (by decide), in64_of (a := 0) (by decide)⟩
theorem numL_in {l r : List Int} {a : Int} (h : numL l = some (a, r)) : 0 ≤ a ∧ a ≤ 50 := by
  unfold numL at h
  split at h
  · rename_i x y l'
    split at h
    · rename_i hx
      simp only [isDig, Bool.and_eq_true, decide_eq_true_iff] at hx
      split at h
      · rename_i hy
        simp only [isDig, Bool.and_eq_true, decide_eq_true_iff] at hy
        split at h
        · cases h
        · injection h with h; injection h with h _; omega
      · injection h with h; injection h with h _; omega
    · cases h
  · rename_i x
    split at h
    · rename_i hx
      simp only [isDig, Bool.and_eq_true, decide_eq_true_iff] at hx
      injection h with h; injection h with h _; omega
    · cases h
  · cases h
theorem braceL_good (M : Nat) {l r : List Int} {t : TokL} (h : braceL l = some (t, r)) : TokGood M t := by
  unfold braceL at h
  split at h
  · rename_i a l' h1
    have := numL_in h1
    injection h with h; injection h with h _; subst h
    exact tokN_good M (by omega) (by omega)
  · rename_i a l' h1
    have := numL_in h1
    injection h with h; injection h with h _; subst h
    exact tokN_good M (by omega) (by omega)
  · rename_i a l' _ h1
    have := numL_in h1
    split at h
    · rename_i b l'' h2
      have := numL_in h2
      split at h
      · cases h
      · injection h with h; injection h with h _; subst h
        exact tokN_good M (by omega) (by omega)
    · cases h
  · cases h
theorem point_canon {r : Int} (h : 0 ≤ r ∧ r ≤ 1114111) : Canon [(r, r)] := ⟨h.1, Int.le_refl _, h.2, trivial⟩
theorem namedS_ok (r : Int) : Canon (namedS r) ∧ (namedS r).length ≤ 4 := by
  unfold namedS
  split
  · exact ⟨by refine ⟨?_, ?_, ?_, trivial⟩ <;> decide, by decide⟩
  · split
    · exact ⟨by refine ⟨?_, ?_, ?_, ?_, ?_, ?_, ?_, ?_, ?_, ?_, ?_, ?_, trivial⟩ <;> decide, by decide⟩
    · split
      · exact ⟨by refine ⟨?_, ?_, ?_, ?_, ?_, ?_, trivial⟩ <;> decide, by decide⟩
      · exact ⟨trivial, by decide⟩
theorem escL_ok {r : Int} {s : List (Int × Int)} {b : Bool} (h : escL r = some (s, b)) : Canon s ∧ s.length ≤ 5 := by
  unfold escL at h
  split at h
  · injection h with h; injection h with h _; subst h
    have := namedS_ok r
    exact ⟨this.1, by omega⟩
  · split at h
    · injection h with h; injection h with h _; subst h
      have h1 := not_len (setOf_canon _) (fun x => setOf_has (fun x => !hasL (namedS (r + 32)) x) x)
      have h2 := (namedS_ok (r + 32)).2
      exact ⟨setOf_canon _, by omega⟩
    · split at h
      · injection h with h; injection h with h _; subst h
        exact ⟨point_canon (by decide), by decide⟩
      · split at h
        · injection h with h; injection h with h _; subst h
          exact ⟨point_canon (by decide), by decide⟩
        · split at h
          · injection h with h; injection h with h _; subst h
            exact ⟨point_canon (by decide), by decide⟩
          · split at h
            · rename_i hm
              injection h with h; injection h with h _; subst h
              simp only [signL, List.mem_cons, List.not_mem_nil, or_false] at hm
              exact ⟨point_canon (by omega), by simp⟩
            · cases h
theorem tokL_good {l r : List Int} {t : TokL} (hl : ∀ x ∈ l, 0 ≤ x ∧ x ≤ 1114111) (h : tokL l = some (t, r)) : TokGood (5 * l.length + 6) t := by
  cases l with
  | nil => cases h
  | cons c l =>
    have hc := hl c (by simp)
    rw [tokL.eq_def] at h
    dsimp only at h
    repeat' split at h
    all_goals first
      | (injection h with h; injection h with h _; subst h; first | exact tokS_good _ (by assumption) | exact tokN_good _ (by decide) (by decide) | exact tokC_good (point_canon hc) (by show 1 ≤ _; omega) | exact tokC_good (by refine ⟨?_, ?_, ?_, ?_, ?_, ?_, trivial⟩ <;> decide) (by simp))
      | exact braceL_good _ h
      | (cases h; done)
      | skip
    · obtain ⟨⟨s, q⟩, h1, h⟩ := Option.map_eq_some_iff.1 h
      injection h with h _; subst h
      have := classL_ok h1
      exact tokC_good this.1 (by show s.length ≤ _; rw [List.length_cons]; omega)
    · obtain ⟨⟨s, b⟩, h1, h⟩ := Option.map_eq_some_iff.1 h
      injection h with h _; subst h
      have := escL_ok h1
      exact tokC_good this.1 (by show s.length ≤ _; omega)
/-- What is left was there. -/
theorem ptL_sub {l : List Int} {s : List (Int × Int)} {is : Bool} {r : List Int} (h : ptL l = some (s, is, r)) : ∀ x ∈ r, x ∈ l := by
  rcases l with _ | ⟨x, l⟩
  · cases h
  unfold ptL at h
  dsimp only at h
  split at h
  · cases h
  split at h
  · rcases l with _ | ⟨e, l⟩
    · cases h
    · dsimp only at h
      obtain ⟨p, _, h⟩ := Option.map_eq_some_iff.1 h
      injection h with _ h; injection h with _ h; subst h
      intro y hy; simp [hy]
  · injection h with h; injection h with _ h; injection h with _ h; subst h
    intro y hy; simp [hy]
theorem partL_sub {l : List Int} {s : List (Int × Int)} {r : List Int} (h : partL l = some (s, r)) : ∀ x ∈ r, x ∈ l := by
  unfold partL at h
  split at h
  · cases h
  · rename_i s1 is l1 h1
    have q1 := ptL_sub h1
    split at h
    · rename_i l2
      split at h
      · split at h
        · rename_i t l3 h3
          have q3 := ptL_sub h3
          split at h
          · cases h
          · injection h with h; injection h with _ h; subst h
            exact fun y hy => q1 y (by simp [q3 y hy])
        · cases h
      · injection h with h; injection h with _ h; subst h; exact q1
    · injection h with h; injection h with _ h; subst h; exact q1
theorem partsL_sub : ∀ (f : Nat) (l : List Int) (xs : List (Int × Int)) (more : Bool) (s : List (Int × Int)) (r : List Int), partsL f l xs more = some (s, r) → ∀ x ∈ r, x ∈ l
  | 0, _, _, _, _, _, h => by cases h
  | f + 1, l, xs, more, s, r, h => by
    rw [partsL.eq_def] at h
    dsimp only at h
    split at h
    · injection h with h; injection h with _ h; subst h; intro y hy; simp [hy]
    · split at h
      · cases h
      · rename_i s1 l1 h1
        have k1 := partL_sub h1
        have k2 := partsL_sub f _ _ _ _ _ h
        exact fun y hy => k1 y (k2 y hy)
theorem classL_sub {l : List Int} {s : List (Int × Int)} {r : List Int} (h : classL l = some (s, r)) : ∀ x ∈ r, x ∈ l := by
  unfold classL at h
  split at h
  · obtain ⟨⟨a, b⟩, h1, h⟩ := Option.map_eq_some_iff.1 h
    injection h with _ h; subst h
    have := partsL_sub _ _ _ _ _ _ h1
    exact fun y hy => by simp [this y hy]
  · obtain ⟨⟨a, b⟩, h1, h⟩ := Option.map_eq_some_iff.1 h
    injection h with _ h; subst h
    exact partsL_sub _ _ _ _ _ _ h1
theorem numL_sub {l : List Int} {a : Int} {r : List Int} (h : numL l = some (a, r)) : ∀ x ∈ r, x ∈ l := by
  unfold numL at h
  split at h
  · split at h
    · split at h
      · split at h
        · cases h
        · injection h with h; injection h with _ h; subst h; intro y hy; simp [hy]
      · injection h with h; injection h with _ h; subst h; intro y hy; simpa using Or.inr hy
    · cases h
  · split at h
    · injection h with h; injection h with _ h; subst h; intro y hy; simp at hy
    · cases h
  · cases h
theorem braceL_sub {l : List Int} {t : TokL} {r : List Int} (h : braceL l = some (t, r)) : ∀ x ∈ r, x ∈ l := by
  unfold braceL at h
  split at h
  · rename_i l' h1
    have := numL_sub h1
    injection h with h; injection h with _ h; subst h; exact fun y hy => this y (by simp [hy])
  · rename_i l' h1
    have := numL_sub h1
    injection h with h; injection h with _ h; subst h; exact fun y hy => this y (by simp [hy])
  · rename_i l' _ h1
    have k1 := numL_sub h1
    split at h
    · rename_i l'' h2
      have k2 := numL_sub h2
      split at h
      · cases h
      · injection h with h; injection h with _ h; subst h; exact fun y hy => k1 y (by simp [k2 y (by simp [hy])])
    · cases h
  · cases h
theorem tokL_sub {l : List Int} {t : TokL} {r : List Int} (h : tokL l = some (t, r)) : ∀ x ∈ r, x ∈ l := by
  rcases l with _ | ⟨x, l⟩
  · cases h
  unfold tokL at h
  try dsimp only at h
  split at h
  · injection h with h; injection h with _ h; subst h; exact fun y hy => by simp [hy]
  split at h
  · injection h with h; injection h with _ h; subst h; exact fun y hy => by simp [hy]
  split at h
  · injection h with h; injection h with _ h; subst h; exact fun y hy => by simp [hy]
  split at h
  · injection h with h; injection h with _ h; subst h; exact fun y hy => by simp [hy]
  split at h
  · have := braceL_sub h; exact fun y hy => by simp [this y hy]
  split at h
  · injection h with h; injection h with _ h; subst h; exact fun y hy => by simp [hy]
  split at h
  · obtain ⟨⟨a, b⟩, h1, h⟩ := Option.map_eq_some_iff.1 h
    injection h with _ h; subst h
    have := classL_sub h1; exact fun y hy => by simp [this y hy]
  split at h
  · rcases l with _ | ⟨e, l⟩
    · cases h
    · obtain ⟨p, _, h⟩ := Option.map_eq_some_iff.1 h
      injection h with _ h; subst h; exact fun y hy => by simp [hy]
  split at h
  · cases h
  · injection h with h; injection h with _ h; subst h; exact fun y hy => by simp [hy]
theorem toksL_good : ∀ (f : Nat) (l : List Int) (ts : List TokL), (∀ x ∈ l, 0 ≤ x ∧ x ≤ 1114111) → toksL f l = some ts → ts.length ≤ l.length ∧ ∀ t ∈ ts, TokGood (5 * l.length + 6) t
  | _, [], ts, _, h => by
    cases (by simpa [toksL] using h : ts = [])
    exact ⟨Nat.zero_le _, fun t ht => by cases ht⟩
  | 0, _ :: _, _, _, h => by cases h
  | f + 1, r :: l, ts, hl, h => by
    rw [toksL] at h
    split at h
    · cases h
    · rename_i t l' ht
      obtain ⟨us, hu, rfl⟩ := Option.map_eq_some_iff.1 h
      have h1 := tokL_lt ht
      have h2 := tokL_sub ht
      obtain ⟨h3, h4⟩ := toksL_good f l' us (fun x hx => hl x (h2 x hx)) hu
      refine ⟨by rw [List.length_cons]; omega, fun u hu => ?_⟩
      rcases List.mem_cons.1 hu with rfl | hu
      · exact tokL_good hl ht
      · obtain ⟨k1, k2, k3, k4⟩ := h4 u hu
        exact ⟨k1, k2, by omega, k4⟩

/-! ### What a tree is -/
def GoodW : Wood → Prop
  | .nil => True
  | .cons op s mn mx k x => (NodeOk op s mn mx k ∧ Canon s ∧ In64 mn ∧ In64 mx) ∧ GoodW k ∧ GoodW x
theorem GoodW.pw : ∀ {T : Wood}, GoodW T → PW T
  | .nil, _ => trivial
  | .cons .., ⟨h, hk, hx⟩ => ⟨h.1, hk.pw, hx.pw⟩
theorem NodeOk.in64 {op : Int} {s : List (Int × Int)} {mn mx : Int} {k : Wood} (h : NodeOk op s mn mx k) : In64 op := by
  unfold NodeOk at h; exact in64_of (by omega)
theorem GoodW.wf : ∀ {T : Wood}, GoodW T → WfW T
  | .nil, _ => trivial
  | .cons .., ⟨h, hk, hx⟩ => ⟨⟨h.1.in64, h.2.2.1, h.2.2.2, fun p hp => by
      have := CanonF.wf (Int.le_refl _) h.2.1 p hp
      exact ⟨in64_of (by omega), in64_of (by omega)⟩⟩, hk.wf, hx.wf⟩
theorem good_app : ∀ {a b : Wood}, GoodW a → GoodW b → GoodW (a.app b)
  | .nil, _, _, h => h
  | .cons .., _, ⟨h, hk, hx⟩, hb => ⟨h, hk, good_app hx hb⟩
theorem good_leaf {op : Int} {s : List (Int × Int)} (h : NodeOk op s 0 0 .nil) (hs : Canon s) : GoodW (leaf op s) := ⟨⟨h, hs, in64_of (by decide), in64_of (by decide)⟩, trivial, trivial⟩
theorem good_one {op : Int} (h : op = 4 ∨ op = 5) : ∀ {l : Wood}, GoodW l → GoodW (oneN op l) ∧ (oneN op l).len = 1 ∧ heavy (oneN op l) ≤ heavy l + 1
  | .nil, _ => ⟨good_leaf (Or.inl ⟨rfl, rfl, rfl, rfl, rfl⟩) trivial, rfl, Nat.le_refl _⟩
  | .cons o s a z k .nil, h' => ⟨h', rfl, Nat.le_succ _⟩
  | .cons o s a z k (.cons o' s' a' z' k' x), h' => ⟨⟨⟨by unfold NodeOk; simp; omega, trivial, in64_of (by decide), in64_of (by decide)⟩, h', trivial⟩, rfl, by simp only [oneN, heavy, List.length_nil]; omega⟩
theorem good_rep {mn mx : Int} (hm : In64 mn) (hx : In64 mx) : ∀ {p : Wood}, GoodW p → GoodW (repLast mn mx p) ∧ heavy (repLast mn mx p) ≤ heavy p + 1
  | .nil, _ => ⟨trivial, Nat.zero_le _⟩
  | .cons o s a z k .nil, h' => ⟨⟨⟨by unfold NodeOk; simp, trivial, hm, hx⟩, h', trivial⟩, by simp only [repLast, heavy, List.length_nil]; omega⟩
  | .cons o s a z k (.cons o' s' a' z' k' x), ⟨h1, h2, h3⟩ => by
    have := good_rep hm hx h3
    rw [repLast.eq_3 _ _ _ _ _ _ _ _ (by intro e; cases e)]
    exact ⟨⟨h1, h2, this.1⟩, by simp only [heavy] at this ⊢; omega⟩
theorem good_fin {a p : Wood} (ha : GoodW a) (hp : GoodW p) : GoodW (finN a p) ∧ (finN a p).len = 1 ∧ heavy (finN a p) ≤ heavy a + heavy p + 2 := by
  obtain ⟨h1, h2, h3⟩ := good_one (Or.inl rfl) hp
  obtain ⟨k1, k2, k3⟩ := good_one (op := 5) (Or.inr rfl) (good_app ha h1)
  rw [heavy_app] at k3
  exact ⟨k1, k2, by unfold finN; omega⟩
def heavyS : List (Wood × Wood) → Nat
  | [] => 0
  | q :: st => heavy q.1 + heavy q.2 + heavyS st
theorem runT_good (M D : Nat) : ∀ (ts : List TokL) (st : List (Wood × Wood)) (a p : Wood) (lo : Bool) (T : Wood), (∀ t ∈ ts, TokGood M t) → (∀ q ∈ st, GoodW q.1 ∧ GoodW q.2) → GoodW a → GoodW p → runT D ts st a p lo = some T → GoodW T ∧ T.len = 1 ∧ heavy T ≤ heavyS st + heavy a + heavy p + ts.length * (M + 2) + 2
  | [], [], a, p, lo, T, _, _, ha, hp, h => by
    rw [runT] at h
    injection h with h; subst h
    have := good_fin ha hp
    exact ⟨this.1, this.2.1, by simp only [heavyS]; omega⟩
  | [], _ :: _, _, _, _, _, _, _, _, _, h => by cases h
  | t :: ts, st, a, p, lo, T, ht, hst, ha, hp, h => by
    obtain ⟨hk, hc, hl, hmn, hmx⟩ := ht t (by simp)
    have ih := fun st a p lo => runT_good M D ts st a p lo T fun t h => ht t (by simp [h])
    have hlen : (t :: ts).length * (M + 2) = ts.length * (M + 2) + (M + 2) := by rw [List.length_cons, Nat.succ_mul]
    rw [hlen]
    rcases hk with hk | hk | ⟨hk, hr | hr | hr | hr | hr⟩
    · rw [run_char hk] at h
      obtain ⟨i1, i2, i3⟩ := ih _ _ _ _ hst ha (good_app hp (good_leaf (Or.inr (Or.inl ⟨rfl, rfl, rfl, rfl⟩)) hc)) h
      refine ⟨i1, i2, ?_⟩
      rw [heavy_app] at i3
      simp only [leaf, heavy] at i3
      omega
    · rw [run_count hk] at h
      split at h
      · have k := good_rep hmn hmx hp
        obtain ⟨i1, i2, i3⟩ := ih _ _ _ _ hst ha k.1 h
        exact ⟨i1, i2, by have := k.2; omega⟩
      · cases h
    · rw [run_bar hk hr] at h
      have k := good_one (op := 4) (Or.inl rfl) hp
      obtain ⟨i1, i2, i3⟩ := ih _ _ _ _ hst (good_app ha k.1) (show GoodW .nil from trivial) h
      refine ⟨i1, i2, ?_⟩
      rw [heavy_app] at i3
      have := k.2.2
      simp only [heavy] at i3
      omega
    · rw [run_begin hk hr] at h
      obtain ⟨i1, i2, i3⟩ := ih _ _ _ _ hst ha (good_app hp (good_leaf (Or.inr (Or.inr (Or.inl ⟨rfl, rfl, rfl, rfl, rfl⟩))) trivial)) h
      refine ⟨i1, i2, ?_⟩
      rw [heavy_app] at i3
      simp only [leaf, heavy, List.length_nil] at i3
      omega
    · rw [run_end hk hr] at h
      obtain ⟨i1, i2, i3⟩ := ih _ _ _ _ hst ha (good_app hp (good_leaf (Or.inr (Or.inr (Or.inr (Or.inl ⟨rfl, rfl, rfl, rfl, rfl⟩)))) trivial)) h
      refine ⟨i1, i2, ?_⟩
      rw [heavy_app] at i3
      simp only [leaf, heavy, List.length_nil] at i3
      omega
    · rw [run_paren hk hr] at h
      split at h
      · obtain ⟨i1, i2, i3⟩ := ih _ _ _ _ (fun q hq => by
          rcases List.mem_cons.1 hq with rfl | hq
          · exact ⟨ha, hp⟩
          · exact hst q hq) (show GoodW .nil from trivial) (show GoodW .nil from trivial) h
        refine ⟨i1, i2, ?_⟩
        simp only [heavyS, heavy] at i3
        omega
      · cases h
    · cases st with
      | nil => rw [run_shut_nil hk hr] at h; cases h
      | cons q st =>
        obtain ⟨a', p'⟩ := q
        rw [run_shut a' p' hk hr] at h
        have k := good_fin ha hp
        have q : GoodW a' ∧ GoodW p' := hst (a', p') (by simp)
        obtain ⟨i1, i2, i3⟩ := ih _ _ _ _ (fun q hq => hst q (by simp [hq])) q.1 (good_app q.2 k.1) h
        refine ⟨i1, i2, ?_⟩
        rw [heavy_app] at i3
        have k3 := k.2.2
        have q3 : heavyS ((a', p') :: st) = heavy a' + heavy p' + heavyS st := rfl
        rw [q3]
        omega
/-- A pattern's tree. -/
theorem treeL_good {l : List Int} {T : Wood} (hl : ∀ x ∈ l, 0 ≤ x ∧ x ≤ 1114111) (hn : l.length ≤ 200) (h : treeL l = some T) : GoodW T ∧ T.len = 1 ∧ heavy T ≤ 1000000 := by
  unfold treeL at h
  obtain ⟨ts, h1, h2⟩ := Option.bind_eq_some_iff.1 h
  obtain ⟨k1, k2⟩ := toksL_good _ _ _ hl h1
  obtain ⟨i1, i2, i3⟩ := runT_good _ 0 ts [] .nil .nil false T k2 (fun q hq => by cases hq) trivial trivial h2
  refine ⟨i1, i2, ?_⟩
  simp only [heavyS, heavy] at i3
  have : ts.length * (5 * l.length + 6 + 2) ≤ 200 * 1008 := Nat.mul_le_mul (by omega) (by omega)
  omega
theorem parseT_good {s : ByteArray} {T : Wood} (hs : s.size ≤ 200) (h : parseT s = some T) : GoodW T ∧ T.len = 1 ∧ heavy T ≤ 1000000 := by
  unfold parseT at h
  obtain ⟨l, h1, h2⟩ := Option.bind_eq_some_iff.1 h
  have := pointsL_len _ _ _ (Nat.le_refl _) h1
  rw [nums_length] at this
  exact treeL_good (pointsL_is h1) (by omega) h2
end Go.Proofs.YtajnedkjmgjjbaaDoor
/- Trees are shown alike just where they are the same. -/
namespace Go.Proofs.YtajnedkjmgjjbaaDoor
open Go Go.RowKit
set_option linter.unusedVariables false
theorem L_app (a b : ByteArray) : (a ++ b).data.toList = a.data.toList ++ b.data.toList := by simp
theorem L_str (l : List UInt8) : (strB l).data.toList = l := by simp [strB]
theorem L_dig (n : Int) : (digB n).data.toList = Lib.itoa n := by simp [digB]
theorem L_rng (p : Int × Int) : rngU p = (rngB p).data.toList := by
  unfold rngU rngB
  split
  · rw [L_dig, List.append_nil]
  · rw [L_app, L_app, L_dig, L_str, L_dig]; rfl
theorem L_nil : ByteArray.empty.data.toList = [] := rfl
theorem setU_is : ∀ (s : List (Int × Int)) (r : List UInt8), setU s r = (setB s).data.toList ++ r
  | [], r => rfl
  | [p], r => by rw [setU, L_rng]; rfl
  | p :: q :: s, r => by
    rw [setU, setU_is (q :: s) r, L_rng]
    show _ = (rngB p ++ (strB [32] ++ setB (q :: s))).data.toList ++ r
    rw [L_app, L_app, L_str]
    simp
theorem node_is {op : Int} {s : List (Int × Int)} {mn mx : Int} {K : List UInt8 → List UInt8} {B : ByteArray} (hK : ∀ r, K r = B.data.toList ++ r) (r : List UInt8) : nodeU op s mn mx K r = (nodeB op s mn mx B).data.toList ++ r := by
  unfold nodeU nodeB
  repeat' split
  all_goals simp only [L_app, L_str, L_dig, setU_is, hK, List.append_assoc, List.cons_append, List.nil_append]
theorem kidsU_is : ∀ (T : Wood) (r : List UInt8), kidsU T r = (kidsB T).data.toList ++ r
  | .nil, r => rfl
  | .cons op s mn mx k .nil, r => by
    rw [kidsU, tailU, node_is (kidsU_is k) r]
    rfl
  | .cons op s mn mx k (.cons op' s' mn' mx' k' x), r => by
    rw [kidsU, tailU_cons (fun e => by cases e), kidsU_is (.cons op' s' mn' mx' k' x) r, node_is (kidsU_is k)]
    show _ = (nodeB op s mn mx (kidsB k) ++ (strB [44] ++ kidsB (.cons op' s' mn' mx' k' x))).data.toList ++ r
    rw [L_app, L_app, L_str]
    simp
theorem ba_ext {a b : ByteArray} (h : a.data.toList = b.data.toList) : a = b := by
  cases a; cases b; simp at h; rw [h]
theorem shown_one {T U : Wood} (hT : PW T) (hU : PW U) (h : oneB T = oneB U) : T = U := by
  have e : kidsU T [] = kidsU U [] := by rw [kidsU_is, kidsU_is]; exact congrArg (fun b : ByteArray => b.data.toList ++ []) h
  exact (row_inj T U [] [] hT hU (fun c hc => by cases hc) (fun c hc => by cases hc) e).1
end Go.Proofs.YtajnedkjmgjjbaaDoor
/- The program's Same. -/
namespace Go.Proofs.YtajnedkjmgjjbaaDoor
open Go Go.RowKit
set_option linter.unusedVariables false
set_option maxRecDepth 20000

set_option maxHeartbeats 2000000 in
theorem slEqual_any (s t : List (Int × Int)) (A D : Option Addr) (n m c d : Nat) (W : World) (ha : RowG W A n s) (hb : RowG W D m t) (hn : n ≤ 1000000) (hm : m ≤ 1000000) :
    Calls Tryd.prog 28 #[.slice A n c, .slice D m d] W fun e w' => e = .returned (.bool (s == t)) ∧ ∃ q, w' = W.drewN q := by
  have HA := Lib.hid ha; clear ha
  have HB := Lib.hid hb; clear hb
  by_cases hnm : n = m
  · subst hnm
    go_enter Tryd.func28, Tryd.ntmps28
    go_wp2
    go_loopw [13] (fun i wr => ∃ k q : Nat, k ≤ n ∧ i = .int .i64 k ∧ wr = W.drewN q ∧ Hid (∀ j, j < k → s.getD j (0, 0) = t.getD j (0, 0))) (fun i _ => n - (intOf i).toNat)
    case atStart => exact ⟨0, 0, Nat.zero_le _, rfl, rfl, Lib.hid fun j h => by omega⟩
    case round =>
      obtain ⟨k, q, hk, rfl, rfl, HF⟩ := hrel
      by_cases hlt : k < n
      · obtain ⟨b, o, rfl, _, hc⟩ := HA.out.2 (by omega)
        obtain ⟨b', o', rfl, _, hc'⟩ := HB.out.2 (by omega)
        obtain ⟨c0, c1⟩ := hc k hlt
        obtain ⟨e0, e1⟩ := hc' k hlt
        obtain ⟨r, hr⟩ : ∃ r, r = s.getD k (0, 0) := ⟨_, rfl⟩
        obtain ⟨r', hr'⟩ : ∃ r, r = t.getD k (0, 0) := ⟨_, rfl⟩
        rw [← hr] at c0 c1
        rw [← hr'] at e0 e1
        obtain ⟨x, y⟩ := r
        obtain ⟨x', y'⟩ := r'
        have HRR := Lib.hid (And.intro hr hr')
        clear hc hc' hr hr'
        dsimp only at c0 c1 e0 e1
        by_cases hxy : x = x' ∧ y = y'
        · obtain ⟨rfl, rfl⟩ := hxy
          have HN : Hid (∀ j, j < k + 1 → s.getD j (0, 0) = t.getD j (0, 0)) := Lib.hid fun j hj => by
            rcases Nat.lt_or_ge j k with h | h
            · exact HF.out j h
            · have : j = k := by omega
              rw [this, ← HRR.out.1, ← HRR.out.2]
          go_wp2
          go_quiet (fail)
          go_wp2
          refine ⟨⟨k + 1, q + nq, by omega, by go_num, rfl, HN⟩, by simp [intOf]; omega⟩
        · have HN : Hid ((s == t) = false) := Lib.hid (list_not k (by have := HA.out.1; omega) (by
            rw [← HRR.out.1, ← HRR.out.2]
            intro h
            injection h with h1 h2
            exact hxy ⟨h1, h2⟩))
          by_cases hx : x = x'
          · subst hx
            have hy : ¬ y = y' := fun e => hxy ⟨rfl, e⟩
            have by1 : (y == y') = false := by simpa using hy
            clear hxy
            go_wp2
            go_quiet (fail)
            go_wp2
            go_ret
            rw [HN.out]
            exact ⟨rfl, q + nq, by simp⟩
          · have bx1 : (x == x') = false := by simpa using hx
            clear hxy
            go_wp2
            go_quiet (fail)
            go_wp2
            go_ret
            rw [HN.out]
            exact ⟨rfl, q + nq, by simp⟩
      · have hkn : k = n := by omega
        subst hkn
        have HE := Lib.hid (show (s == t) = true by rw [list_same (by rw [HA.out.1, HB.out.1]) (fun j hj => HF.out j (by have := HA.out.1; omega))]; exact beq_self_eq_true _)
        go_wp2
        go_ret
        rw [HE.out]
        exact ⟨rfl, _, rfl⟩
  · have HE := Lib.hid (show (s == t) = false by
      cases hx : s == t with
      | false => rfl
      | true => have h := eq_of_beq hx; exact absurd (by rw [← HA.out.1, ← HB.out.1, h]) hnm)
    have h1 : ¬ (n : Int) = (m : Int) := by omega
    have h2 : ((n : Int) != (m : Int)) = true := by simpa using h1
    go_enter Tryd.func28, Tryd.ntmps28
    go_wp2
    go_ret
    rw [HE.out]
    exact ⟨rfl, 0, rfl⟩


/-- What Same answers of trees so great. -/
def SameH (N : Nat) : Prop := ∀ (T : Wood), heavy T ≤ N → ∀ (U : Wood) (F G : Nat → Prop) (W : World) (v u : Value), NodeIn F W v T → NodeIn G W u U → heavy T ≤ 1000000 → heavy U ≤ 1000000 →
    Calls Tryd.prog 17 #[v, u] W fun e w' => e = .returned (.bool (T.same U)) ∧ Below W.heap.size W w'
set_option maxHeartbeats 4000000 in
theorem eqFunc_any {N : Nat} (IH : SameH N) {F G : Nat → Prop} {W : World} {D D' : Option Addr} {nk nk' ck ck' : Nat} {k k' : Wood} (hk : KidsAt F W D nk k) (hk' : KidsAt G W D' nk' k') (hN : heavy k ≤ N) (h1 : heavy k ≤ 1000000) (h2 : heavy k' ≤ 1000000) :
    Calls Tryd.prog 29 #[.slice D nk ck, .slice D' nk' ck', .func (Fn.func 17) #[] #[]] W fun e w' => e = .returned (.bool (k.same k')) ∧ Below W.heap.size W w' := by
  have hl := hk.1
  have hl' := hk'.1
  have hnk : nk ≤ 1000000 := by have := len_heavy k; omega
  have hnk' : nk' ≤ 1000000 := by have := len_heavy k'; omega
  by_cases h5 : nk = nk'
  · subst h5
    have HK := Lib.hid (And.intro hk hk')
    have HLEN := Lib.hid (And.intro hl hl')
    have HIH := Lib.hid IH
    have HH := Lib.hid (And.intro hN (And.intro h1 h2))
    obtain ⟨R, hR⟩ : ∃ R, R = k.same k' := ⟨_, rfl⟩
    rw [← hR]
    have HE := Lib.hid hR
    clear hk hk' hl hl' IH hN h1 h2 hR
    go_enter Tryd.func29, Tryd.ntmps29
    go_wp2_with fail
    go_loopw [17] (fun vi wr => ∃ j : Nat, vi = .int .i64 (j : Int) ∧ j ≤ nk ∧ Hid (Below W.heap.size W wr ∧ ∀ i, i < j → (k.nth i).same (k'.nth i) = true)) (fun vi _ => nk - (intOf vi).toNat)
    case atStart => exact ⟨0, rfl, Nat.zero_le _, Lib.hid ⟨Below.refl _ _, fun i h => by omega⟩⟩
    case round =>
      obtain ⟨j, rfl, hj, HO⟩ := hrel
      by_cases hlt : j < nk
      · obtain ⟨b, o, op1, s1, mn1, mx1, k1, A1, D1, ns1, cs1, nk1, ck1, rfl, hlb, _, c0, c1, c2, c3, c4, hin⟩ := (HK.out.1.below HO.out.1).kid hlt
        obtain ⟨b', o', op1', s1', mn1', mx1', k1', A1', D1', ns1', cs1', nk1', ck1', rfl, hlb', _, e0, e1, e2, e3, e4, hin'⟩ := (HK.out.2.below HO.out.1).kid hlt
        have hb1 : Below wr.heap.size wr (wr.alloc (.cells #[.int .i64 op1, .slice A1 ns1 cs1, .int .i64 mn1, .int .i64 mx1, .slice D1 nk1 ck1] 26)) := (Below.refl _ _).alloc (Nat.le_refl _) _
        have hb2 : Below wr.heap.size wr ((wr.alloc (.cells #[.int .i64 op1, .slice A1 ns1 cs1, .int .i64 mn1, .int .i64 mx1, .slice D1 nk1 ck1] 26)).alloc (.cells #[.int .i64 op1', .slice A1' ns1' cs1', .int .i64 mn1', .int .i64 mx1', .slice D1' nk1' ck1'] 26)) := hb1.alloc (by simp) _
        have f0 := fun o => (((Below.refl wr.heap.size wr).alloc (Nat.le_refl _) o).cell (p := ⟨b', o' + j * 5, none⟩) hlb').trans e0
        have f1 := fun o => (((Below.refl wr.heap.size wr).alloc (Nat.le_refl _) o).cell (p := ⟨b', o' + j * 5 + 1, none⟩) hlb').trans e1
        have f2 := fun o => (((Below.refl wr.heap.size wr).alloc (Nat.le_refl _) o).cell (p := ⟨b', o' + j * 5 + 2, none⟩) hlb').trans e2
        have f3 := fun o => (((Below.refl wr.heap.size wr).alloc (Nat.le_refl _) o).cell (p := ⟨b', o' + j * 5 + 3, none⟩) hlb').trans e3
        have f4 := fun o => (((Below.refl wr.heap.size wr).alloc (Nat.le_refl _) o).cell (p := ⟨b', o' + j * 5 + 4, none⟩) hlb').trans e4
        have HC := Lib.hid (HIH.out (k.nth j) (Nat.le_trans (heavy_nth k j (by rw [HLEN.out.1]; exact hlt)) HH.out.1) (k'.nth j) F G _ _ _ (hin.below hb2) (hin'.below hb2) (Nat.le_trans (heavy_nth k j (by rw [HLEN.out.1]; exact hlt)) HH.out.2.1) (Nat.le_trans (heavy_nth k' j (by rw [HLEN.out.2]; exact hlt)) HH.out.2.2))
        obtain ⟨r, hr⟩ : ∃ r, r = (k.nth j).same (k'.nth j) := ⟨_, rfl⟩
        rw [← hr] at HC
        have HRR := Lib.hid hr
        have HB2 := Lib.hid hb2
        clear hin hin' hr hb1 hb2
        cases r with
        | true =>
          go_wp2_with (go_at_call 17; (with_reducible refine HC.out.mono ?_); rintro e w3 ⟨rfl, hb3⟩; have H3 := Lib.hid (HB2.out.trans (hb3.mono HB2.out.size)); clear hb3)
          refine ⟨⟨j + 1, by go_num, by omega, Lib.hid ⟨HO.out.1.trans (H3.out.mono HO.out.1.size), fun i hi => ?_⟩⟩, by simp [intOf]; omega⟩
          rcases Nat.lt_or_ge i j with h | h
          · exact HO.out.2 i h
          · rw [show i = j by omega]; exact HRR.out.symm
        | false =>
          have HF := Lib.hid (show R = false by
            rw [HE.out]
            cases hx : k.same k' with
            | false => rfl
            | true =>
              have h := (Wood.same_nth k k' (by rw [HLEN.out.1, HLEN.out.2])).1 hx j (by rw [HLEN.out.1]; exact hlt)
              rw [← HRR.out] at h
              cases h)
          go_wp2_with (go_at_call 17; (with_reducible refine HC.out.mono ?_); rintro e w3 ⟨rfl, hb3⟩; have H3 := Lib.hid (HB2.out.trans (hb3.mono HB2.out.size)); clear hb3)
          go_ret
          rw [HF.out]
          exact ⟨rfl, HO.out.1.trans (H3.out.mono HO.out.1.size)⟩
      · have hjn : j = nk := by omega
        subst hjn
        have HF := Lib.hid (show R = true by
          rw [HE.out, Wood.same_nth k k' (by rw [HLEN.out.1, HLEN.out.2])]
          intro i hi
          exact HO.out.2 i (by rw [← HLEN.out.1]; exact hi))
        go_wp2
        go_ret
        rw [HF.out]
        exact ⟨rfl, HO.out.1⟩
  · have HE := Lib.hid (show k.same k' = false from Wood.same_len (by omega))
    have n2 : ((nk : Int) != (nk' : Int)) = true := by simp; omega
    clear hk hk' hl hl' hN h1 h2 IH
    go_enter Tryd.func29, Tryd.ntmps29
    go_wp2
    go_ret
    rw [HE.out]
    exact ⟨rfl, Below.refl _ _⟩

set_option maxHeartbeats 4000000 in
theorem psame_any (N : Nat) : SameH N := by
  induction N with
  | zero =>
    intro T hN U F G W v u hv hu _ _
    obtain ⟨op, s, mn, mx, k, A, D, ns, cs, nk, ck, rfl, _⟩ := hv
    simp [heavy] at hN
  | succ N ih =>
    intro T hN U F G W v u hv hu hs hs'
    obtain ⟨op, s, mn, mx, k, A, D, ns, cs, nk, ck, rfl, rfl, hr, hk⟩ := hv
    obtain ⟨op', s', mn', mx', k', A', D', ns', cs', nk', ck', rfl, rfl, hr', hk'⟩ := hu
    simp only [heavy] at hN hs hs'
    have HSM := Lib.hid (show (Wood.cons op s mn mx k .nil).same (Wood.cons op' s' mn' mx' k' .nil) = (op == op' && (mn == mn' && (mx == mx' && (s == s' && (k.same k' && true))))) from rfl)
    obtain ⟨R, hR⟩ : ∃ R, R = (Wood.cons op s mn mx k .nil).same (Wood.cons op' s' mn' mx' k' .nil) := ⟨_, rfl⟩
    rw [← hR] at HSM ⊢
    have hb2 : Below W.heap.size W ((W.alloc (.cells #[.int .i64 op, .slice A ns cs, .int .i64 mn, .int .i64 mx, .slice D nk ck] 26)).alloc (.cells #[.int .i64 op', .slice A' ns' cs', .int .i64 mn', .int .i64 mx', .slice D' nk' ck'] 26)) := ((Below.refl _ _).alloc (Nat.le_refl _) _).alloc (by simp) _
    have HL := Lib.hid (slEqual_any s s' A A' ns ns' cs cs' _ (hr.1.below hb2 (Nat.le_refl _)) (hr'.1.below hb2 (Nat.le_refl _)) (by have := hr.1.1; omega) (by have := hr'.1.1; omega))
    have HEF := Lib.hid fun q => eqFunc_any ih (ck := ck) (ck' := ck') (hk.below (below_drewN hb2 q)) (hk'.below (below_drewN hb2 q)) (by omega) (by omega) (by omega)
    have HB2 := Lib.hid hb2
    clear hk hk' hr hr' ih hR hN hs hs' hb2
    by_cases h1 : op = op'
    · subst h1
      by_cases h2 : mn = mn'
      · subst h2
        by_cases h3 : mx = mx'
        · subst h3
          by_cases h4 : s = s'
          · subst h4
            have HSS := Lib.hid (show (s == s) = true from beq_self_eq_true _)
            have HE := Lib.hid (show R = k.same k' by rw [HSM.out]; simp)
            rw [HSS.out] at HL
            go_enter Tryd.func17, Tryd.ntmps17
            go_wp2_with (first
              | (go_at_call 28; (with_reducible refine HL.out.mono ?_); rintro e w1 ⟨rfl, q1, rfl⟩)
              | (go_at_call 29; (with_reducible refine (HEF.out _).mono ?_); rintro e w2 ⟨rfl, hb⟩; have H2 := Lib.hid ((below_drewN HB2.out q1).trans (hb.mono HB2.out.size)); clear hb))
            go_ret
            rw [HE.out]
            exact ⟨rfl, H2.out⟩
          · have HSS := Lib.hid (show (s == s') = false by simpa using h4)
            have HE := Lib.hid (show R = false by rw [HSM.out, HSS.out]; simp)
            rw [HSS.out] at HL
            go_enter Tryd.func17, Tryd.ntmps17
            go_wp2_with (go_at_call 28; (with_reducible refine HL.out.mono ?_); rintro e w1 ⟨rfl, q1, rfl⟩)
            go_ret
            rw [HE.out]
            exact ⟨rfl, below_drewN HB2.out q1⟩
        · have HE := Lib.hid (show R = false by rw [HSM.out]; simp [h3])
          have n1 : (mx == mx') = false := by simpa using h3
          go_enter Tryd.func17, Tryd.ntmps17
          go_wp2
          go_ret
          rw [HE.out]
          exact ⟨rfl, HB2.out⟩
      · have HE := Lib.hid (show R = false by rw [HSM.out]; simp [h2])
        have n1 : (mn == mn') = false := by simpa using h2
        go_enter Tryd.func17, Tryd.ntmps17
        go_wp2
        go_ret
        rw [HE.out]
        exact ⟨rfl, HB2.out⟩
    · have HE := Lib.hid (show R = false by rw [HSM.out]; simp [h1])
      have n1 : (op == op') = false := by simpa using h1
      go_enter Tryd.func17, Tryd.ntmps17
      go_wp2
      go_ret
      rw [HE.out]
      exact ⟨rfl, HB2.out⟩
end Go.Proofs.YtajnedkjmgjjbaaDoor
