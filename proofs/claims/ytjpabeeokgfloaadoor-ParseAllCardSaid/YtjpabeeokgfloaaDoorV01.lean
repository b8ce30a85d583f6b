/- Trees that are shown alike. -/
import Derived.Test.YtjpabeeokgfloaaDoorM10
import Derived.Test.YtjpabeeokgfloaaDoorN03
import Derived.Test.YtjpabeeokgfloaaDoorN05
import Derived.Test.YtjpabeeokgfloaaDoorN06
import Derived.Test.YtjpabeeokgfloaaDoorN07
import Derived.Test.YtjpabeeokgfloaaDoorP02
import Derived.Test.YtjpabeeokgfloaaDoorU01
namespace Go.Proofs.YtjpabeeokgfloaaDoor
open Go Go.RowKit
set_option linter.unusedVariables false

/-! ### Digits -/
def digU (c : UInt8) : Bool := decide (48 ≤ c.toNat ∧ c.toNat ≤ 57)
theorem decDigits_dig : ∀ (N u : Nat), u ≤ N → Lib.decDigits u ≠ [] ∧ ∀ c ∈ Lib.decDigits u, digU c = true
  | N, u, h => by
    by_cases h10 : u < 10
    · rw [decDigits_small h10]
      refine ⟨by simp, fun c hc => ?_⟩
      rw [List.mem_singleton] at hc
      subst hc
      unfold digU
      have : (UInt8.ofNat (48 + u)).toNat = 48 + u := by simp; omega
      rw [this, decide_eq_true_iff]; omega
    · match N, h with
      | 0, h => omega
      | N + 1, h =>
        rw [decDigits_big h10]
        obtain ⟨h1, h2⟩ := decDigits_dig N (u / 10) (by omega)
        obtain ⟨h3, h4⟩ := decDigits_dig N (u % 10) (by omega)
        refine ⟨by simp [h1], fun c hc => ?_⟩
        rcases List.mem_append.1 hc with hc | hc
        · exact h2 c hc
        · exact h4 c hc
/-- A number out of its digits. -/
def readU (l : List UInt8) : Nat := l.foldl (fun a c => 10 * a + (c.toNat - 48)) 0
theorem readU_snoc (l : List UInt8) (c : UInt8) : readU (l ++ [c]) = 10 * readU l + (c.toNat - 48) := by simp [readU]
theorem readU_dec : ∀ (N u : Nat), u ≤ N → readU (Lib.decDigits u) = u
  | N, u, h => by
    by_cases h10 : u < 10
    · rw [decDigits_small h10]
      have : (UInt8.ofNat (48 + u)).toNat = 48 + u := by simp; omega
      simp only [readU, List.foldl, this]; omega
    · match N, h with
      | 0, h => omega
      | N + 1, h =>
        rw [decDigits_big h10, decDigits_small (u := u % 10) (by omega), readU_snoc, readU_dec N (u / 10) (by omega)]
        have : (UInt8.ofNat (48 + u % 10)).toNat = 48 + u % 10 := by simp; omega
        rw [this]; omega
theorem decDigits_inj {u v : Nat} (h : Lib.decDigits u = Lib.decDigits v) : u = v := by
  rw [← readU_dec u u (Nat.le_refl _), h, readU_dec v v (Nat.le_refl _)]
/-- Digits, and what stands behind them. -/
theorem digits_cut : ∀ (a b r t : List UInt8), (∀ c ∈ a, digU c = true) → (∀ c ∈ b, digU c = true) → (∀ c, r.head? = some c → digU c = false) → (∀ c, t.head? = some c → digU c = false) → a ++ r = b ++ t → a = b ∧ r = t
  | [], [], r, t, _, _, _, _, h => ⟨rfl, h⟩
  | [], y :: b, r, t, _, hb, hr, _, h => by
    rw [List.nil_append, List.cons_append] at h
    have := hr y (by rw [h]; rfl)
    rw [hb y (by simp)] at this; cases this
  | x :: a, [], r, t, ha, _, _, ht, h => by
    rw [List.nil_append, List.cons_append] at h
    have := ht x (by rw [← h]; rfl)
    rw [ha x (by simp)] at this; cases this
  | x :: a, y :: b, r, t, ha, hb, hr, ht, h => by
    rw [List.cons_append, List.cons_append] at h
    injection h with h1 h2
    obtain ⟨e1, e2⟩ := digits_cut a b r t (fun c hc => ha c (by simp [hc])) (fun c hc => hb c (by simp [hc])) hr ht h2
    exact ⟨by rw [h1, e1], e2⟩
def itoaOk (r : List UInt8) : Prop := ∀ c, r.head? = some c → digU c = false
theorem itoa_cut {n m : Int} {r t : List UInt8} (hr : itoaOk r) (ht : itoaOk t) (h : Lib.itoa n ++ r = Lib.itoa m ++ t) : n = m ∧ r = t := by
  have D := fun u => (decDigits_dig u u (Nat.le_refl _)).2
  have NE := fun u => (decDigits_dig u u (Nat.le_refl _)).1
  have no45 : ∀ (u : Nat) (l x : List UInt8), Lib.decDigits u ++ l ≠ 45 :: x := fun u l x e => by
    rcases hd : Lib.decDigits u with _ | ⟨c, ds⟩
    · exact NE u hd
    · rw [hd, List.cons_append] at e
      injection e with e _
      have := D u c (by rw [hd]; simp)
      rw [e] at this
      cases this
  unfold Lib.itoa at h
  by_cases hn : n < 0 <;> by_cases hm : m < 0
  · rw [if_pos hn, if_pos hm, List.cons_append, List.cons_append] at h
    injection h with _ h
    obtain ⟨e1, e2⟩ := digits_cut _ _ _ _ (D _) (D _) hr ht h
    have := decDigits_inj e1
    exact ⟨by omega, e2⟩
  · rw [if_pos hn, if_neg hm, List.cons_append] at h
    exact absurd h.symm (no45 _ _ _)
  · rw [if_neg hn, if_pos hm, List.cons_append] at h
    exact absurd h (no45 _ _ _)
  · rw [if_neg hn, if_neg hm] at h
    obtain ⟨e1, e2⟩ := digits_cut _ _ _ _ (D _) (D _) hr ht h
    have := decDigits_inj e1
    exact ⟨by omega, e2⟩
end Go.Proofs.YtjpabeeokgfloaaDoor
/- Trees that are shown alike are the same. -/
namespace Go.Proofs.YtjpabeeokgfloaaDoor
open Go Go.RowKit
set_option linter.unusedVariables false

def rngU (p : Int × Int) : List UInt8 := Lib.itoa p.1 ++ (if p.2 = p.1 then [] else 45 :: Lib.itoa p.2)
/-- Ranges, and the brace behind them. -/
def setU : List (Int × Int) → List UInt8 → List UInt8
  | [], r => r
  | [p], r => rngU p ++ r
  | p :: q :: s, r => rngU p ++ 32 :: setU (q :: s) r
theorem rng_cut {p q : Int × Int} {r t : List UInt8} (hr : ∀ c, r.head? = some c → c = 32 ∨ c = 125) (ht : ∀ c, t.head? = some c → c = 32 ∨ c = 125) (hr0 : r ≠ []) (ht0 : t ≠ []) (h : rngU p ++ r = rngU q ++ t) : p = q ∧ r = t := by
  have okR : ∀ (l : List UInt8), (∀ c, l.head? = some c → c = 32 ∨ c = 125) → itoaOk l := fun l hl c hc => by rcases hl c hc with rfl | rfl <;> rfl
  have ok45 : ∀ (l : List UInt8), itoaOk (45 :: l) := fun l c hc => by
    simp only [List.head?_cons, Option.some.injEq] at hc; subst hc; rfl
  obtain ⟨p1, p2⟩ := p
  obtain ⟨q1, q2⟩ := q
  unfold rngU at h
  dsimp only at h
  rw [List.append_assoc, List.append_assoc] at h
  have ok1 : itoaOk ((if p2 = p1 then [] else 45 :: Lib.itoa p2) ++ r) := by split <;> first | exact okR r hr | exact ok45 _
  have ok2 : itoaOk ((if q2 = q1 then [] else 45 :: Lib.itoa q2) ++ t) := by split <;> first | exact okR t ht | exact ok45 _
  obtain ⟨e1, e2⟩ := itoa_cut ok1 ok2 h
  subst e1
  by_cases hp : p2 = p1 <;> by_cases hq : q2 = p1
  · rw [if_pos hp, if_pos hq] at e2
    exact ⟨by rw [hp, hq], e2⟩
  · rw [if_pos hp, if_neg hq, List.nil_append, List.cons_append] at e2
    rcases hr 45 (by rw [e2]; rfl) with h | h <;> cases h
  · rw [if_neg hp, if_pos hq, List.nil_append, List.cons_append] at e2
    rcases ht 45 (by rw [← e2]; rfl) with h | h <;> cases h
  · rw [if_neg hp, if_neg hq, List.cons_append, List.cons_append] at e2
    injection e2 with _ e2
    obtain ⟨e3, e4⟩ := itoa_cut (okR r hr) (okR t ht) e2
    exact ⟨by rw [e3], e4⟩
theorem rngU_head (p : Int × Int) : ∃ c l, rngU p = c :: l ∧ c ≠ 125 := by
  unfold rngU Lib.itoa
  split
  · exact ⟨45, _, rfl, by decide⟩
  · obtain ⟨h1, h2⟩ := decDigits_dig p.1.toNat p.1.toNat (Nat.le_refl _)
    rcases hd : Lib.decDigits p.1.toNat with _ | ⟨c, l⟩
    · exact absurd hd h1
    · refine ⟨c, _, rfl, fun e => ?_⟩
      have := h2 c (by rw [hd]; simp)
      rw [e] at this
      cases this
theorem setU_cons (p : Int × Int) (s : List (Int × Int)) (r : List UInt8) : ∃ c l, setU (p :: s) r = c :: l ∧ c ≠ 125 := by
  obtain ⟨c, l, h, hc⟩ := rngU_head p
  rcases s with _ | ⟨q, s⟩
  · exact ⟨c, l ++ r, by rw [setU, h]; rfl, hc⟩
  · exact ⟨c, l ++ 32 :: setU (q :: s) r, by rw [setU, h]; rfl, hc⟩
theorem set_cut : ∀ (s u : List (Int × Int)) (r t : List UInt8), setU s (125 :: r) = setU u (125 :: t) → s = u ∧ r = t
  | [], [], r, t, h => by rw [setU, setU] at h; injection h with _ h; exact ⟨rfl, h⟩
  | [], q :: u, r, t, h => by
    obtain ⟨c, l, h1, h2⟩ := setU_cons q u (125 :: t)
    rw [h1, setU] at h
    injection h with h _
    exact absurd h.symm h2
  | p :: s, [], r, t, h => by
    obtain ⟨c, l, h1, h2⟩ := setU_cons p s (125 :: r)
    rw [h1, setU] at h
    injection h with h _
    exact absurd h h2
  | [p], [q], r, t, h => by
    rw [setU, setU] at h
    obtain ⟨e1, e2⟩ := rng_cut (by simp) (by simp) (by simp) (by simp) h
    injection e2 with _ e2
    exact ⟨by rw [e1], e2⟩
  | [p], q :: q' :: u, r, t, h => by
    rw [setU, setU] at h
    obtain ⟨e1, e2⟩ := rng_cut (by simp) (by simp) (by simp) (by simp) h
    injection e2 with e2 _
    cases e2
  | p :: p' :: s, [q], r, t, h => by
    rw [setU, setU] at h
    obtain ⟨e1, e2⟩ := rng_cut (by simp) (by simp) (by simp) (by simp) h
    injection e2 with e2 _
    cases e2
  | p :: p' :: s, q :: q' :: u, r, t, h => by
    rw [setU, setU] at h
    obtain ⟨e1, e2⟩ := rng_cut (by simp) (by simp) (by simp) (by simp) h
    injection e2 with _ e2
    obtain ⟨e3, e4⟩ := set_cut (p' :: s) (q' :: u) r t e2
    exact ⟨by rw [e1, e3], e4⟩

/-! ### Nodes -/
/-- What a parsed tree's node is. -/
def NodeOk (op : Int) (s : List (Int × Int)) (mn mx : Int) (k : Wood) : Prop :=
  (op = 0 ∧ s = [] ∧ mn = 0 ∧ mx = 0 ∧ k = .nil) ∨ (op = 1 ∧ mn = 0 ∧ mx = 0 ∧ k = .nil) ∨ (op = 2 ∧ s = [] ∧ mn = 0 ∧ mx = 0 ∧ k = .nil) ∨ (op = 3 ∧ s = [] ∧ mn = 0 ∧ mx = 0 ∧ k = .nil) ∨ (op = 4 ∧ s = [] ∧ mn = 0 ∧ mx = 0) ∨ (op = 5 ∧ s = [] ∧ mn = 0 ∧ mx = 0) ∨ (op = 6 ∧ s = [])
def PW : Wood → Prop
  | .nil => True
  | .cons op s mn mx k x => NodeOk op s mn mx k ∧ PW k ∧ PW x
/-- A node's text, its kids' text, and what stands behind. -/
def nodeU (op : Int) (s : List (Int × Int)) (mn mx : Int) (K : List UInt8 → List UInt8) (r : List UInt8) : List UInt8 :=
  if op = 0 then 101 :: 109 :: 112 :: 116 :: 121 :: r
  else if op = 1 then 99 :: 104 :: 97 :: 114 :: 123 :: setU s (125 :: r)
  else if op = 2 then 98 :: 101 :: 103 :: 105 :: 110 :: r
  else if op = 3 then 101 :: 110 :: 100 :: r
  else if op = 4 then 99 :: 97 :: 116 :: 40 :: K (41 :: r)
  else if op = 5 then 97 :: 108 :: 116 :: 40 :: K (41 :: r)
  else if op = 6 then 114 :: 101 :: 112 :: 123 :: (Lib.itoa mn ++ 32 :: (Lib.itoa mx ++ 125 :: 40 :: K (41 :: r)))
  else 63 :: r
mutual
def kidsU : Wood → List UInt8 → List UInt8
  | .nil, r => r
  | .cons op s mn mx k x, r => nodeU op s mn mx (kidsU k) (tailU x r)
def tailU : Wood → List UInt8 → List UInt8
  | .nil, r => r
  | .cons op s mn mx k x, r => 44 :: nodeU op s mn mx (kidsU k) (tailU x r)
end
theorem tailU_cons {x : Wood} (hx : x ≠ .nil) (r : List UInt8) : tailU x r = 44 :: kidsU x r := by
  rcases x with _ | ⟨o, s, a, z, k, y⟩
  · exact absurd rfl hx
  · rw [tailU, kidsU]
theorem node_head (op : Int) (s : List (Int × Int)) (mn mx : Int) (K : List UInt8 → List UInt8) (r : List UInt8) : ∃ c l, nodeU op s mn mx K r = c :: l ∧ c ≠ 41 ∧ c ≠ 44 := by
  unfold nodeU
  (repeat' split) <;> exact ⟨_, _, rfl, by decide, by decide⟩
/-- A row's text ends where a parenthesis closes, or the text. -/
def EndU (r : List UInt8) : Prop := ∀ c, r.head? = some c → c = 41
theorem row_inj : ∀ (T U : Wood) (r t : List UInt8), PW T → PW U → EndU r → EndU t → kidsU T r = kidsU U t → T = U ∧ r = t
  | .nil, .nil, r, t, _, _, _, _, h => by rw [kidsU, kidsU] at h; exact ⟨rfl, h⟩
  | .nil, .cons op s mn mx k x, r, t, _, _, hr, _, h => by
    rw [kidsU, kidsU] at h
    obtain ⟨c, l, h1, h2, _⟩ := node_head op s mn mx (kidsU k) (tailU x t)
    exact absurd (hr c (by rw [h, h1]; rfl)) h2
  | .cons op s mn mx k x, .nil, r, t, _, _, _, ht, h => by
    rw [kidsU, kidsU] at h
    obtain ⟨c, l, h1, h2, _⟩ := node_head op s mn mx (kidsU k) (tailU x r)
    exact absurd (ht c (by rw [← h, h1]; rfl)) h2
  | .cons op s mn mx k x, .cons op' s' mn' mx' k' x', r, t, ⟨n1, pk, px⟩, ⟨n2, pk', px'⟩, hr, ht, h => by
    rw [kidsU, kidsU] at h
    have key : (op = op' ∧ s = s' ∧ mn = mn' ∧ mx = mx' ∧ k = k') ∧ tailU x r = tailU x' t := by
      have e41 : ∀ l, EndU (41 :: l) := fun l c hc => by simp only [List.head?_cons, Option.some.injEq] at hc; exact hc.symm
      have ok32 : ∀ l : List UInt8, itoaOk (32 :: l) := fun l c hc => by simp only [List.head?_cons, Option.some.injEq] at hc; subst hc; rfl
      have ok125 : ∀ l : List UInt8, itoaOk (125 :: l) := fun l c hc => by simp only [List.head?_cons, Option.some.injEq] at hc; subst hc; rfl
      rcases n1 with ⟨rfl, rfl, rfl, rfl, rfl⟩ | ⟨rfl, rfl, rfl, rfl⟩ | ⟨rfl, rfl, rfl, rfl, rfl⟩ | ⟨rfl, rfl, rfl, rfl, rfl⟩ | ⟨rfl, rfl, rfl, rfl⟩ | ⟨rfl, rfl, rfl, rfl⟩ | ⟨rfl, rfl⟩ <;>
      rcases n2 with ⟨rfl, rfl, rfl, rfl, rfl⟩ | ⟨rfl, rfl, rfl, rfl⟩ | ⟨rfl, rfl, rfl, rfl, rfl⟩ | ⟨rfl, rfl, rfl, rfl, rfl⟩ | ⟨rfl, rfl, rfl, rfl⟩ | ⟨rfl, rfl, rfl, rfl⟩ | ⟨rfl, rfl⟩ <;>
      first
      | (exfalso; revert h; simp [nodeU]; done)
      | (simp only [nodeU] at h; simp at h; exact ⟨⟨rfl, rfl, rfl, rfl, rfl⟩, h⟩)
      | (simp [nodeU] at h; obtain ⟨e1, e2⟩ := set_cut _ _ _ _ h; exact ⟨⟨rfl, e1, rfl, rfl, rfl⟩, e2⟩)
      | (simp [nodeU] at h; obtain ⟨e1, e2⟩ := row_inj k k' _ _ pk pk' (e41 _) (e41 _) h; injection e2 with _ e2; exact ⟨⟨rfl, rfl, rfl, rfl, e1⟩, e2⟩)
      | (simp [nodeU] at h; obtain ⟨e1, e2⟩ := itoa_cut (ok32 _) (ok32 _) h; injection e2 with _ e2; obtain ⟨e3, e4⟩ := itoa_cut (ok125 _) (ok125 _) e2; injection e4 with _ e4; injection e4 with _ e4; obtain ⟨e5, e6⟩ := row_inj k k' _ _ pk pk' (e41 _) (e41 _) e4; injection e6 with _ e6; exact ⟨⟨rfl, rfl, e1, e3, e5⟩, e6⟩)
    obtain ⟨⟨rfl, rfl, rfl, rfl, rfl⟩, e⟩ := key
    have hx : x = x' ∧ r = t := by
      rcases Classical.em (x = .nil) with h0 | h0 <;> rcases Classical.em (x' = .nil) with h0' | h0'
      · subst h0; subst h0'; rw [tailU, tailU] at e; exact ⟨rfl, e⟩
      · subst h0
        rw [tailU_cons h0', tailU] at e
        exact absurd (hr 44 (by rw [e]; rfl)) (by decide)
      · subst h0'
        rw [tailU_cons h0, tailU] at e
        exact absurd (ht 44 (by rw [← e]; rfl)) (by decide)
      · rw [tailU_cons h0, tailU_cons h0'] at e
        injection e with _ e
        exact row_inj x x' r t px px' hr ht e
    exact ⟨by rw [hx.1], hx.2⟩
end Go.Proofs.YtjpabeeokgfloaaDoor
/- What a parsed tree is: its nodes, how great it is. -/
namespace Go.Proofs.YtjpabeeokgfloaaDoor
open Go Go.RowKit
set_option linter.unusedVariables false

/-! ### How many ranges a set has -/
theorem nodup_len : ∀ (l L : List Int), l.Nodup → (∀ x ∈ l, x ∈ L) → l.length ≤ L.length
  | [], L, _, _ => Nat.zero_le _
  | x :: l, L, hn, hs => by
    rw [List.nodup_cons] at hn
    have hx := hs x (by simp)
    have h := nodup_len l (L.erase x) hn.2 fun y hy => (List.mem_erase_of_ne (fun e => hn.1 (by rw [← e]; exact hy))).2 (hs y (by simp [hy]))
    rw [List.length_erase_of_mem hx] at h
    have : 0 < L.length := List.length_pos_of_mem hx
    rw [List.length_cons]; omega
theorem canonF_starts : ∀ {t : List (Int × Int)} {lo : Int}, CanonF lo t → (∀ p ∈ t, lo ≤ p.1) ∧ (t.map (·.1)).Nodup
  | [], _, _ => ⟨fun p hp => (by cases hp), List.nodup_nil⟩
  | p :: t, lo, ⟨h1, h2, h3, h4⟩ => by
    obtain ⟨k1, k2⟩ := canonF_starts h4
    refine ⟨fun q hq => ?_, ?_⟩
    · rcases List.mem_cons.1 hq with rfl | hq
      · exact h1
      · have := k1 q hq; omega
    · rw [List.map_cons, List.nodup_cons]
      refine ⟨fun hm => ?_, k2⟩
      obtain ⟨q, hq, e⟩ := List.mem_map.1 hm
      have := k1 q hq
      omega
/-- A range's first number is in the set, the one ahead of it isn't. -/
theorem canonF_edge : ∀ {t : List (Int × Int)} {lo : Int}, 0 ≤ lo → CanonF lo t → ∀ p ∈ t, hasL t p.1 = true ∧ hasL t (p.1 - 1) = false
  | [], _, _, _, p, hp => by cases hp
  | q :: t, lo, h0, ⟨h1, h2, h3, h4⟩, p, hp => by
    rcases List.mem_cons.1 hp with rfl | hp
    · refine ⟨by rw [hasL_cons, decide_eq_true (by omega)]; rfl, ?_⟩
      rw [hasL_cons, decide_eq_false (by omega), Bool.false_or]
      cases hx : hasL t (p.1 - 1) with
      | false => rfl
      | true => have := h4.ge hx; omega
    · obtain ⟨e1, e2⟩ := canonF_edge (by omega) h4 p hp
      have hge := (canonF_starts h4).1 p hp
      refine ⟨by rw [hasL_cons, e1, Bool.or_true], ?_⟩
      rw [hasL_cons, e2, Bool.or_false, decide_eq_false (by omega)]
theorem set_len {t xs : List (Int × Int)} (hc : Canon t) (h : ∀ r, hasL t r = hasL xs r) : t.length ≤ xs.length := by
  have := nodup_len (t.map (·.1)) (xs.map fun q => if q.1 < 0 then 0 else q.1) (canonF_starts hc).2 fun x hx => by
    obtain ⟨p, hp, rfl⟩ := List.mem_map.1 hx
    obtain ⟨e1, e2⟩ := canonF_edge (Int.le_refl _) hc p hp
    rw [h] at e1 e2
    obtain ⟨q, hq, h1, h2, h3, h4⟩ := (hasL_iff xs _).1 e1
    refine List.mem_map.2 ⟨q, hq, ?_⟩
    have hno : ¬ (q.1 ≤ p.1 - 1 ∧ p.1 - 1 ≤ q.2 ∧ 0 ≤ p.1 - 1 ∧ p.1 - 1 ≤ 1114111) := fun hh => by
      rw [(hasL_iff xs _).2 ⟨q, hq, hh⟩] at e2; cases e2
    split <;> omega
  simpa using this
theorem not_len {t xs : List (Int × Int)} (hc : Canon t) (h : ∀ r, hasL t r = (inR r && !hasL xs r)) : t.length ≤ xs.length + 1 := by
  have := nodup_len (t.map (·.1)) (0 :: xs.map fun q => q.2 + 1) (canonF_starts hc).2 fun x hx => by
    obtain ⟨p, hp, rfl⟩ := List.mem_map.1 hx
    obtain ⟨e1, e2⟩ := canonF_edge (Int.le_refl _) hc p hp
    rw [h] at e1 e2
    rw [Bool.and_eq_true, Bool.not_eq_true'] at e1
    obtain ⟨i1, i2⟩ := e1
    unfold inR at i1 e2
    rw [decide_eq_true_iff] at i1
    by_cases h0 : p.1 = 0
    · rw [h0]; simp
    · rw [decide_eq_true (by omega), Bool.true_and] at e2
      rw [Bool.not_eq_false'] at e2
      obtain ⟨q, hq, h1, h2, h3, h4⟩ := (hasL_iff xs _).1 e2
      refine List.mem_cons_of_mem _ (List.mem_map.2 ⟨q, hq, ?_⟩)
      have hno : ¬ (q.1 ≤ p.1 ∧ p.1 ≤ q.2 ∧ 0 ≤ p.1 ∧ p.1 ≤ 1114111) := fun hh => by
        rw [(hasL_iff xs _).2 ⟨q, hq, hh⟩] at i2; cases i2
      omega
  simpa using this
theorem partsL_len : ∀ (f : Nat) (l : List Int) (xs : List (Int × Int)) (more : Bool) (s : List (Int × Int)) (r : List Int), partsL f l xs more = some (s, r) → s.length + 5 * r.length ≤ xs.length + 5 * l.length
  | 0, _, _, _, _, _, h => by cases h
  | f + 1, l, xs, more, s, r, h => by
    rw [partsL.eq_def] at h
    dsimp only at h
    split at h
    · injection h with h; injection h with h1 h2; subst h1; subst h2; simp only [List.length_cons]; omega
    · split at h
      · cases h
      · rename_i s1 l1 h1
        have a1 := partL_lt h1
        have a2 := (partL_some h1).2
        have a3 := partsL_len f _ _ _ _ _ h
        rw [List.length_append] at a3
        omega
theorem classL_ok {l r : List Int} {s : List (Int × Int)} (h : classL l = some (s, r)) : Canon s ∧ s.length ≤ 5 * l.length + 1 := by
  unfold classL at h
  split at h
  · obtain ⟨⟨a, b⟩, h1, h⟩ := Option.map_eq_some_iff.1 h
    injection h with h _; subst h
    have := partsL_len _ _ _ _ _ _ h1
    have h2 := not_len (setOf_canon _) (fun r => setOf_has (fun x => !hasL a x) r)
    simp only [List.length_nil, List.length_cons] at this ⊢
    exact ⟨setOf_canon _, by omega⟩
  · obtain ⟨⟨a, b⟩, h1, h⟩ := Option.map_eq_some_iff.1 h
    injection h with h _; subst h
    have := partsL_len _ _ _ _ _ _ h1
    have h2 := set_len (setOf_canon (fun x => hasL a x)) (fun r => (setOf_has (fun x => hasL a x) r).trans (hasL_inR a r).symm)
    simp only [List.length_nil] at this
    exact ⟨setOf_canon _, by dsimp only; omega⟩
end Go.Proofs.YtjpabeeokgfloaaDoor
/- What a parsed tree is: its nodes, how great it is. -/
namespace Go.Proofs.YtjpabeeokgfloaaDoor
open Go Go.RowKit
set_option linter.unusedVariables false

/-! ### What a token is -/
def TokGood (M : Nat) (t : TokL) : Prop := TokOk t ∧ Canon t.set ∧ t.set.length ≤ M ∧ In64 t.mn ∧ In64 t.mx
theorem in64_of {a : Int} (h : -1 ≤ a ∧ a ≤ 1114111) : In64 a := by unfold In64; omega
theorem tokS_good (M : Nat) {r : Int} (h : r = 124 ∨ r = 40 ∨ r = 41 ∨ r = 94 ∨ r = 36) : TokGood M (tokS r) :=
  ⟨Or.inr (Or.inr ⟨rfl, by show r = 124 ∨ r = 94 ∨ r = 36 ∨ r = 40 ∨ r = 41; omega⟩), trivial, Nat.zero_le _, in64_of (a := 0) (by decide), in64_of (a := 0) (by decide)⟩
theorem tokN_good (M : Nat) {a b : Int} (ha : -1 ≤ a ∧ a ≤ 1114111) (hb : -1 ≤ b ∧ b ≤ 1114111) : TokGood M (tokN a b) :=
  ⟨Or.inr (Or.inl rfl), trivial, Nat.zero_le _, in64_of ha, in64_of hb⟩
theorem tokC_good {M : Nat} {s : List (Int × Int)} (hs : Canon s) (hl : s.length ≤ M) : TokGood M (tokC s) :=
  ⟨Or.inl rfl, hs, hl, in64_of (a := 0) (by decide), in64_of (a := 0) (by decide)⟩
theorem numL_in {l r : List Int} {a : Int} (h : numL l = some (a, r)) : 0 ≤ a ∧ a ≤ 50 := by
  unfold numL at h
  split at h
  · rename_i x y l'
    split at h
    · rename_i hx
      simp only [isDig, Bool.and_eq_true, decide_eq_true_iff] at hx
      split at h
      · rename_i hy
        simp only [isDig, Bool.and_eq_true, decide_eq_true_iff] at hy
        split at h
        · cases h
        · injection h with h; injection h with h _; omega
      · injection h with h; injection h with h _; omega
    · cases h
  · rename_i x
    split at h
    · rename_i hx
      simp only [isDig, Bool.and_eq_true, decide_eq_true_iff] at hx
      injection h with h; injection h with h _; omega
    · cases h
  · cases h
theorem braceL_good (M : Nat) {l r : List Int} {t : TokL} (h : braceL l = some (t, r)) : TokGood M t := by
  unfold braceL at h
  split at h
  · rename_i a l' h1
    have := numL_in h1
    injection h with h; injection h with h _; subst h
    exact tokN_good M (by omega) (by omega)
  · rename_i a l' h1
    have := numL_in h1
    injection h with h; injection h with h _; subst h
    exact tokN_good M (by omega) (by omega)
  · rename_i a l' _ h1
    have := numL_in h1
    split at h
    · rename_i b l'' h2
      have := numL_in h2
      split at h
      · cases h
      · injection h with h; injection h with h _; subst h
        exact tokN_good M (by omega) (by omega)
    · cases h
  · cases h
theorem point_canon {r : Int} (h : 0 ≤ r ∧ r ≤ 1114111) : Canon [(r, r)] := ⟨h.1, Int.le_refl _, h.2, trivial⟩
theorem namedS_ok (r : Int) : Canon (namedS r) ∧ (namedS r).length ≤ 4 := by
  unfold namedS
  split
  · exact ⟨by refine ⟨?_, ?_, ?_, trivial⟩ <;> decide, by decide⟩
  · split
    · exact ⟨by refine ⟨?_, ?_, ?_, ?_, ?_, ?_, ?_, ?_, ?_, ?_, ?_, ?_, trivial⟩ <;> decide, by decide⟩
    · split
      · exact ⟨by refine ⟨?_, ?_, ?_, ?_, ?_, ?_, trivial⟩ <;> decide, by decide⟩
      · exact ⟨trivial, by decide⟩
theorem escL_ok {r : Int} {s : List (Int × Int)} {b : Bool} (h : escL r = some (s, b)) : Canon s ∧ s.length ≤ 5 := by
  unfold escL at h
  split at h
  · injection h with h; injection h with h _; subst h
    have := namedS_ok r
    exact ⟨this.1, by omega⟩
  · split at h
    · injection h with h; injection h with h _; subst h
      have h1 := not_len (setOf_canon _) (fun x => setOf_has (fun x => !hasL (namedS (r + 32)) x) x)
      have h2 := (namedS_ok (r + 32)).2
      exact ⟨setOf_canon _, by omega⟩
    · split at h
      · injection h with h; injection h with h _; subst h
        exact ⟨point_canon (by decide), by decide⟩
      · split at h
        · injection h with h; injection h with h _; subst h
          exact ⟨point_canon (by decide), by decide⟩
        · split at h
          · injection h with h; injection h with h _; subst h
            exact ⟨point_canon (by decide), by decide⟩
          · split at h
            · rename_i hm
              injection h with h; injection h with h _; subst h
              simp only [signL, List.mem_cons, List.not_mem_nil, or_false] at hm
              exact ⟨point_canon (by omega), by simp⟩
            · cases h
theorem tokL_good {l r : List Int} {t : TokL} (hl : ∀ x ∈ l, 0 ≤ x ∧ x ≤ 1114111) (h : tokL l = some (t, r)) : TokGood (5 * l.length + 6) t := by
  cases l with
  | nil => cases h
  | cons c l =>
    have hc := hl c (by simp)
    rw [tokL.eq_def] at h
    dsimp only at h
    repeat' split at h
    all_goals first
      | (injection h with h; injection h with h _; subst h; first | exact tokS_good _ (by assumption) | exact tokN_good _ (by decide) (by decide) | exact tokC_good (point_canon hc) (by show 1 ≤ _; omega) | exact tokC_good (by refine ⟨?_, ?_, ?_, ?_, ?_, ?_, trivial⟩ <;> decide) (by simp))
      | exact braceL_good _ h
      | (cases h; done)
      | skip
    · obtain ⟨⟨s, q⟩, h1, h⟩ := Option.map_eq_some_iff.1 h
      injection h with h _; subst h
      have := classL_ok h1
      exact tokC_good this.1 (by show s.length ≤ _; rw [List.length_cons]; omega)
    · obtain ⟨⟨s, b⟩, h1, h⟩ := Option.map_eq_some_iff.1 h
      injection h with h _; subst h
      have := escL_ok h1
      exact tokC_good this.1 (by show s.length ≤ _; omega)
/-- What is left was there. -/
theorem ptL_sub {l : List Int} {s : List (Int × Int)} {is : Bool} {r : List Int} (h : ptL l = some (s, is, r)) : ∀ x ∈ r, x ∈ l := by
  rcases l with _ | ⟨x, l⟩
  · cases h
  unfold ptL at h
  dsimp only at h
  split at h
  · cases h
  split at h
  · rcases l with _ | ⟨e, l⟩
    · cases h
    · dsimp only at h
      obtain ⟨p, _, h⟩ := Option.map_eq_some_iff.1 h
      injection h with _ h; injection h with _ h; subst h
      intro y hy; simp [hy]
  · injection h with h; injection h with _ h; injection h with _ h; subst h
    intro y hy; simp [hy]
theorem partL_sub {l : List Int} {s : List (Int × Int)} {r : List Int} (h : partL l = some (s, r)) : ∀ x ∈ r, x ∈ l := by
  unfold partL at h
  split at h
  · cases h
  · rename_i s1 is l1 h1
    have q1 := ptL_sub h1
    split at h
    · rename_i l2
      split at h
      · split at h
        · rename_i t l3 h3
          have q3 := ptL_sub h3
          split at h
          · cases h
          · injection h with h; injection h with _ h; subst h
            exact fun y hy => q1 y (by simp [q3 y hy])
        · cases h
      · injection h with h; injection h with _ h; subst h; exact q1
    · injection h with h; injection h with _ h; subst h; exact q1
theorem partsL_sub : ∀ (f : Nat) (l : List Int) (xs : List (Int × Int)) (more : Bool) (s : List (Int × Int)) (r : List Int), partsL f l xs more = some (s, r) → ∀ x ∈ r, x ∈ l
  | 0, _, _, _, _, _, h => by cases h
  | f + 1, l, xs, more, s, r, h => by
    rw [partsL.eq_def] at h
    dsimp only at h
    split at h
    · injection h with h; injection h with _ h; subst h; intro y hy; simp [hy]
    · split at h
      · cases h
      · rename_i s1 l1 h1
        have k1 := partL_sub h1
        have k2 := partsL_sub f _ _ _ _ _ h
        exact fun y hy => k1 y (k2 y hy)
theorem classL_sub {l : List Int} {s : List (Int × Int)} {r : List Int} (h : classL l = some (s, r)) : ∀ x ∈ r, x ∈ l := by
  unfold classL at h
  split at h
  · obtain ⟨⟨a, b⟩, h1, h⟩ := Option.map_eq_some_iff.1 h
    injection h with _ h; subst h
    have := partsL_sub _ _ _ _ _ _ h1
    exact fun y hy => by simp [this y hy]
  · obtain ⟨⟨a, b⟩, h1, h⟩ := Option.map_eq_some_iff.1 h
    injection h with _ h; subst h
    exact partsL_sub _ _ _ _ _ _ h1
theorem numL_sub {l : List Int} {a : Int} {r : List Int} (h : numL l = some (a, r)) : ∀ x ∈ r, x ∈ l := by
  unfold numL at h
  split at h
  · split at h
    · split at h
      · split at h
        · cases h
        · injection h with h; injection h with _ h; subst h; intro y hy; simp [hy]
      · injection h with h; injection h with _ h; subst h; intro y hy; simpa using Or.inr hy
    · cases h
  · split at h
    · injection h with h; injection h with _ h; subst h; intro y hy; simp at hy
    · cases h
  · cases h
theorem braceL_sub {l : List Int} {t : TokL} {r : List Int} (h : braceL l = some (t, r)) : ∀ x ∈ r, x ∈ l := by
  unfold braceL at h
  split at h
  · rename_i l' h1
    have := numL_sub h1
    injection h with h; injection h with _ h; subst h; exact fun y hy => this y (by simp [hy])
  · rename_i l' h1
    have := numL_sub h1
    injection h with h; injection h with _ h; subst h; exact fun y hy => this y (by simp [hy])
  · rename_i l' _ h1
    have k1 := numL_sub h1
    split at h
    · rename_i l'' h2
      have k2 := numL_sub h2
      split at h
      · cases h
      · injection h with h; injection h with _ h; subst h; exact fun y hy => k1 y (by simp [k2 y (by simp [hy])])
    · cases h
  · cases h
theorem tokL_sub {l : List Int} {t : TokL} {r : List Int} (h : tokL l = some (t, r)) : ∀ x ∈ r, x ∈ l := by
  rcases l with _ | ⟨x, l⟩
  · cases h
  unfold tokL at h
  try dsimp only at h
  split at h
  · injection h with h; injection h with _ h; subst h; exact fun y hy => by simp [hy]
  split at h
  · injection h with h; injection h with _ h; subst h; exact fun y hy => by simp [hy]
  split at h
  · injection h with h; injection h with _ h; subst h; exact fun y hy => by simp [hy]
  split at h
  · injection h with h; injection h with _ h; subst h; exact fun y hy => by simp [hy]
  split at h
  · have := braceL_sub h; exact fun y hy => by simp [this y hy]
  split at h
  · injection h with h; injection h with _ h; subst h; exact fun y hy => by simp [hy]
  split at h
  · obtain ⟨⟨a, b⟩, h1, h⟩ := Option.map_eq_some_iff.1 h
    injection h with _ h; subst h
    have := classL_sub h1; exact fun y hy => by simp [this y hy]
  split at h
  · rcases l with _ | ⟨e, l⟩
    · cases h
    · obtain ⟨p, _, h⟩ := Option.map_eq_some_iff.1 h
      injection h with _ h; subst h; exact fun y hy => by simp [hy]
  split at h
  · cases h
  · injection h with h; injection h with _ h; subst h; exact fun y hy => by simp [hy]
theorem toksL_good : ∀ (f : Nat) (l : List Int) (ts : List TokL), (∀ x ∈ l, 0 ≤ x ∧ x ≤ 1114111) → toksL f l = some ts → ts.length ≤ l.length ∧ ∀ t ∈ ts, TokGood (5 * l.length + 6) t
  | _, [], ts, _, h => by
    cases (by simpa [toksL] using h : ts = [])
    exact ⟨Nat.zero_le _, fun t ht => by cases ht⟩
  | 0, _ :: _, _, _, h => by cases h
  | f + 1, r :: l, ts, hl, h => by
    rw [toksL] at h
    split at h
    · cases h
    · rename_i t l' ht
      obtain ⟨us, hu, rfl⟩ := Option.map_eq_some_iff.1 h
      have h1 := tokL_lt ht
      have h2 := tokL_sub ht
      obtain ⟨h3, h4⟩ := toksL_good f l' us (fun x hx => hl x (h2 x hx)) hu
      refine ⟨by rw [List.length_cons]; omega, fun u hu => ?_⟩
      rcases List.mem_cons.1 hu with rfl | hu
      · exact tokL_good hl ht
      · obtain ⟨k1, k2, k3, k4⟩ := h4 u hu
        exact ⟨k1, k2, by omega, k4⟩

/-! ### What a tree is -/
def GoodW : Wood → Prop
  | .nil => True
  | .cons op s mn mx k x => (NodeOk op s mn mx k ∧ Canon s ∧ In64 mn ∧ In64 mx) ∧ GoodW k ∧ GoodW x
theorem GoodW.pw : ∀ {T : Wood}, GoodW T → PW T
  | .nil, _ => trivial
  | .cons .., ⟨h, hk, hx⟩ => ⟨h.1, hk.pw, hx.pw⟩
theorem NodeOk.in64 {op : Int} {s : List (Int × Int)} {mn mx : Int} {k : Wood} (h : NodeOk op s mn mx k) : In64 op := by
  unfold NodeOk at h; exact in64_of (by omega)
theorem GoodW.wf : ∀ {T : Wood}, GoodW T → WfW T
  | .nil, _ => trivial
  | .cons .., ⟨h, hk, hx⟩ => ⟨⟨h.1.in64, h.2.2.1, h.2.2.2, fun p hp => by
      have := CanonF.wf (Int.le_refl _) h.2.1 p hp
      exact ⟨in64_of (by omega), in64_of (by omega)⟩⟩, hk.wf, hx.wf⟩
theorem good_app : ∀ {a b : Wood}, GoodW a → GoodW b → GoodW (a.app b)
  | .nil, _, _, h => h
  | .cons .., _, ⟨h, hk, hx⟩, hb => ⟨h, hk, good_app hx hb⟩
theorem good_leaf {op : Int} {s : List (Int × Int)} (h : NodeOk op s 0 0 .nil) (hs : Canon s) : GoodW (leaf op s) := ⟨⟨h, hs, in64_of (by decide), in64_of (by decide)⟩, trivial, trivial⟩
theorem good_one {op : Int} (h : op = 4 ∨ op = 5) : ∀ {l : Wood}, GoodW l → GoodW (oneN op l) ∧ (oneN op l).len = 1 ∧ heavy (oneN op l) ≤ heavy l + 1
  | .nil, _ => ⟨good_leaf (Or.inl ⟨rfl, rfl, rfl, rfl, rfl⟩) trivial, rfl, Nat.le_refl _⟩
  | .cons o s a z k .nil, h' => ⟨h', rfl, Nat.le_succ _⟩
  | .cons o s a z k (.cons o' s' a' z' k' x), h' => ⟨⟨⟨by unfold NodeOk; simp; omega, trivial, in64_of (by decide), in64_of (by decide)⟩, h', trivial⟩, rfl, by simp only [oneN, heavy, List.length_nil]; omega⟩
theorem good_rep {mn mx : Int} (hm : In64 mn) (hx : In64 mx) : ∀ {p : Wood}, GoodW p → GoodW (repLast mn mx p) ∧ heavy (repLast mn mx p) ≤ heavy p + 1
  | .nil, _ => ⟨trivial, Nat.zero_le _⟩
  | .cons o s a z k .nil, h' => ⟨⟨⟨by unfold NodeOk; simp, trivial, hm, hx⟩, h', trivial⟩, by simp only [repLast, heavy, List.length_nil]; omega⟩
  | .cons o s a z k (.cons o' s' a' z' k' x), ⟨h1, h2, h3⟩ => by
    have := good_rep hm hx h3
    rw [repLast.eq_3 _ _ _ _ _ _ _ _ (by intro e; cases e)]
    exact ⟨⟨h1, h2, this.1⟩, by simp only [heavy] at this ⊢; omega⟩
theorem good_fin {a p : Wood} (ha : GoodW a) (hp : GoodW p) : GoodW (finN a p) ∧ (finN a p).len = 1 ∧ heavy (finN a p) ≤ heavy a + heavy p + 2 := by
  obtain ⟨h1, h2, h3⟩ := good_one (Or.inl rfl) hp
  obtain ⟨k1, k2, k3⟩ := good_one (op := 5) (Or.inr rfl) (good_app ha h1)
  rw [heavy_app] at k3
  exact ⟨k1, k2, by unfold finN; omega⟩
def heavyS : List (Wood × Wood) → Nat
  | [] => 0
  | q :: st => heavy q.1 + heavy q.2 + heavyS st
theorem runT_good (M D : Nat) : ∀ (ts : List TokL) (st : List (Wood × Wood)) (a p : Wood) (lo : Bool) (T : Wood), (∀ t ∈ ts, TokGood M t) → (∀ q ∈ st, GoodW q.1 ∧ GoodW q.2) → GoodW a → GoodW p → runT D ts st a p lo = some T → GoodW T ∧ T.len = 1 ∧ heavy T ≤ heavyS st + heavy a + heavy p + ts.length * (M + 2) + 2
  | [], [], a, p, lo, T, _, _, ha, hp, h => by
    rw [runT] at h
    injection h with h; subst h
    have := good_fin ha hp
    exact ⟨this.1, this.2.1, by simp only [heavyS]; omega⟩
  | [], _ :: _, _, _, _, _, _, _, _, _, h => by cases h
  | t :: ts, st, a, p, lo, T, ht, hst, ha, hp, h => by
    obtain ⟨hk, hc, hl, hmn, hmx⟩ := ht t (by simp)
    have ih := fun st a p lo => runT_good M D ts st a p lo T fun t h => ht t (by simp [h])
    have hlen : (t :: ts).length * (M + 2) = ts.length * (M + 2) + (M + 2) := by rw [List.length_cons, Nat.succ_mul]
    rw [hlen]
    rcases hk with hk | hk | ⟨hk, hr | hr | hr | hr | hr⟩
    · rw [run_char hk] at h
      obtain ⟨i1, i2, i3⟩ := ih _ _ _ _ hst ha (good_app hp (good_leaf (Or.inr (Or.inl ⟨rfl, rfl, rfl, rfl⟩)) hc)) h
      refine ⟨i1, i2, ?_⟩
      rw [heavy_app] at i3
      simp only [leaf, heavy] at i3
      omega
    · rw [run_count hk] at h
      split at h
      · have k := good_rep hmn hmx hp
        obtain ⟨i1, i2, i3⟩ := ih _ _ _ _ hst ha k.1 h
        exact ⟨i1, i2, by have := k.2; omega⟩
      · cases h
    · rw [run_bar hk hr] at h
      have k := good_one (op := 4) (Or.inl rfl) hp
      obtain ⟨i1, i2, i3⟩ := ih _ _ _ _ hst (good_app ha k.1) (show GoodW .nil from trivial) h
      refine ⟨i1, i2, ?_⟩
      rw [heavy_app] at i3
      have := k.2.2
      simp only [heavy] at i3
      omega
    · rw [run_begin hk hr] at h
      obtain ⟨i1, i2, i3⟩ := ih _ _ _ _ hst ha (good_app hp (good_leaf (Or.inr (Or.inr (Or.inl ⟨rfl, rfl, rfl, rfl, rfl⟩))) trivial)) h
      refine ⟨i1, i2, ?_⟩
      rw [heavy_app] at i3
      simp only [leaf, heavy, List.length_nil] at i3
      omega
    · rw [run_end hk hr] at h
      obtain ⟨i1, i2, i3⟩ := ih _ _ _ _ hst ha (good_app hp (good_leaf (Or.inr (Or.inr (Or.inr (Or.inl ⟨rfl, rfl, rfl, rfl, rfl⟩)))) trivial)) h
      refine ⟨i1, i2, ?_⟩
      rw [heavy_app] at i3
      simp only [leaf, heavy, List.length_nil] at i3
      omega
    · rw [run_paren hk hr] at h
      split at h
      · obtain ⟨i1, i2, i3⟩ := ih _ _ _ _ (fun q hq => by
          rcases List.mem_cons.1 hq with rfl | hq
          · exact ⟨ha, hp⟩
          · exact hst q hq) (show GoodW .nil from trivial) (show GoodW .nil from trivial) h
        refine ⟨i1, i2, ?_⟩
        simp only [heavyS, heavy] at i3
        omega
      · cases h
    · cases st with
      | nil => rw [run_shut_nil hk hr] at h; cases h
      | cons q st =>
        obtain ⟨a', p'⟩ := q
        rw [run_shut a' p' hk hr] at h
        have k := good_fin ha hp
        have q : GoodW a' ∧ GoodW p' := hst (a', p') (by simp)
        obtain ⟨i1, i2, i3⟩ := ih _ _ _ _ (fun q hq => hst q (by simp [hq])) q.1 (good_app q.2 k.1) h
        refine ⟨i1, i2, ?_⟩
        rw [heavy_app] at i3
        have k3 := k.2.2
        have q3 : heavyS ((a', p') :: st) = heavy a' + heavy p' + heavyS st := rfl
        rw [q3]
        omega
/-- A pattern's tree. -/
theorem treeL_good {l : List Int} {T : Wood} (hl : ∀ x ∈ l, 0 ≤ x ∧ x ≤ 1114111) (hn : l.length ≤ 200) (h : treeL l = some T) : GoodW T ∧ T.len = 1 ∧ heavy T ≤ 1000000 := by
  unfold treeL at h
  obtain ⟨ts, h1, h2⟩ := Option.bind_eq_some_iff.1 h
  obtain ⟨k1, k2⟩ := toksL_good _ _ _ hl h1
  obtain ⟨i1, i2, i3⟩ := runT_good _ 0 ts [] .nil .nil false T k2 (fun q hq => by cases hq) trivial trivial h2
  refine ⟨i1, i2, ?_⟩
  simp only [heavyS, heavy] at i3
  have : ts.length * (5 * l.length + 6 + 2) ≤ 200 * 1008 := Nat.mul_le_mul (by omega) (by omega)
  omega
theorem parseT_good {s : ByteArray} {T : Wood} (hs : s.size ≤ 200) (h : parseT s = some T) : GoodW T ∧ T.len = 1 ∧ heavy T ≤ 1000000 := by
  unfold parseT at h
  obtain ⟨l, h1, h2⟩ := Option.bind_eq_some_iff.1 h
  have := pointsL_len _ _ _ (Nat.le_refl _) h1
  rw [nums_length] at this
  exact treeL_good (pointsL_is h1) (by omega) h2
end Go.Proofs.YtjpabeeokgfloaaDoor
/- ParseAll: the program's Parse against the document's. -/
namespace Go.Proofs.YtjpabeeokgfloaaDoor
open Go Go.RowKit
set_option linter.unusedVariables false
set_option maxRecDepth 20000

/-- What both answer. -/
def lawT (s : ByteArray) : Wood × Int := if 200 < s.size then (zeroN, 16) else match parseT s with
  | none => (zeroN, 15)
  | some T => (T, 0)
theorem lawT_heavy (s : ByteArray) : heavy (lawT s).1 ≤ 1000000 := by
  unfold lawT
  split
  · decide
  · rename_i hs
    split
    · decide
    · rename_i T h
      exact (parseT_good (by omega) h).2.2
theorem prog_law (s : ByteArray) (w : World) : Calls Tryd.prog 6 #[.string s] w fun e w' => ∃ x : NV, e = .returned (.tuple #[x.val, .int .i64 (lawT s).2]) ∧ NodesIn (fun _ => True) w' [x] (lawT s).1 ∧ Below w.heap.size w w' := by
  refine (parse_any facesS s w).mono fun e w' hv => ?_
  unfold lawT
  obtain ⟨hb, ⟨h1, rfl⟩ | ⟨h1, h2, rfl⟩ | ⟨x, n, h1, h2, rfl, hN⟩⟩ := hv
  · rw [if_pos h1]; exact ⟨_, rfl, leafN' _ _ 0, hb⟩
  · rw [if_neg (by omega), h2]; exact ⟨_, rfl, leafN' _ _ 0, hb⟩
  · rw [if_neg (by omega), h2]; exact ⟨x, rfl, hN.move (Nat.le_refl _) (fun b _ _ => ⟨trivial, rfl⟩), hb⟩
theorem ref_law (s : ByteArray) (w : World) : Calls Tryd.prog 7 #[.string s] w fun e w' => ∃ x : NV, e = .returned (.tuple #[x.val, .int .i64 (lawT s).2]) ∧ NodesIn (fun _ => True) w' [x] (lawT s).1 ∧ Below w.heap.size w w' := by
  refine (rparse_any s w).mono fun e w' hv => ?_
  unfold lawT
  obtain ⟨hb, ⟨h1, rfl⟩ | ⟨h1, h2, rfl⟩ | ⟨x, n, h1, h2, rfl, hN⟩⟩ := hv
  · rw [if_pos h1]; exact ⟨⟨0, none, 0, 0, 0, 0, none, 0, 0⟩, rfl, leafN' _ _ 0, hb⟩
  · rw [if_neg (by omega), h2]; exact ⟨⟨0, none, 0, 0, 0, 0, none, 0, 0⟩, rfl, leafN' _ _ 0, hb⟩
  · rw [if_neg (by omega), h2]; exact ⟨x, rfl, hN, hb⟩
/-- Two answers are the same. -/
theorem both_same {F G : Nat → Prop} {w2 w3 : World} {x y : NV} {T : Wood} (hx : NodesIn F w2 [x] T) (hb : Below (w2.alloc (.cells #[.int .i64 x.op, .slice x.A x.ns x.cs, .int .i64 x.mn, .int .i64 x.mx, .slice x.D x.nk x.ck] 26)).heap.size (w2.alloc (.cells #[.int .i64 x.op, .slice x.A x.ns x.cs, .int .i64 x.mn, .int .i64 x.mx, .slice x.D x.nk x.ck] 26)) w3) (hy : NodesIn G w3 [y] T) (hT : heavy T ≤ 1000000) :
    Calls Tryd.prog 8 #[.agg #[.int .i64 x.op, .slice x.A x.ns x.cs, .int .i64 x.mn, .int .i64 x.mx, .slice x.D x.nk x.ck], .agg #[.int .i64 y.op, .slice y.A y.ns y.cs, .int .i64 y.mn, .int .i64 y.mx, .slice y.D y.nk y.ck]] (w3.alloc (.cells #[.int .i64 y.op, .slice y.A y.ns y.cs, .int .i64 y.mn, .int .i64 y.mx, .slice y.D y.nk y.ck] 26)) fun e w' => e = .returned (.bool true) ∧ Below (w3.alloc (.cells #[.int .i64 y.op, .slice y.A y.ns y.cs, .int .i64 y.mn, .int .i64 y.mx, .slice y.D y.nk y.ck] 26)).heap.size (w3.alloc (.cells #[.int .i64 y.op, .slice y.A y.ns y.cs, .int .i64 y.mn, .int .i64 y.mx, .slice y.D y.nk y.ck] 26)) w' := by
  have k1 : Below w2.heap.size w2 (w2.alloc (.cells #[.int .i64 x.op, .slice x.A x.ns x.cs, .int .i64 x.mn, .int .i64 x.mx, .slice x.D x.nk x.ck] 26)) := (Below.refl _ _).alloc (Nat.le_refl _) _
  have k2 : Below w3.heap.size w3 (w3.alloc (.cells #[.int .i64 y.op, .slice y.A y.ns y.cs, .int .i64 y.mn, .int .i64 y.mx, .slice y.D y.nk y.ck] 26)) := (Below.refl _ _).alloc (Nat.le_refl _) _
  have h := rsame_any (heavy T) T (Nat.le_refl _) T F G _ _ _ ((((hx.below k1).below hb).below k2).one') ((hy.below k2).one') hT hT
  rw [Wood.same_refl] at h
  exact h
set_option maxHeartbeats 2000000 in
theorem all_out (s : ByteArray) (w : World) (hM : Pow w) (h : 300 < s.size) :
    Calls Tryd.prog 3 #[.string s] w fun e w' => e = .returned (.bool true) ∧ Below w.heap.size w w' := by
  have HA := Lib.hid (awake_any w hM)
  have HM := Lib.hid hM
  have h1 : (300 : Int) < (s.size : Int) := by omega
  clear hM h
  go_enter Tryd.func3, Tryd.ntmps3
  go_wp2_with (first
    | (go_at_call 5; (with_reducible refine HA.out.mono ?_); rintro e w1 ⟨rfl, hb⟩; have HB := Lib.hid hb; have HA2 := Lib.hid (awake_any w1 ((HM.out.on hb).up hb.size)); clear hb)
    | (go_at_call 5; (with_reducible refine HA2.out.mono ?_); rintro e w2 ⟨rfl, hb⟩; have HB2 := Lib.hid hb; clear hb))
  go_ret
  exact ⟨rfl, then_ HB.out HB2.out⟩
set_option maxHeartbeats 4000000 in
theorem all_in (s : ByteArray) (w : World) (hM : Pow w) (h : ¬ 300 < s.size) :
    Calls Tryd.prog 3 #[.string s] w fun e w' => e = .returned (.bool true) ∧ Below w.heap.size w w' := by
  have HA := Lib.hid (awake_any w hM)
  have HP := Lib.hid fun w => prog_law s w
  have HR := Lib.hid fun w => ref_law s w
  have HV := Lib.hid (lawT_heavy s)
  have h1 : ¬ (300 : Int) < (s.size : Int) := by omega
  obtain ⟨T, hT⟩ : ∃ T, T = (lawT s).1 := ⟨_, rfl⟩
  obtain ⟨E, hE⟩ : ∃ E, E = (lawT s).2 := ⟨_, rfl⟩
  rw [← hT, ← hE] at HP HR
  rw [← hT] at HV
  clear hM h hT hE
  go_enter Tryd.func3, Tryd.ntmps3
  go_wp2_with (first
    | (go_at_call 5; (with_reducible refine HA.out.mono ?_); rintro e w1 ⟨rfl, hb⟩; have HB := Lib.hid hb; clear hb)
    | (go_at_call 6; (with_reducible refine (HP.out _).mono ?_); rintro e w2 ⟨x, rfl, hN, hb⟩; have HB2 := Lib.hid (then_ HB.out hb); have HN := Lib.hid hN; clear hb hN; simp only [NV.val])
    | (go_at_call 7; (with_reducible refine (HR.out _).mono ?_); rintro e w3 ⟨y, rfl, hN, hb⟩; have HB3 := Lib.hid (then_ (HB2.out.alloc HB2.out.size (.cells #[.int .i64 x.op, .slice x.A x.ns x.cs, .int .i64 x.mn, .int .i64 x.mx, .slice x.D x.nk x.ck] 26)) hb); have HX := Lib.hid (show w3.heap[w2.heap.size]? = some (.cells #[.int .i64 x.op, .slice x.A x.ns x.cs, .int .i64 x.mn, .int .i64 x.mx, .slice x.D x.nk x.ck] 26 (0, 0)) from (hb.block _ (by simp)).trans (heap_alloc_new w2 _)); have HC := Lib.hid (both_same HN.out hb hN HV.out); have yy := (fun o => box_facts (NodeAlloc HX.out o)); have y0 := fun o => (yy o).1; have y1 := fun o => (yy o).2.1; have y2 := fun o => (yy o).2.2.1; have y3 := fun o => (yy o).2.2.2.1; have y4 := fun o => (yy o).2.2.2.2.1; clear yy hb hN; simp only [NV.val])
    | (go_at_call 8; (with_reducible refine HC.out.mono ?_); rintro e w4 ⟨rfl, hb⟩; have HB4 := Lib.hid hb; clear hb))
  go_ret
  exact ⟨rfl, (HB3.out.alloc HB3.out.size _).trans (HB4.out.mono (Nat.le_trans HB3.out.size (by simp)))⟩
theorem all_any (s : ByteArray) (w : World) (hM : Pow w) : Calls Tryd.prog 3 #[.string s] w fun e w' => e = .returned (.bool true) ∧ Below w.heap.size w w' := by
  by_cases h : 300 < s.size
  · exact all_out s w hM h
  · exact all_in s w hM h
end Go.Proofs.YtjpabeeokgfloaaDoor
