/- What a decoder tells, in plain words on lists of numbers: what is settled stays, whatever comes behind; the text of text; there and back. -/
import Derived.Test.YtoojfjealncddaaDoorOpenI
import Derived.Test.YtoojfjealncddaaDoorJoinR
import Derived.Test.YtoojfjealncddaaDoorMarkAny
import Derived.Test.YtoojfjealncddaaDoorOEncodeB
import Derived.Test.YtoojfjealncddaaDoorPutAll
namespace Go.Proofs.YtoojfjealncddaaDoor
open Go Go.RowKit
set_option linter.unusedVariables false

/-- Two octets or three of a unit's and what is behind: do octets behind tell what stands there? -/
def openU (k : Int) (b : List Int) : Bool :=
  if b.length < 2 then true else if 3 < b.length then false else decide ((joinI (unitsL k (b ++ (encL k [65536]).drop b.length))).2 = 2)
/-- What stands ahead, and how many octets it takes, if nothing comes behind. -/
def nextI (k : Int) (xs : List Int) : Int × Int :=
  if k = 1 then getI xs else if xs.length < 2 then (65533, (xs.length : Int)) else ((joinI (unitsL k (xs.take 4))).1, 2 * (joinI (unitsL k (xs.take 4))).2)
/-- Isn't it settled? -/
def waitI (k : Int) (xs : List Int) : Bool := if k = 1 then openI xs else openU k (xs.take 4)
/-- .. as a decoder has it. -/
def stepI (k : Int) (cl : Bool) (xs : List Int) : Int × Int := if (!cl && waitI k xs) = true then (0, 0) else nextI k xs

/-- What is told of octets in n steps, and what is left of them. -/
def PourN (k : Int) (cl : Bool) : Nat → List Int → List Int → List Int → Prop
  | 0, xs, o, r => ¬ 0 < (stepI k cl xs).2 ∧ o = [] ∧ r = xs
  | n + 1, xs, o, r => 0 < (stepI k cl xs).2 ∧ ∃ out, o = putI (sndI (stepI k cl xs).1) ++ out ∧ PourN k cl n (xs.drop (stepI k cl xs).2.toNat) out r
/-- What is told of octets, and what is left of them. -/
def Pour (k : Int) (cl : Bool) (xs o r : List Int) : Prop := ∃ n, PourN k cl n xs o r
theorem Pour.stop {k : Int} {cl : Bool} {xs : List Int} (h : ¬ 0 < (stepI k cl xs).2) : Pour k cl xs [] xs := ⟨0, h, rfl, rfl⟩
theorem Pour.go {k : Int} {cl : Bool} {xs out rest : List Int} (h : 0 < (stepI k cl xs).2) (t : Pour k cl (xs.drop (stepI k cl xs).2.toNat) out rest) : Pour k cl xs (putI (sndI (stepI k cl xs).1) ++ out) rest := by
  obtain ⟨n, hn⟩ := t
  exact ⟨n + 1, h, out, rfl, hn⟩
theorem Pour.inv {k : Int} {cl : Bool} {xs o r : List Int} (h : Pour k cl xs o r) : (¬ 0 < (stepI k cl xs).2 ∧ o = [] ∧ r = xs) ∨
    (0 < (stepI k cl xs).2 ∧ ∃ out, o = putI (sndI (stepI k cl xs).1) ++ out ∧ Pour k cl (xs.drop (stepI k cl xs).2.toNat) out r) := by
  obtain ⟨n, hn⟩ := h
  cases n with
  | zero => exact .inl hn
  | succ n =>
    obtain ⟨h0, out, ho, hn⟩ := hn
    exact .inr ⟨h0, out, ho, n, hn⟩
theorem Pour.ind {k : Int} {cl : Bool} {motive : (xs o r : List Int) → Pour k cl xs o r → Prop}
    (stop : ∀ {xs : List Int} (h : ¬ 0 < (stepI k cl xs).2), motive xs [] xs (Pour.stop h))
    (go : ∀ {xs out rest : List Int} (h : 0 < (stepI k cl xs).2) (t : Pour k cl (xs.drop (stepI k cl xs).2.toNat) out rest), motive _ out rest t → motive xs _ rest (Pour.go h t))
    (xs o r : List Int) (h : Pour k cl xs o r) : motive xs o r h := by
  obtain ⟨n, hn⟩ := h
  induction n generalizing xs o r with
  | zero =>
    obtain ⟨h0, rfl, rfl⟩ := hn
    exact stop h0
  | succ n ih =>
    obtain ⟨h0, out, rfl, hn'⟩ := hn
    exact go h0 ⟨n, hn'⟩ (ih _ _ _ hn')

theorem Pour.one {k : Int} {cl : Bool} {xs o r o' r' : List Int} (h : Pour k cl xs o r) (h' : Pour k cl xs o' r') : o = o' ∧ r = r' := by
  induction xs, o, r, h using Pour.ind generalizing o' r' with
  | stop h0 =>
    rcases h'.inv with ⟨_, h1, h2⟩ | ⟨h1, _⟩
    · exact ⟨h1.symm, h2.symm⟩
    · exact absurd h1 h0
  | go h0 t ih =>
    rcases h'.inv with ⟨h1, _⟩ | ⟨h1, out, ho, t'⟩
    · exact absurd h0 h1
    · obtain ⟨h2, h3⟩ := ih t'
      exact ⟨by rw [ho, h2], h3⟩

theorem joinI_bounds {l : List Int} (h : l ≠ []) : 1 ≤ (joinI l).2 ∧ (joinI l).2 ≤ 2 ∧ (joinI l).2 ≤ l.length := by
  rcases l with _ | ⟨a, _ | ⟨b, t⟩⟩
  · exact absurd rfl h
  · simp only [joinI]; split <;> simp
  · simp only [joinI]
    (repeat' split) <;> simp <;> omega
theorem unitsL_ne {k : Int} (hk : k = 2 ∨ k = 3) {l : List Int} (h : 2 ≤ l.length) : unitsL k l ≠ [] := by
  intro e
  have := congrArg List.length e
  rw [unitsL_length hk] at this
  simp at this
  omega

theorem nextI_bounds {k : Int} (hk : k = 1 ∨ k = 2 ∨ k = 3) {xs : List Int} (h : xs ≠ []) : 1 ≤ (nextI k xs).2 ∧ (nextI k xs).2 ≤ xs.length := by
  unfold nextI
  by_cases h1 : k = 1
  · rw [if_pos h1]; exact getI_bounds h
  · rw [if_neg h1]
    have hk2 : k = 2 ∨ k = 3 := by omega
    have hl : xs.length ≠ 0 := fun e => h (List.eq_nil_of_length_eq_zero e)
    by_cases h2 : xs.length < 2
    · rw [if_pos h2]; simp; omega
    · rw [if_neg h2]
      have hb := joinI_bounds (unitsL_ne hk2 (l := xs.take 4) (by simp; omega))
      rw [unitsL_length hk2] at hb
      simp only [List.length_take] at hb
      simp only
      omega
theorem nextI_nil {k : Int} (hk : k = 1 ∨ k = 2 ∨ k = 3) : (nextI k []).2 = 0 := by
  unfold nextI
  split
  · rfl
  · rfl
theorem stepI_le {k : Int} (hk : k = 1 ∨ k = 2 ∨ k = 3) (cl : Bool) (xs : List Int) : 0 ≤ (stepI k cl xs).2 ∧ (stepI k cl xs).2 ≤ xs.length := by
  unfold stepI
  split
  · simp
  · rcases xs with _ | ⟨x, t⟩
    · rw [nextI_nil hk]; simp
    · have := nextI_bounds hk (xs := x :: t) (by simp)
      omega
theorem stepI_true (k : Int) (xs : List Int) : stepI k true xs = nextI k xs := by unfold stepI; simp

/-- As if nothing came behind, all is told. -/
theorem Pour.all {k : Int} (hk : k = 1 ∨ k = 2 ∨ k = 3) {xs o r : List Int} (h : Pour k true xs o r) : r = [] := by
  generalize hc : true = cl at h
  induction xs, o, r, h using Pour.ind with
  | @stop xs h0 =>
    subst hc
    rcases xs with _ | ⟨x, t⟩
    · rfl
    · rw [stepI_true] at h0
      have := nextI_bounds hk (xs := x :: t) (by simp)
      omega
  | go h0 t ih => exact ih
theorem Pour.ex {k : Int} (hk : k = 1 ∨ k = 2 ∨ k = 3) (cl : Bool) : ∀ (n : Nat) (xs : List Int), xs.length ≤ n → ∃ o r, Pour k cl xs o r
  | 0, xs, h => by
    have hl := stepI_le hk cl xs
    exact ⟨[], xs, .stop (by omega)⟩
  | n + 1, xs, h => by
    have hl := stepI_le hk cl xs
    by_cases h0 : 0 < (stepI k cl xs).2
    · obtain ⟨o, r, hp⟩ := Pour.ex hk cl n (xs.drop (stepI k cl xs).2.toNat) (by rw [List.length_drop]; omega)
      exact ⟨_, r, .go h0 hp⟩
    · exact ⟨[], xs, .stop h0⟩
theorem Pour.size {k : Int} (hk : k = 1 ∨ k = 2 ∨ k = 3) {cl : Bool} {xs o r : List Int} (h : Pour k cl xs o r) : o.length ≤ 4 * xs.length ∧ r.length ≤ xs.length := by
  induction xs, o, r, h using Pour.ind with
  | stop h0 => simp
  | @go xs out rest h0 t ih =>
    have hl := stepI_le hk cl xs
    have hp := (putI_len (sndI (stepI k cl xs).1)).2
    rw [List.length_drop] at ih
    rw [List.length_append]
    omega
/-- What is left are the last ones. -/
theorem Pour.rest {k : Int} {cl : Bool} {xs o r : List Int} (h : Pour k cl xs o r) : ∃ d, r = xs.drop d := by
  induction xs, o, r, h using Pour.ind with
  | stop h0 => exact ⟨0, rfl⟩
  | @go xs out rest h0 t ih =>
    obtain ⟨d, hd⟩ := ih
    exact ⟨(stepI k cl xs).2.toNat + d, by rw [hd, List.drop_drop]⟩
/-- First what is settled, then the rest as if nothing came behind: together all. -/
theorem Pour.two {k : Int} {xs o r o' r' : List Int} (h : Pour k false xs o r) (h' : Pour k true r o' r') : Pour k true xs (o ++ o') r' := by
  generalize hc : false = cl at h
  induction xs, o, r, h using Pour.ind with
  | stop h0 => exact h'
  | @go xs out rest h0 t ih =>
    subst hc
    have e : stepI k true xs = stepI k false xs := by
      rw [stepI_true]
      unfold stepI at h0 ⊢
      split at h0
      · simp at h0
      · rename_i hn
        rw [if_neg hn]
    have := Pour.go (k := k) (cl := true) (xs := xs) (by rw [e]; exact h0) (by rw [e]; exact ih h')
    rw [e, ← List.append_assoc] at this
    exact this

theorem unitsL_cons {k : Int} (hk : k = 2 ∨ k = 3) (a b : Int) (t : List Int) : unitsL k (a :: b :: t) = unit2 k a b :: unitsL k t := by
  rw [unitsL_is hk, unitsL_is hk]
  rw [show (a :: b :: t).length / 2 = t.length / 2 + 1 by simp; omega]
  unfold unitsAt
  rw [List.range_succ_eq_map, List.map_cons, List.map_map]
  congr 1
theorem unitsL_short {k : Int} (hk : k = 2 ∨ k = 3) {l : List Int} (h : l.length < 2) : unitsL k l = [] := by
  rw [unitsL_is hk, show l.length / 2 = 0 by omega]
  rfl
theorem unitsL_append {k : Int} (hk : k = 2 ∨ k = 3) : ∀ (us : List Int) (t : List Int), (∀ u ∈ us, 0 ≤ u ∧ u < 65536) → unitsL k (octL k us ++ t) = us ++ unitsL k t
  | [], t, _ => by simp [octL]
  | u :: us, t, h => by
    have hu := h u (by simp)
    have ih := unitsL_append hk us t (fun v hv => h v (List.mem_cons_of_mem _ hv))
    rw [show u :: us = [u] ++ us from rfl, octL_append, octL_one, List.append_assoc]
    rcases hk with rfl | rfl
    · rw [show oct2 2 u = [u % 256, u / 256 % 256] from rfl]
      simp only [List.cons_append, List.nil_append]
      rw [unitsL_cons (.inl rfl), ih]
      congr 1
      simp only [unit2, if_pos]
      omega
    · rw [show oct2 3 u = [u / 256 % 256, u % 256] from rfl]
      simp only [List.cons_append, List.nil_append]
      rw [unitsL_cons (.inr rfl), ih]
      congr 1
      rw [unit2, if_neg (by decide)]
      omega
/-- Only the first two units tell. -/
theorem joinI_two (l : List Int) : joinI (l.take 2) = joinI l := by
  rcases l with _ | ⟨a, _ | ⟨b, t⟩⟩ <;> rfl
theorem unitsL_take {k : Int} (hk : k = 2 ∨ k = 3) (l : List Int) : unitsL k (l.take 4) = (unitsL k l).take 2 := by
  match l with
  | [] => rw [unitsL_short hk (by simp), unitsL_short hk (by simp)]; rfl
  | [a] => rw [unitsL_short hk (by simp), unitsL_short hk (by simp)]; rfl
  | [a, b] => simp [unitsL_cons hk, unitsL_short hk]
  | [a, b, c] => simp [unitsL_cons hk, unitsL_short hk]
  | a :: b :: c :: d :: t => simp [unitsL_cons hk, unitsL_short hk]
theorem unitsL_drop {k : Int} (hk : k = 2 ∨ k = 3) : ∀ (n : Nat) (l : List Int), unitsL k (l.drop (2 * n)) = (unitsL k l).drop n
  | 0, l => rfl
  | n + 1, [] => by rw [List.drop_nil, unitsL_short hk (by simp)]; simp
  | n + 1, [a] => by rw [unitsL_short hk (l := [a]) (by simp), unitsL_short hk (by simp; omega)]; simp
  | n + 1, a :: b :: t => by
    rw [show 2 * (n + 1) = 2 * n + 1 + 1 by omega, List.drop_succ_cons, List.drop_succ_cons, unitsL_drop hk n t, unitsL_cons hk, List.drop_succ_cons]

theorem nextI_units {k : Int} (hk : k = 2 ∨ k = 3) {xs : List Int} (h : 2 ≤ xs.length) : nextI k xs = ((joinI (unitsL k xs)).1, 2 * (joinI (unitsL k xs)).2) := by
  unfold nextI
  rw [if_neg (by omega), if_neg (by omega), unitsL_take hk, joinI_two]

/-- What lies in such a span has one of its ends' size. -/
theorem szI_span {n r v : Int} {m : Nat} (hn : n = 2 ∨ n = 3 ∨ n = 4) (hm : m = 1 ∨ m = 2 ∨ m = 3) (hmn : (m : Int) < n) (h0 : r * 64 ^ m ≤ v) (h1 : v ≤ r * 64 ^ m + (64 ^ m - 1)) (hs : szI v = n) :
    szI (r * 64 ^ m) = n ∨ szI (r * 64 ^ m + (64 ^ m - 1)) = n := by
  have his := szI_pos_is hs (by omega)
  have h2 := isI_true.1 his
  unfold szI at hs
  rw [his] at hs
  simp only [Bool.true_eq_false, if_false] at hs
  have key : ∀ x : Int, (0 ≤ x ∧ x ≤ 1114111 ∧ ¬ (55296 ≤ x ∧ x ≤ 57343)) → (n = 2 → 128 ≤ x ∧ x < 2048) → (n = 3 → 2048 ≤ x ∧ x < 65536) → (n = 4 → 65536 ≤ x) → szI x = n := by
    intro x hx q2 q3 q4
    unfold szI
    rw [isI_true.2 hx]
    simp only [Bool.true_eq_false, if_false]
    rcases hn with rfl | rfl | rfl
    · have := q2 rfl; rw [if_neg (by omega), if_pos (by omega)]
    · have := q3 rfl; rw [if_neg (by omega), if_neg (by omega), if_pos (by omega)]
    · have := q4 rfl; rw [if_neg (by omega), if_neg (by omega), if_neg (by omega)]
  have b2 : n = 2 → 128 ≤ v ∧ v < 2048 := by intro e; subst e; (repeat' split at hs) <;> omega
  have b3 : n = 3 → 2048 ≤ v ∧ v < 65536 := by intro e; subst e; (repeat' split at hs) <;> omega
  have b4 : n = 4 → 65536 ≤ v := by intro e; subst e; (repeat' split at hs) <;> omega
  clear hs
  rcases hm with rfl | rfl | rfl
  · refine .inl (key _ ?_ ?_ ?_ ?_) <;> rcases hn with rfl | rfl | rfl <;> simp at * <;> omega
  · by_cases hz : r * 4096 < 2048
    · refine .inr (key _ ?_ ?_ ?_ ?_) <;> rcases hn with rfl | rfl | rfl <;> simp at * <;> omega
    · refine .inl (key _ ?_ ?_ ?_ ?_) <;> rcases hn with rfl | rfl | rfl <;> simp at * <;> omega
  · by_cases hz : r * 262144 < 65536
    · refine .inr (key _ ?_ ?_ ?_ ?_) <;> rcases hn with rfl | rfl | rfl <;> simp at * <;> omega
    · refine .inl (key _ ?_ ?_ ?_ ?_) <;> rcases hn with rfl | rfl | rfl <;> simp at * <;> omega

theorem gat_span : ∀ (t : List Int) (r : Int), (gat r t).2 = true → r * 64 ^ t.length ≤ (gat r t).1 ∧ (gat r t).1 ≤ r * 64 ^ t.length + (64 ^ t.length - 1)
  | [], r, _ => by simp [gat]
  | c :: t, r, h => by
    unfold gat at h ⊢
    split at h
    · rename_i hc
      rw [if_pos hc]
      have ih := gat_span t (r * 64 + (c - 128)) h
      have hp : (0 : Int) < 64 ^ t.length := Int.pow_pos (by decide)
      generalize gat (r * 64 + (c - 128)) t = g at *
      rw [List.length_cons, Int.pow_succ]
      generalize (64 : Int) ^ t.length = p at *
      have e1 : (r * 64 + (c - 128)) * p = r * (p * 64) + (c - 128) * p := by rw [Int.add_mul, Int.mul_assoc, Int.mul_comm 64 p]
      have e2 : 0 ≤ (c - 128) * p := Int.mul_nonneg (by omega) (by omega)
      have e3 : (c - 128) * p ≤ 63 * p := Int.mul_le_mul_of_nonneg_right (by omega) (by omega)
      omega
    · cases h

/-- What is no beginning of more says what it says, whatever comes behind. -/
theorem getI_stays {xs : List Int} (h : openI xs = false) (ys : List Int) : getI (xs ++ ys) = getI xs := by
  rcases xs with _ | ⟨x, t⟩
  · cases h
  · rw [List.cons_append]
    simp only [openI] at h
    simp only [getI]
    have hor := lenI_or x
    generalize hh : headI (lenI x) x = hd at *
    by_cases hn : lenI x ≤ (t.length : Int) + 1
    · have e1 : (lenI x = 0 ∨ (((t ++ ys).length : Nat) : Int) + 1 < lenI x) = (lenI x = 0 ∨ (t.length : Int) + 1 < lenI x) := by
        rw [List.length_append]; apply propext; omega
      have e2 : (t ++ ys).take ((lenI x).toNat - 1) = t.take ((lenI x).toNat - 1) := List.take_append_of_le_length (by omega)
      rw [e2]
      simp only [e1]
    · rw [if_neg hn] at h
      have hr : (if lenI x = 0 ∨ (t.length : Int) + 1 < lenI x then ((65533 : Int), (1 : Int)) else
          if (gat hd (t.take ((lenI x).toNat - 1))).2 = true ∧ szI (gat hd (t.take ((lenI x).toNat - 1))).1 = lenI x then ((gat hd (t.take ((lenI x).toNat - 1))).1, lenI x) else (65533, 1)) = (65533, 1) := by
        rw [if_pos (.inr (by omega))]
      rw [hr]
      by_cases hl : lenI x = 0 ∨ (((t ++ ys).length : Nat) : Int) + 1 < lenI x
      · rw [if_pos hl]
      · rw [if_neg hl, if_neg]
        rintro ⟨g1, g2⟩
        rw [List.length_append] at hl
        obtain ⟨m, hm⟩ : ∃ m : Nat, m = (lenI x - (t.length + 1)).toNat := ⟨_, rfl⟩
        rw [← hm] at h
        have e2 : (t ++ ys).take ((lenI x).toNat - 1) = t ++ ys.take m := by
          rw [List.take_append, List.take_of_length_le (by omega)]
          congr 2
          omega
        rw [e2, gat_append] at g1 g2
        rcases hg : (gat hd t).2 with _ | _
        · rw [hg] at g1
          simp at g1
        · rw [hg] at g1 g2 h
          simp only [if_true, Bool.true_eq_false, if_false] at g1 g2 h
          have hsp := gat_span _ _ g1
          have hml : (ys.take m).length = m := by rw [List.length_take]; omega
          rw [hml] at hsp
          have := szI_span (n := lenI x) (m := m) (by omega) (by omega) (by omega) hsp.1 hsp.2 g2
          rcases this with h5 | h5
          · rw [h5] at h; simp at h
          · rw [h5] at h; simp at h

theorem joinI_pair {u v : Int} (h1 : 55296 ≤ u ∧ u < 56320) (h2 : 56320 ≤ v ∧ v ≤ 57343) (t : List Int) : (joinI (u :: v :: t)).2 = 2 := by
  simp only [joinI]
  rw [if_neg (by rw [isI_true]; omega), if_pos ⟨h1, h2⟩]
theorem joinI_alone {u : Int} (us : List Int) (h : ∀ v t, us = v :: t → ¬ ((55296 ≤ u ∧ u < 56320) ∧ (56320 ≤ v ∧ v ≤ 57343))) : joinI (u :: us) = joinI [u] := by
  rcases us with _ | ⟨v, t⟩
  · rfl
  · have := h v t rfl
    simp only [joinI]
    rw [if_neg this]

theorem pair2 : encL 2 [65536] = [0, 216, 0, 220] := by decide
theorem pair3 : encL 3 [65536] = [216, 0, 220, 0] := by decide

theorem units_stay {k : Int} (hk : k = 2 ∨ k = 3) {xs ys : List Int} (hb : ∀ c ∈ xs ++ ys, 0 ≤ c ∧ c < 256) (h : openU k (xs.take 4) = false) : nextI k (xs ++ ys) = nextI k xs := by
  match xs, h with
  | [], h => exact absurd h (by simp [openU])
  | [a], h => exact absurd h (by simp [openU])
  | [a, b], h =>
    rw [nextI_units hk (by simp), nextI_units hk (by simp)]
    simp only [List.cons_append, List.nil_append]
    rw [unitsL_cons hk, unitsL_cons hk, unitsL_short hk (l := []) (by simp)]
    have hn : ¬ (55296 ≤ unit2 k a b ∧ unit2 k a b < 56320) := by
      intro hu
      simp only [openU] at h
      rcases hk with rfl | rfl
      · rw [pair2] at h
        simp [unitsL_cons, unitsL_short] at h
        exact h (joinI_pair hu (by simp [unit2]) _)
      · rw [pair3] at h
        simp [unitsL_cons, unitsL_short] at h
        exact h (joinI_pair hu (by simp [unit2]) _)
    rw [joinI_alone _ (fun v t _ hh => hn hh.1)]
  | [a, b, c], h =>
    rw [nextI_units hk (by simp), nextI_units hk (by simp)]
    simp only [List.cons_append, List.nil_append]
    rw [unitsL_cons hk, unitsL_cons hk a b [c], unitsL_short hk (l := [c]) (by simp)]
    have hc := hb c (by simp)
    rcases ys with _ | ⟨d, t⟩
    · rw [unitsL_short hk (l := [c]) (by simp)]
    · have hd := hb d (by simp)
      rw [unitsL_cons hk]
      have hn : ¬ ((55296 ≤ unit2 k a b ∧ unit2 k a b < 56320) ∧ (56320 ≤ unit2 k c d ∧ unit2 k c d ≤ 57343)) := by
        rintro ⟨hu, hv⟩
        simp only [openU] at h
        rcases hk with rfl | rfl
        · rw [pair2] at h
          simp [unitsL_cons, unitsL_short] at h
          exact h (joinI_pair hu (by simp [unit2]; omega) _)
        · rw [pair3] at h
          simp [unitsL_cons, unitsL_short] at h
          rw [unit2, if_neg (by decide)] at hv
          exact h (joinI_pair hu (by rw [unit2, if_neg (by decide)]; omega) _)
      rw [joinI_alone _ (fun v t' e hh => by injection e with e1 e2; subst e1; exact hn hh)]
  | a :: b :: c :: d :: t, h =>
    rw [nextI_units hk (by simp), nextI_units hk (by simp)]
    simp only [List.cons_append]
    simp only [unitsL_cons hk]
    rfl

/-- What is settled stays, whatever comes behind. -/
theorem nextI_stays {k : Int} (hk : k = 1 ∨ k = 2 ∨ k = 3) {xs ys : List Int} (hb : ∀ c ∈ xs ++ ys, 0 ≤ c ∧ c < 256) (h : waitI k xs = false) : nextI k (xs ++ ys) = nextI k xs := by
  unfold waitI at h
  by_cases h1 : k = 1
  · rw [if_pos h1] at h
    unfold nextI
    rw [if_pos h1, if_pos h1, getI_stays h]
  · rw [if_neg h1] at h
    exact units_stay (by omega) hb h

/-- What is told of a beginning is a beginning of what is told of the whole. -/
theorem Pour.begins {k : Int} (hk : k = 1 ∨ k = 2 ∨ k = 3) {xs ys o r o' r' : List Int} (hb : ∀ c ∈ xs ++ ys, 0 ≤ c ∧ c < 256) (h : Pour k false xs o r) (h' : Pour k true (xs ++ ys) o' r') : ∃ z, o' = o ++ z := by
  generalize hc : false = cl at h
  induction xs, o, r, h using Pour.ind generalizing o' r' with
  | stop h0 => exact ⟨o', rfl⟩
  | @go xs out rest h0 t ih =>
    subst hc
    have hle := (stepI_le hk false xs).2
    have e : stepI k true (xs ++ ys) = stepI k false xs := by
      rw [stepI_true]
      unfold stepI at h0 ⊢
      split at h0
      · simp at h0
      · rename_i hn
        rw [if_neg hn]
        exact nextI_stays hk hb (by simpa using hn)
    rcases h'.inv with ⟨h1, _⟩ | ⟨h1, out', ho, t'⟩
    · rw [e] at h1; exact absurd h0 h1
    · rw [e] at t' ho
      rw [List.drop_append_of_le_length (by omega)] at t'
      obtain ⟨z, hz⟩ := ih (fun c hc => hb c (by
        rcases List.mem_append.1 hc with h | h
        · exact List.mem_append_left _ (List.mem_of_mem_drop h)
        · exact List.mem_append_right _ h)) t'
      exact ⟨z, by rw [ho, hz, List.append_assoc]⟩

theorem Pour.byte {k : Int} {cl : Bool} {xs o r : List Int} (h : Pour k cl xs o r) : ∀ c ∈ o, 0 ≤ c ∧ c < 256 := by
  induction xs, o, r, h using Pour.ind with
  | stop h0 => simp
  | go h0 t ih =>
    intro c hc
    rcases List.mem_append.1 hc with h | h
    · exact putI_byte _ (sndI_is _) c h
    · exact ih c h

/-- One code point of Eight, and what is behind it. -/
theorem pour_put {s : Int} (hs : isI s = true) {t o r : List Int} (h : Pour 1 true t o r) : Pour 1 true (putI s ++ t) (putI s ++ o) r := by
  have e : stepI 1 true (putI s ++ t) = (s, ((putI s).length : Int)) := by
    rw [stepI_true]
    unfold nextI
    rw [if_pos rfl, get_put hs]
  have hl := (putI_len s).1
  have := Pour.go (k := 1) (cl := true) (xs := putI s ++ t) (out := o) (rest := r) (by rw [e]; simp only; omega) (by rw [e]; simp only [Int.toNat_natCast]; rw [List.drop_left]; exact h)
  rw [e] at this
  simp only at this
  rw [show sndI s = s by unfold sndI; rw [if_pos hs]] at this
  exact this
theorem pour_nil {k : Int} (hk : k = 1 ∨ k = 2 ∨ k = 3) : Pour k true [] [] [] := .stop (by rw [stepI_true, nextI_nil hk]; omega)

/-- The text of text is itself. -/
theorem Pour.again {k : Int} {cl : Bool} {xs o r : List Int} (h : Pour k cl xs o r) : Pour 1 true o o [] := by
  induction xs, o, r, h using Pour.ind with
  | stop h0 => exact pour_nil (.inl rfl)
  | go h0 t ih => exact pour_put (sndI_is _) ih

/-- Code points that were encoded are decoded as they were. -/
theorem pour_back {k : Int} (hk : k = 1 ∨ k = 2 ∨ k = 3) : ∀ rs : List Int, Pour k true (encL k rs) (putAll (rs.map sndI)) []
  | [] => pour_nil hk
  | r :: rs => by
    have ih := pour_back hk rs
    have his := sndI_is r
    have hl := putI_len (sndI r)
    rw [show r :: rs = [r] ++ rs from rfl, encL_append, encL_one, List.map_append, List.map_singleton]
    rw [show putAll ([sndI r] ++ rs.map sndI) = putI (sndI r) ++ putAll (rs.map sndI) from rfl]
    by_cases h1 : k = 1
    · subst h1
      rw [enc1, if_pos (.inr rfl)]
      exact pour_put his ih
    · have hk2 : k = 2 ∨ k = 3 := by omega
      rw [enc1, if_neg (by omega)]
      have hul := unitsI_len (sndI r)
      have hol := octL_length hk2 (unitsI (sndI r))
      have e : stepI k true (octL k (unitsI (sndI r)) ++ encL k rs) = (sndI r, 2 * ((unitsI (sndI r)).length : Int)) := by
        rw [stepI_true, nextI_units hk2 (by rw [List.length_append, hol]; omega), unitsL_append hk2 _ _ (unitsI_room his), join_units _ _ his]
      have := Pour.go (k := k) (cl := true) (xs := octL k (unitsI (sndI r)) ++ encL k rs) (out := putAll (rs.map sndI)) (rest := []) (by rw [e]; simp only; omega) (by
        rw [e]
        simp only
        rw [show (2 * ((unitsI (sndI r)).length : Int)).toNat = (octL k (unitsI (sndI r))).length by rw [hol]; omega, List.drop_left]
        exact ih)
      rw [e] at this
      simp only at this
      rw [show sndI (sndI r) = sndI r by rw [sndI, if_pos his]] at this
      exact this
end Go.Proofs.YtoojfjealncddaaDoor
