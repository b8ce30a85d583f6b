/- What is left of a list of pieces behind so many octets; pieces up to a place. -/
import Derived.Test.YtgmaiickfpgeoaaCutS
namespace Go.Proofs.Ytgmaiickfpgeoaa
open Go Go.RowKit
set_option linter.unusedVariables false

/-- What is left of the pieces behind n octets. -/
def dropP : Nat → List (List Int) → List (List Int)
  | _, [] => []
  | n, p :: ps => if n < p.length then p.drop n :: ps else dropP (n - p.length) ps
/-- The pieces' first n octets, piece by piece. -/
def takeP : Nat → List (List Int) → List (List Int)
  | _, [] => []
  | n, p :: ps => if n = 0 then [] else if n ≤ p.length then [p.take n] else p :: takeP (n - p.length) ps

def Full (ps : List (List Int)) : Prop := ∀ p ∈ ps, 0 < p.length

theorem dropP_zero : ∀ (ps : List (List Int)), Full ps → dropP 0 ps = ps
  | [], _ => rfl
  | p :: ps, h => by
    have := h p (by simp)
    rw [dropP, if_pos this, List.drop_zero]
theorem dropP_full : ∀ (ps : List (List Int)) (n : Nat), Full ps → Full (dropP n ps)
  | [], _, _ => by rw [dropP]; intro p hp; cases hp
  | p :: ps, n, h => by
    rw [dropP]
    split
    · intro q hq
      rcases List.mem_cons.1 hq with rfl | hq
      · rw [List.length_drop]; omega
      · exact h q (by simp [hq])
    · exact dropP_full ps _ (fun q hq => h q (by simp [hq]))
theorem dropP_flatten : ∀ (ps : List (List Int)) (n : Nat), (dropP n ps).flatten = ps.flatten.drop n
  | [], n => by rw [dropP]; simp
  | p :: ps, n => by
    rw [dropP]
    split
    · rw [List.flatten_cons, List.flatten_cons, List.drop_append_of_le_length (by omega)]
    · have e : p.drop n = [] := List.drop_of_length_le (by omega)
      rw [dropP_flatten ps, List.flatten_cons, List.drop_append, e, List.nil_append]
theorem dropP_add : ∀ (ps : List (List Int)) (a n : Nat), Full ps → dropP (a + n) ps = dropP n (dropP a ps)
  | [], _, _, _ => by simp [dropP]
  | p :: ps, a, n, h => by
    have hp := h p (by simp)
    have hf : Full ps := fun q hq => h q (by simp [hq])
    by_cases h1 : a + n < p.length
    · have e1 : dropP (a + n) (p :: ps) = p.drop (a + n) :: ps := by rw [dropP, if_pos h1]
      have e2 : dropP a (p :: ps) = p.drop a :: ps := by rw [dropP, if_pos (by omega)]
      rw [e1, e2, dropP, if_pos (by rw [List.length_drop]; omega), List.drop_drop]
    · have e1 : dropP (a + n) (p :: ps) = dropP (a + n - p.length) ps := by rw [dropP, if_neg h1]
      by_cases h2 : a < p.length
      · have e2 : dropP a (p :: ps) = p.drop a :: ps := by rw [dropP, if_pos h2]
        rw [e1, e2, dropP, if_neg (by rw [List.length_drop]; omega), List.length_drop, show n - (p.length - a) = a + n - p.length by omega]
      · have e2 : dropP a (p :: ps) = dropP (a - p.length) ps := by rw [dropP, if_neg h2]
        rw [e1, e2, show a + n - p.length = (a - p.length) + n by omega, dropP_add ps _ _ hf]
/-- What is left behind n octets of the first piece. -/
theorem dropP_first (p : List Int) (ps : List (List Int)) (n : Nat) (h : Full (p :: ps)) (hn : n ≤ p.length) : dropP n (p :: ps) = if n < p.length then p.drop n :: ps else ps := by
  rw [dropP]
  split
  · rfl
  · rw [show n - p.length = 0 by omega, dropP_zero ps (fun q hq => h q (by simp [hq]))]
theorem dropP_nil {ps : List (List Int)} {n : Nat} (h : Full ps) : dropP n ps = [] ↔ ps.flatten.length ≤ n := by
  have hf := dropP_full ps n h
  have he := congrArg List.length (dropP_flatten ps n)
  rw [List.length_drop] at he
  constructor
  · intro e
    rw [e] at he
    simp at he
    simpa using Nat.le_of_sub_eq_zero (by simpa using he.symm)
  · intro hl
    rcases hd : dropP n ps with _ | ⟨q, qs⟩
    · rfl
    · rw [hd] at he hf
      have := hf q (by simp)
      simp at he
      simp at hl
      omega
/-- The answer's octets: those next in line. -/
theorem dropP_next {ps : List (List Int)} {a : Nat} {p : List Int} {qs : List (List Int)} (h : dropP a ps = p :: qs) (n : Nat) (hn : n ≤ p.length) : p.take n = (ps.flatten.drop a).take n := by
  rw [← dropP_flatten, h, List.flatten_cons, List.take_append_of_le_length hn]
theorem dropP_room {ps : List (List Int)} {a : Nat} {p : List Int} {qs : List (List Int)} (h : dropP a ps = p :: qs) : a + p.length ≤ ps.flatten.length ∨ p.length = 0 := by
  have he := congrArg List.length (dropP_flatten ps a)
  rw [h, List.length_drop, List.flatten_cons, List.length_append] at he
  omega
theorem dropP_count : ∀ (ps : List (List Int)) (n : Nat), (dropP n ps).length ≤ ps.length
  | [], _ => by rw [dropP]; simp
  | p :: ps, n => by
    rw [dropP]
    split
    · simp
    · have := dropP_count ps (n - p.length)
      simp; omega

/-- The pieces of the first F octets are the pieces, up to there. -/
theorem cutL_take (zs : List Int) : ∀ (k : Nat) (xs : List Int) (i F : Nat), xs.length ≤ k → F ≤ xs.length → cutL zs (xs.take F) i = takeP F (cutL zs xs i)
  | 0, xs, i, F, hk, hF => by
    obtain rfl : xs = [] := List.eq_nil_of_length_eq_zero (by omega)
    simp [cutL_nil, takeP]
  | k + 1, xs, i, F, hk, hF => by
    rcases Nat.eq_zero_or_pos F with h0 | h0
    · subst h0
      rw [List.take_zero, cutL_nil]
      rcases hc : cutL zs xs i with _ | ⟨q, qs⟩
      · rfl
      · rw [takeP, if_pos rfl]
    · have hx : 0 < xs.length := by omega
      have hl : (xs.take F).length = F := by rw [List.length_take]; omega
      rw [cutL_step zs xs i hx, cutL_step zs (xs.take F) i (by omega), hl]
      have hs := stepN_le zs i xs.length hx
      have hsi := stepN_int zs i xs.length hx
      have hsF := stepN_le zs i F h0
      have hsFi := stepN_int zs i F h0
      have hst : stepN zs i F = min (stepN zs i xs.length) F := by
        unfold cszI at hsi hsFi
        split at hsi
        · rename_i hz
          rw [if_pos hz] at hsFi
          omega
        · rename_i hz
          rw [if_neg hz] at hsFi
          omega
      have htl : (xs.take (stepN zs i xs.length)).length = stepN zs i xs.length := by rw [List.length_take]; omega
      rw [takeP, if_neg (by omega), htl, hst]
      split
      · rename_i hle
        rw [Nat.min_eq_right hle, List.take_take, List.take_take, Nat.min_self, Nat.min_eq_left hle, List.drop_of_length_le (by omega), cutL_nil]
      · rename_i hle
        rw [Nat.min_eq_left (by omega), List.take_take, Nat.min_eq_left (by omega), List.drop_take, cutL_take zs k _ _ _ (by rw [List.length_drop]; omega) (by rw [List.length_drop]; omega)]

/-- Where the piece that holds octet n ends (the first end behind n). -/
def stopP : Nat → List (List Int) → Nat
  | _, [] => 0
  | n, p :: ps => if n < p.length then p.length else p.length + stopP (n - p.length) ps
theorem stopP_gt : ∀ (ps : List (List Int)) (n : Nat), n < ps.flatten.length → n < stopP n ps ∧ stopP n ps ≤ ps.flatten.length
  | [], n, h => by simp at h
  | p :: ps, n, h => by
    rw [List.flatten_cons, List.length_append] at h ⊢
    rw [stopP]
    split
    · omega
    · have := stopP_gt ps (n - p.length) (by omega)
      omega
/-- How long the first piece of what is left is, told by the pieces of all. -/
theorem dropP_takeP : ∀ (ps : List (List Int)) (F n : Nat), F ≤ ps.flatten.length → n < F → ∃ p qs, dropP n (takeP F ps) = p :: qs ∧ p.length = min (stopP n ps) F - n
  | [], F, n, h, hn => by simp at h; omega
  | p :: ps, F, n, h, hn => by
    rw [List.flatten_cons, List.length_append] at h
    rw [takeP, if_neg (by omega), stopP]
    by_cases h1 : F ≤ p.length
    · have hl : (p.take F).length = F := by rw [List.length_take]; omega
      rw [if_pos h1, if_pos (by omega), dropP, if_pos (by omega)]
      exact ⟨_, _, rfl, by rw [List.length_drop, hl]; omega⟩
    · rw [if_neg h1, dropP]
      by_cases h2 : n < p.length
      · rw [if_pos h2, if_pos h2]
        exact ⟨_, _, rfl, by rw [List.length_drop]; omega⟩
      · rw [if_neg h2, if_neg h2]
        obtain ⟨q, qs, e, hq⟩ := dropP_takeP ps (F - p.length) (n - p.length) (by omega) (by omega)
        exact ⟨q, qs, e, by omega⟩
theorem takeP_full : ∀ (ps : List (List Int)) (F : Nat), Full ps → Full (takeP F ps)
  | [], _, _ => by rw [takeP]; intro p hp; cases hp
  | p :: ps, F, h => by
    have hp := h p (by simp)
    rw [takeP]
    split
    · intro q hq; cases hq
    · split
      · intro q hq
        simp at hq
        subst hq
        rw [List.length_take]; omega
      · intro q hq
        rcases List.mem_cons.1 hq with rfl | hq
        · exact hp
        · exact takeP_full ps _ (fun q hq => h q (by simp [hq])) q hq
theorem cutL_full (zs xs : List Int) (i : Nat) : Full (cutL zs xs i) := fun p hp => (cutL_piece zs xs i p hp).1
/-- The pieces' ends. -/
def endsP : Nat → List (List Int) → List Int
  | _, [] => []
  | a, p :: ps => ((a + p.length : Nat) : Int) :: endsP (a + p.length) ps
theorem endsP_length : ∀ (ps : List (List Int)) (a : Nat), (endsP a ps).length = ps.length
  | [], _ => rfl
  | p :: ps, a => by rw [endsP, List.length_cons, endsP_length ps, List.length_cons]
theorem endsP_append : ∀ (ps : List (List Int)) (q : List Int) (a : Nat), endsP a (ps ++ [q]) = endsP a ps ++ [((a + ps.flatten.length + q.length : Nat) : Int)]
  | [], q, a => by simp [endsP]
  | p :: ps, q, a => by
    rw [List.cons_append, endsP, endsP, endsP_append ps q, List.flatten_cons, List.length_append, List.cons_append, show a + p.length + ps.flatten.length + q.length = a + (p.length + ps.flatten.length) + q.length by omega]
end Go.Proofs.Ytgmaiickfpgeoaa
