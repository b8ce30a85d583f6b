/- What a parsed tree is: its nodes, how great it is. -/
import Derived.Test.YtegcebgoiocakaaDoorA06
import Derived.Test.YtegcebgoiocakaaDoorA08
import Derived.Test.YtegcebgoiocakaaDoorA10
import Derived.Test.YtegcebgoiocakaaDoorA15
import Derived.Test.YtegcebgoiocakaaDoorA17
import Derived.Test.YtegcebgoiocakaaDoorA18
namespace Go.Proofs.YtegcebgoiocakaaDoor
open Go Go.RowKit
set_option linter.unusedVariables false

/-! ### How many ranges a set has -/
theorem nodup_len : ∀ (l L : List Int), l.Nodup → (∀ x ∈ l, x ∈ L) → l.length ≤ L.length
  | [], L, _, _ => Nat.zero_le _
  | x :: l, L, hn, hs => by
    rw [List.nodup_cons] at hn
    have hx := hs x (by simp)
    have h := nodup_len l (L.erase x) hn.2 fun y hy => (List.mem_erase_of_ne (fun e => hn.1 (by rw [← e]; exact hy))).2 (hs y (by simp [hy]))
    rw [List.length_erase_of_mem hx] at h
    have : 0 < L.length := List.length_pos_of_mem hx
    rw [List.length_cons]; omega
theorem canonF_starts : ∀ {t : List (Int × Int)} {lo : Int}, CanonF lo t → (∀ p ∈ t, lo ≤ p.1) ∧ (t.map (·.1)).Nodup
  | [], _, _ => ⟨fun p hp => (by cases hp), List.nodup_nil⟩
  | p :: t, lo, ⟨h1, h2, h3, h4⟩ => by
    obtain ⟨k1, k2⟩ := canonF_starts h4
    refine ⟨fun q hq => ?_, ?_⟩
    · rcases List.mem_cons.1 hq with rfl | hq
      · exact h1
      · have := k1 q hq; omega
    · rw [List.map_cons, List.nodup_cons]
      refine ⟨fun hm => ?_, k2⟩
      obtain ⟨q, hq, e⟩ := List.mem_map.1 hm
      have := k1 q hq
      omega
/-- A range's first number is in the set, the one ahead of it isn't. -/
theorem canonF_edge : ∀ {t : List (Int × Int)} {lo : Int}, 0 ≤ lo → CanonF lo t → ∀ p ∈ t, hasL t p.1 = true ∧ hasL t (p.1 - 1) = false
  | [], _, _, _, p, hp => by cases hp
  | q :: t, lo, h0, ⟨h1, h2, h3, h4⟩, p, hp => by
    rcases List.mem_cons.1 hp with rfl | hp
    · refine ⟨by rw [hasL_cons, decide_eq_true (by omega)]; rfl, ?_⟩
      rw [hasL_cons, decide_eq_false (by omega), Bool.false_or]
      cases hx : hasL t (p.1 - 1) with
      | false => rfl
      | true => have := h4.ge hx; omega
    · obtain ⟨e1, e2⟩ := canonF_edge (by omega) h4 p hp
      have hge := (canonF_starts h4).1 p hp
      refine ⟨by rw [hasL_cons, e1, Bool.or_true], ?_⟩
      rw [hasL_cons, e2, Bool.or_false, decide_eq_false (by omega)]
theorem set_len {t xs : List (Int × Int)} (hc : Canon t) (h : ∀ r, hasL t r = hasL xs r) : t.length ≤ xs.length := by
  have := nodup_len (t.map (·.1)) (xs.map fun q => if q.1 < 0 then 0 else q.1) (canonF_starts hc).2 fun x hx => by
    obtain ⟨p, hp, rfl⟩ := List.mem_map.1 hx
    obtain ⟨e1, e2⟩ := canonF_edge (Int.le_refl _) hc p hp
    rw [h] at e1 e2
    obtain ⟨q, hq, h1, h2, h3, h4⟩ := (hasL_iff xs _).1 e1
    refine List.mem_map.2 ⟨q, hq, ?_⟩
    have hno : ¬ (q.1 ≤ p.1 - 1 ∧ p.1 - 1 ≤ q.2 ∧ 0 ≤ p.1 - 1 ∧ p.1 - 1 ≤ 1114111) := fun hh => by
      rw [(hasL_iff xs _).2 ⟨q, hq, hh⟩] at e2; cases e2
    split <;> omega
  simpa using this
theorem not_len {t xs : List (Int × Int)} (hc : Canon t) (h : ∀ r, hasL t r = (inR r && !hasL xs r)) : t.length ≤ xs.length + 1 := by
  have := nodup_len (t.map (·.1)) (0 :: xs.map fun q => q.2 + 1) (canonF_starts hc).2 fun x hx => by
    obtain ⟨p, hp, rfl⟩ := List.mem_map.1 hx
    obtain ⟨e1, e2⟩ := canonF_edge (Int.le_refl _) hc p hp
    rw [h] at e1 e2
    rw [Bool.and_eq_true, Bool.not_eq_true'] at e1
    obtain ⟨i1, i2⟩ := e1
    unfold inR at i1 e2
    rw [decide_eq_true_iff] at i1
    by_cases h0 : p.1 = 0
    · rw [h0]; simp
    · rw [decide_eq_true (by omega), Bool.true_and] at e2
      rw [Bool.not_eq_false'] at e2
      obtain ⟨q, hq, h1, h2, h3, h4⟩ := (hasL_iff xs _).1 e2
      refine List.mem_cons_of_mem _ (List.mem_map.2 ⟨q, hq, ?_⟩)
      have hno : ¬ (q.1 ≤ p.1 ∧ p.1 ≤ q.2 ∧ 0 ≤ p.1 ∧ p.1 ≤ 1114111) := fun hh => by
        rw [(hasL_iff xs _).2 ⟨q, hq, hh⟩] at i2; cases i2
      omega
  simpa using this
theorem partsL_len : ∀ (f : Nat) (l : List Int) (xs : List (Int × Int)) (more : Bool) (s : List (Int × Int)) (r : List Int), partsL f l xs more = some (s, r) → s.length + 5 * r.length ≤ xs.length + 5 * l.length
  | 0, _, _, _, _, _, h => by cases h
  | f + 1, l, xs, more, s, r, h => by
    rw [partsL.eq_def] at h
    dsimp only at h
    split at h
    · injection h with h; injection h with h1 h2; subst h1; subst h2; simp only [List.length_cons]; omega
    · split at h
      · cases h
      · rename_i s1 l1 h1
        have a1 := partL_lt h1
        have a2 := (partL_some h1).2
        have a3 := partsL_len f _ _ _ _ _ h
        rw [List.length_append] at a3
        omega
theorem classL_ok {l r : List Int} {s : List (Int × Int)} (h : classL l = some (s, r)) : Canon s ∧ s.length ≤ 5 * l.length + 1 := by
  unfold classL at h
  split at h
  · obtain ⟨⟨a, b⟩, h1, h⟩ := Option.map_eq_some_iff.1 h
    injection h with h _; subst h
    have := partsL_len _ _ _ _ _ _ h1
    have h2 := not_len (setOf_canon _) (fun r => setOf_has (fun x => !hasL a x) r)
    simp only [List.length_nil, List.length_cons] at this ⊢
    exact ⟨setOf_canon _, by omega⟩
  · obtain ⟨⟨a, b⟩, h1, h⟩ := Option.map_eq_some_iff.1 h
    injection h with h _; subst h
    have := partsL_len _ _ _ _ _ _ h1
    have h2 := set_len (setOf_canon (fun x => hasL a x)) (fun r => (setOf_has (fun x => hasL a x) r).trans (hasL_inR a r).symm)
    simp only [List.length_nil] at this
    exact ⟨setOf_canon _, by dsimp only; omega⟩
end Go.Proofs.YtegcebgoiocakaaDoor
/- What a parsed tree is: its nodes, how great it is. -/
namespace Go.Proofs.YtegcebgoiocakaaDoor
open Go Go.RowKit
set_option linter.unusedVariables false

/-! ### What a token is -/
def TokGood (M : Nat) (t : TokL) : Prop := TokOk t ∧ Canon t.set ∧ t.set.length ≤ M ∧ In64 t.mn ∧ In64 t.mx
theorem in64_of {a : Int} (h : -1 ≤ a ∧ a ≤ 1114111) : In64 a := by unfold In64; omega
theorem tokS_good (M : Nat) {r : Int} (h : r = 124 ∨ r = 40 ∨ r = 41 ∨ r = 94 ∨ r = 36) : TokGood M (tokS r) :=
  ⟨Or.inr (Or.inr ⟨rfl, by show r = 124 ∨ r = 94 ∨ r = 36 ∨ r = 40 ∨ r = 41; omega⟩), trivial, Nat.zero_le _, in64_of (a := 0) (by decide), in64_of (a := 0) (by decide)⟩
theorem tokN_good (M : Nat) {a b : Int} (ha : -1 ≤ a ∧ a ≤ 1114111) (hb : -1 ≤ b ∧ b ≤ 1114111) : TokGood M (tokN a b) :=
  ⟨Or.inr (Or.inl rfl), trivial, Nat.zero_le _, in64_of ha, in64_of hb⟩
theorem tokC_good {M : Nat} {s : List (Int × Int)} (hs : Canon s) (hl : s.length ≤ M) : TokGood M (tokC s) :=
  ⟨Or.inl rfl, hs, hl, in64_of (a := 0) (by decide), in64_of (a := 0) (by decide)⟩
theorem numL_in {l r : List Int} {a : Int} (h : numL l = some (a, r)) : 0 ≤ a ∧ a ≤ 50 := by
  unfold numL at h
  split at h
  · rename_i x y l'
    split at h
    · rename_i hx
      simp only [isDig, Bool.and_eq_true, decide_eq_true_iff] at hx
      split at h
      · rename_i hy
        simp only [isDig, Bool.and_eq_true, decide_eq_true_iff] at hy
        split at h
        · cases h
        · injection h with h; injection h with h _; omega
      · injection h with h; injection h with h _; omega
    · cases h
  · rename_i x
    split at h
    · rename_i hx
      simp only [isDig, Bool.and_eq_true, decide_eq_true_iff] at hx
      injection h with h; injection h with h _; omega
    · cases h
  · cases h
theorem braceL_good (M : Nat) {l r : List Int} {t : TokL} (h : braceL l = some (t, r)) : TokGood M t := by
  unfold braceL at h
  split at h
  · rename_i a l' h1
    have := numL_in h1
    injection h with h; injection h with h _; subst h
    exact tokN_good M (by omega) (by omega)
  · rename_i a l' h1
    have := numL_in h1
    injection h with h; injection h with h _; subst h
    exact tokN_good M (by omega) (by omega)
  · rename_i a l' _ h1
    have := numL_in h1
    split at h
    · rename_i b l'' h2
      have := numL_in h2
      split at h
      · cases h
      · injection h with h; injection h with h _; subst h
        exact tokN_good M (by omega) (by omega)
    · cases h
  · cases h
theorem point_canon {r : Int} (h : 0 ≤ r ∧ r ≤ 1114111) : Canon [(r, r)] := ⟨h.1, Int.le_refl _, h.2, trivial⟩
theorem namedS_ok (r : Int) : Canon (namedS r) ∧ (namedS r).length ≤ 4 := by
  unfold namedS
  split
  · exact ⟨by refine ⟨?_, ?_, ?_, trivial⟩ <;> decide, by decide⟩
  · split
    · exact ⟨by refine ⟨?_, ?_, ?_, ?_, ?_, ?_, ?_, ?_, ?_, ?_, ?_, ?_, trivial⟩ <;> decide, by decide⟩
    · split
      · exact ⟨by refine ⟨?_, ?_, ?_, ?_, ?_, ?_, trivial⟩ <;> decide, by decide⟩
      · exact ⟨trivial, by decide⟩
theorem escL_ok {r : Int} {s : List (Int × Int)} {b : Bool} (h : escL r = some (s, b)) : Canon s ∧ s.length ≤ 5 := by
  unfold escL at h
  split at h
  · injection h with h; injection h with h _; subst h
    have := namedS_ok r
    exact ⟨this.1, by omega⟩
  · split at h
    · injection h with h; injection h with h _; subst h
      have h1 := not_len (setOf_canon _) (fun x => setOf_has (fun x => !hasL (namedS (r + 32)) x) x)
      have h2 := (namedS_ok (r + 32)).2
      exact ⟨setOf_canon _, by omega⟩
    · split at h
      · injection h with h; injection h with h _; subst h
        exact ⟨point_canon (by decide), by decide⟩
      · split at h
        · injection h with h; injection h with h _; subst h
          exact ⟨point_canon (by decide), by decide⟩
        · split at h
          · injection h with h; injection h with h _; subst h
            exact ⟨point_canon (by decide), by decide⟩
          · split at h
            · rename_i hm
              injection h with h; injection h with h _; subst h
              simp only [signL, List.mem_cons, List.not_mem_nil, or_false] at hm
              exact ⟨point_canon (by omega), by simp⟩
            · cases h
theorem tokL_good {l r : List Int} {t : TokL} (hl : ∀ x ∈ l, 0 ≤ x ∧ x ≤ 1114111) (h : tokL l = some (t, r)) : TokGood (5 * l.length + 6) t := by
  cases l with
  | nil => cases h
  | cons c l =>
    have hc := hl c (by simp)
    rw [tokL.eq_def] at h
    dsimp only at h
    repeat' split at h
    all_goals first
      | (injection h with h; injection h with h _; subst h; first | exact tokS_good _ (by assumption) | exact tokN_good _ (by decide) (by decide) | exact tokC_good (point_canon hc) (by show 1 ≤ _; omega) | exact tokC_good (by refine ⟨?_, ?_, ?_, ?_, ?_, ?_, trivial⟩ <;> decide) (by simp))
      | exact braceL_good _ h
      | (cases h; done)
      | skip
    · obtain ⟨⟨s, q⟩, h1, h⟩ := Option.map_eq_some_iff.1 h
      injection h with h _; subst h
      have := classL_ok h1
      exact tokC_good this.1 (by show s.length ≤ _; rw [List.length_cons]; omega)
    · obtain ⟨⟨s, b⟩, h1, h⟩ := Option.map_eq_some_iff.1 h
      injection h with h _; subst h
      have := escL_ok h1
      exact tokC_good this.1 (by show s.length ≤ _; omega)
/-- What is left was there. -/
theorem ptL_sub {l : List Int} {s : List (Int × Int)} {is : Bool} {r : List Int} (h : ptL l = some (s, is, r)) : ∀ x ∈ r, x ∈ l := by
  rcases l with _ | ⟨x, l⟩
  · cases h
  unfold ptL at h
  dsimp only at h
  split at h
  · cases h
  split at h
  · rcases l with _ | ⟨e, l⟩
    · cases h
    · dsimp only at h
      obtain ⟨p, _, h⟩ := Option.map_eq_some_iff.1 h
      injection h with _ h; injection h with _ h; subst h
      intro y hy; simp [hy]
  · injection h with h; injection h with _ h; injection h with _ h; subst h
    intro y hy; simp [hy]
theorem partL_sub {l : List Int} {s : List (Int × Int)} {r : List Int} (h : partL l = some (s, r)) : ∀ x ∈ r, x ∈ l := by
  unfold partL at h
  split at h
  · cases h
  · rename_i s1 is l1 h1
    have q1 := ptL_sub h1
    split at h
    · rename_i l2
      split at h
      · split at h
        · rename_i t l3 h3
          have q3 := ptL_sub h3
          split at h
          · cases h
          · injection h with h; injection h with _ h; subst h
            exact fun y hy => q1 y (by simp [q3 y hy])
        · cases h
      · injection h with h; injection h with _ h; subst h; exact q1
    · injection h with h; injection h with _ h; subst h; exact q1
theorem partsL_sub : ∀ (f : Nat) (l : List Int) (xs : List (Int × Int)) (more : Bool) (s : List (Int × Int)) (r : List Int), partsL f l xs more = some (s, r) → ∀ x ∈ r, x ∈ l
  | 0, _, _, _, _, _, h => by cases h
  | f + 1, l, xs, more, s, r, h => by
    rw [partsL.eq_def] at h
    dsimp only at h
    split at h
    · injection h with h; injection h with _ h; subst h; intro y hy; simp [hy]
    · split at h
      · cases h
      · rename_i s1 l1 h1
        have k1 := partL_sub h1
        have k2 := partsL_sub f _ _ _ _ _ h
        exact fun y hy => k1 y (k2 y hy)
theorem classL_sub {l : List Int} {s : List (Int × Int)} {r : List Int} (h : classL l = some (s, r)) : ∀ x ∈ r, x ∈ l := by
  unfold classL at h
  split at h
  · obtain ⟨⟨a, b⟩, h1, h⟩ := Option.map_eq_some_iff.1 h
    injection h with _ h; subst h
    have := partsL_sub _ _ _ _ _ _ h1
    exact fun y hy => by simp [this y hy]
  · obtain ⟨⟨a, b⟩, h1, h⟩ := Option.map_eq_some_iff.1 h
    injection h with _ h; subst h
    exact partsL_sub _ _ _ _ _ _ h1
theorem numL_sub {l : List Int} {a : Int} {r : List Int} (h : numL l = some (a, r)) : ∀ x ∈ r, x ∈ l := by
  unfold numL at h
  split at h
  · split at h
    · split at h
      · split at h
        · cases h
        · injection h with h; injection h with _ h; subst h; intro y hy; simp [hy]
      · injection h with h; injection h with _ h; subst h; intro y hy; simpa using Or.inr hy
    · cases h
  · split at h
    · injection h with h; injection h with _ h; subst h; intro y hy; simp at hy
    · cases h
  · cases h
theorem braceL_sub {l : List Int} {t : TokL} {r : List Int} (h : braceL l = some (t, r)) : ∀ x ∈ r, x ∈ l := by
  unfold braceL at h
  split at h
  · rename_i l' h1
    have := numL_sub h1
    injection h with h; injection h with _ h; subst h; exact fun y hy => this y (by simp [hy])
  · rename_i l' h1
    have := numL_sub h1
    injection h with h; injection h with _ h; subst h; exact fun y hy => this y (by simp [hy])
  · rename_i l' _ h1
    have k1 := numL_sub h1
    split at h
    · rename_i l'' h2
      have k2 := numL_sub h2
      split at h
      · cases h
      · injection h with h; injection h with _ h; subst h; exact fun y hy => k1 y (by simp [k2 y (by simp [hy])])
    · cases h
  · cases h
theorem tokL_sub {l : List Int} {t : TokL} {r : List Int} (h : tokL l = some (t, r)) : ∀ x ∈ r, x ∈ l := by
  rcases l with _ | ⟨x, l⟩
  · cases h
  unfold tokL at h
  try dsimp only at h
  split at h
  · injection h with h; injection h with _ h; subst h; exact fun y hy => by simp [hy]
  split at h
  · injection h with h; injection h with _ h; subst h; exact fun y hy => by simp [hy]
  split at h
  · injection h with h; injection h with _ h; subst h; exact fun y hy => by simp [hy]
  split at h
  · injection h with h; injection h with _ h; subst h; exact fun y hy => by simp [hy]
  split at h
  · have := braceL_sub h; exact fun y hy => by simp [this y hy]
  split at h
  · injection h with h; injection h with _ h; subst h; exact fun y hy => by simp [hy]
  split at h
  · obtain ⟨⟨a, b⟩, h1, h⟩ := Option.map_eq_some_iff.1 h
    injection h with _ h; subst h
    have := classL_sub h1; exact fun y hy => by simp [this y hy]
  split at h
  · rcases l with _ | ⟨e, l⟩
    · cases h
    · obtain ⟨p, _, h⟩ := Option.map_eq_some_iff.1 h
      injection h with _ h; subst h; exact fun y hy => by simp [hy]
  split at h
  · cases h
  · injection h with h; injection h with _ h; subst h; exact fun y hy => by simp [hy]
theorem toksL_good : ∀ (f : Nat) (l : List Int) (ts : List TokL), (∀ x ∈ l, 0 ≤ x ∧ x ≤ 1114111) → toksL f l = some ts → ts.length ≤ l.length ∧ ∀ t ∈ ts, TokGood (5 * l.length + 6) t
  | _, [], ts, _, h => by
    cases (by simpa [toksL] using h : ts = [])
    exact ⟨Nat.zero_le _, fun t ht => by cases ht⟩
  | 0, _ :: _, _, _, h => by cases h
  | f + 1, r :: l, ts, hl, h => by
    rw [toksL] at h
    split at h
    · cases h
    · rename_i t l' ht
      obtain ⟨us, hu, rfl⟩ := Option.map_eq_some_iff.1 h
      have h1 := tokL_lt ht
      have h2 := tokL_sub ht
      obtain ⟨h3, h4⟩ := toksL_good f l' us (fun x hx => hl x (h2 x hx)) hu
      refine ⟨by rw [List.length_cons]; omega, fun u hu => ?_⟩
      rcases List.mem_cons.1 hu with rfl | hu
      · exact tokL_good hl ht
      · obtain ⟨k1, k2, k3, k4⟩ := h4 u hu
        exact ⟨k1, k2, by omega, k4⟩

/-! ### What a tree is -/
def GoodW : Wood → Prop
  | .nil => True
  | .cons op s mn mx k x => (NodeOk op s mn mx k ∧ Canon s ∧ In64 mn ∧ In64 mx) ∧ GoodW k ∧ GoodW x
theorem GoodW.pw : ∀ {T : Wood}, GoodW T → PW T
  | .nil, _ => trivial
  | .cons .., ⟨h, hk, hx⟩ => ⟨h.1, hk.pw, hx.pw⟩
theorem NodeOk.in64 {op : Int} {s : List (Int × Int)} {mn mx : Int} {k : Wood} (h : NodeOk op s mn mx k) : In64 op := by
  unfold NodeOk at h; exact in64_of (by omega)
theorem GoodW.wf : ∀ {T : Wood}, GoodW T → WfW T
  | .nil, _ => trivial
  | .cons .., ⟨h, hk, hx⟩ => ⟨⟨h.1.in64, h.2.2.1, h.2.2.2, fun p hp => by
      have := CanonF.wf (Int.le_refl _) h.2.1 p hp
      exact ⟨in64_of (by omega), in64_of (by omega)⟩⟩, hk.wf, hx.wf⟩
theorem good_app : ∀ {a b : Wood}, GoodW a → GoodW b → GoodW (a.app b)
  | .nil, _, _, h => h
  | .cons .., _, ⟨h, hk, hx⟩, hb => ⟨h, hk, good_app hx hb⟩
theorem good_leaf {op : Int} {s : List (Int × Int)} (h : NodeOk op s 0 0 .nil) (hs : Canon s) : GoodW (leaf op s) := ⟨⟨h, hs, in64_of (by decide), in64_of (by decide)⟩, trivial, trivial⟩
theorem good_one {op : Int} (h : op = 4 ∨ op = 5) : ∀ {l : Wood}, GoodW l → GoodW (oneN op l) ∧ (oneN op l).len = 1 ∧ heavy (oneN op l) ≤ heavy l + 1
  | .nil, _ => ⟨good_leaf (Or.inl ⟨rfl, rfl, rfl, rfl, rfl⟩) trivial, rfl, Nat.le_refl _⟩
  | .cons o s a z k .nil, h' => ⟨h', rfl, Nat.le_succ _⟩
  | .cons o s a z k (.cons o' s' a' z' k' x), h' => ⟨⟨⟨by unfold NodeOk; simp; omega, trivial, in64_of (by decide), in64_of (by decide)⟩, h', trivial⟩, rfl, by simp only [oneN, heavy, List.length_nil]; omega⟩
theorem good_rep {mn mx : Int} (hm : In64 mn) (hx : In64 mx) : ∀ {p : Wood}, GoodW p → GoodW (repLast mn mx p) ∧ heavy (repLast mn mx p) ≤ heavy p + 1
  | .nil, _ => ⟨trivial, Nat.zero_le _⟩
  | .cons o s a z k .nil, h' => ⟨⟨⟨by unfold NodeOk; simp, trivial, hm, hx⟩, h', trivial⟩, by simp only [repLast, heavy, List.length_nil]; omega⟩
  | .cons o s a z k (.cons o' s' a' z' k' x), ⟨h1, h2, h3⟩ => by
    have := good_rep hm hx h3
    rw [repLast.eq_3 _ _ _ _ _ _ _ _ (by intro e; cases e)]
    exact ⟨⟨h1, h2, this.1⟩, by simp only [heavy] at this ⊢; omega⟩
theorem good_fin {a p : Wood} (ha : GoodW a) (hp : GoodW p) : GoodW (finN a p) ∧ (finN a p).len = 1 ∧ heavy (finN a p) ≤ heavy a + heavy p + 2 := by
  obtain ⟨h1, h2, h3⟩ := good_one (Or.inl rfl) hp
  obtain ⟨k1, k2, k3⟩ := good_one (op := 5) (Or.inr rfl) (good_app ha h1)
  rw [heavy_app] at k3
  exact ⟨k1, k2, by unfold finN; omega⟩
def heavyS : List (Wood × Wood) → Nat
  | [] => 0
  | q :: st => heavy q.1 + heavy q.2 + heavyS st
theorem runT_good (M D : Nat) : ∀ (ts : List TokL) (st : List (Wood × Wood)) (a p : Wood) (lo : Bool) (T : Wood), (∀ t ∈ ts, TokGood M t) → (∀ q ∈ st, GoodW q.1 ∧ GoodW q.2) → GoodW a → GoodW p → runT D ts st a p lo = some T → GoodW T ∧ T.len = 1 ∧ heavy T ≤ heavyS st + heavy a + heavy p + ts.length * (M + 2) + 2
  | [], [], a, p, lo, T, _, _, ha, hp, h => by
    rw [runT] at h
    injection h with h; subst h
    have := good_fin ha hp
    exact ⟨this.1, this.2.1, by simp only [heavyS]; omega⟩
  | [], _ :: _, _, _, _, _, _, _, _, _, h => by cases h
  | t :: ts, st, a, p, lo, T, ht, hst, ha, hp, h => by
    obtain ⟨hk, hc, hl, hmn, hmx⟩ := ht t (by simp)
    have ih := fun st a p lo => runT_good M D ts st a p lo T fun t h => ht t (by simp [h])
    have hlen : (t :: ts).length * (M + 2) = ts.length * (M + 2) + (M + 2) := by rw [List.length_cons, Nat.succ_mul]
    rw [hlen]
    rcases hk with hk | hk | ⟨hk, hr | hr | hr | hr | hr⟩
    · rw [run_char hk] at h
      obtain ⟨i1, i2, i3⟩ := ih _ _ _ _ hst ha (good_app hp (good_leaf (Or.inr (Or.inl ⟨rfl, rfl, rfl, rfl⟩)) hc)) h
      refine ⟨i1, i2, ?_⟩
      rw [heavy_app] at i3
      simp only [leaf, heavy] at i3
      omega
    · rw [run_count hk] at h
      split at h
      · have k := good_rep hmn hmx hp
        obtain ⟨i1, i2, i3⟩ := ih _ _ _ _ hst ha k.1 h
        exact ⟨i1, i2, by have := k.2; omega⟩
      · cases h
    · rw [run_bar hk hr] at h
      have k := good_one (op := 4) (Or.inl rfl) hp
      obtain ⟨i1, i2, i3⟩ := ih _ _ _ _ hst (good_app ha k.1) (show GoodW .nil from trivial) h
      refine ⟨i1, i2, ?_⟩
      rw [heavy_app] at i3
      have := k.2.2
      simp only [heavy] at i3
      omega
    · rw [run_begin hk hr] at h
      obtain ⟨i1, i2, i3⟩ := ih _ _ _ _ hst ha (good_app hp (good_leaf (Or.inr (Or.inr (Or.inl ⟨rfl, rfl, rfl, rfl, rfl⟩))) trivial)) h
      refine ⟨i1, i2, ?_⟩
      rw [heavy_app] at i3
      simp only [leaf, heavy, List.length_nil] at i3
      omega
    · rw [run_end hk hr] at h
      obtain ⟨i1, i2, i3⟩ := ih _ _ _ _ hst ha (good_app hp (good_leaf (Or.inr (Or.inr (Or.inr (Or.inl ⟨rfl, rfl, rfl, rfl, rfl⟩)))) trivial)) h
      refine ⟨i1, i2, ?_⟩
      rw [heavy_app] at i3
      simp only [leaf, heavy, List.length_nil] at i3
      omega
    · rw [run_paren hk hr] at h
      split at h
      · obtain ⟨i1, i2, i3⟩ := ih _ _ _ _ (fun q hq => by
          rcases List.mem_cons.1 hq with rfl | hq
          · exact ⟨ha, hp⟩
          · exact hst q hq) (show GoodW .nil from trivial) (show GoodW .nil from trivial) h
        refine ⟨i1, i2, ?_⟩
        simp only [heavyS, heavy] at i3
        omega
      · cases h
    · cases st with
      | nil => rw [run_shut_nil hk hr] at h; cases h
      | cons q st =>
        obtain ⟨a', p'⟩ := q
        rw [run_shut a' p' hk hr] at h
        have k := good_fin ha hp
        have q : GoodW a' ∧ GoodW p' := hst (a', p') (by simp)
        obtain ⟨i1, i2, i3⟩ := ih _ _ _ _ (fun q hq => hst q (by simp [hq])) q.1 (good_app q.2 k.1) h
        refine ⟨i1, i2, ?_⟩
        rw [heavy_app] at i3
        have k3 := k.2.2
        have q3 : heavyS ((a', p') :: st) = heavy a' + heavy p' + heavyS st := rfl
        rw [q3]
        omega
/-- A pattern's tree. -/
theorem treeL_good {l : List Int} {T : Wood} (hl : ∀ x ∈ l, 0 ≤ x ∧ x ≤ 1114111) (hn : l.length ≤ 200) (h : treeL l = some T) : GoodW T ∧ T.len = 1 ∧ heavy T ≤ 1000000 := by
  unfold treeL at h
  obtain ⟨ts, h1, h2⟩ := Option.bind_eq_some_iff.1 h
  obtain ⟨k1, k2⟩ := toksL_good _ _ _ hl h1
  obtain ⟨i1, i2, i3⟩ := runT_good _ 0 ts [] .nil .nil false T k2 (fun q hq => by cases hq) trivial trivial h2
  refine ⟨i1, i2, ?_⟩
  simp only [heavyS, heavy] at i3
  have : ts.length * (5 * l.length + 6 + 2) ≤ 200 * 1008 := Nat.mul_le_mul (by omega) (by omega)
  omega
theorem parseT_good {s : ByteArray} {T : Wood} (hs : s.size ≤ 200) (h : parseT s = some T) : GoodW T ∧ T.len = 1 ∧ heavy T ≤ 1000000 := by
  unfold parseT at h
  obtain ⟨l, h1, h2⟩ := Option.bind_eq_some_iff.1 h
  have := pointsL_len _ _ _ (Nat.le_refl _) h1
  rw [nums_length] at this
  exact treeL_good (pointsL_is h1) (by omega) h2
end Go.Proofs.YtegcebgoiocakaaDoor
/- Tokens are local: what stands behind them turns nothing. -/
namespace Go.Proofs.YtegcebgoiocakaaDoor
open Go Go.RowKit
set_option linter.unusedVariables false

theorem ptL_app {l r : List Int} {s : List (Int × Int)} {is : Bool} (h : ptL l = some (s, is, r)) (x : List Int) : ptL (l ++ x) = some (s, is, r ++ x) := by
  rcases l with _ | ⟨y, l⟩
  · cases h
  rw [List.cons_append]
  unfold ptL at h ⊢
  dsimp only at h ⊢
  split at h
  · cases h
  rename_i h1
  rw [if_neg h1]
  split at h
  · rename_i h2
    rw [if_pos h2]
    rcases l with _ | ⟨e, l⟩
    · cases h
    · dsimp only [List.cons_append] at h ⊢
      obtain ⟨p, hp, h⟩ := Option.map_eq_some_iff.1 h
      rw [hp]
      injection h with h1 h; injection h with h2 h3
      subst h1; subst h2; subst h3
      rfl
  · rename_i h2
    rw [if_neg h2]
    injection h with h; injection h with h1 h; injection h with h2 h3
    subst h1; subst h2; subst h3
    rfl
theorem partL_app {l r : List Int} {s : List (Int × Int)} (h : partL l = some (s, r)) (hr : r ≠ []) (x : List Int) : partL (l ++ x) = some (s, r ++ x) := by
  rcases hp : ptL l with _ | ⟨s1, is, l1⟩
  · rw [partL_none hp] at h; cases h
  · by_cases h45 : is = true ∧ l1.headD 0 = 45
    · obtain ⟨rfl, h45⟩ := h45
      rcases l1 with _ | ⟨y, l2⟩
      · rw [List.headD_nil] at h45; omega
      · rw [List.headD_cons] at h45
        subst h45
        have hx := ptL_app hp x
        rw [List.cons_append] at hx
        unfold partL at h ⊢
        rw [hp] at h
        rw [hx]
        change (match ptL l2 with | some (t, true, l3) => (if (t.headD (0, 0)).1 < (s1.headD (0, 0)).1 then none else some ([((s1.headD (0, 0)).1, (t.headD (0, 0)).1)], l3)) | _ => none) = some (s, r) at h
        change (match ptL (l2 ++ x) with | some (t, true, l3) => (if (t.headD (0, 0)).1 < (s1.headD (0, 0)).1 then none else some ([((s1.headD (0, 0)).1, (t.headD (0, 0)).1)], l3)) | _ => none) = some (s, r ++ x)
        rcases hp2 : ptL l2 with _ | ⟨t, b, l3⟩
        · rw [hp2] at h; cases h
        · rw [hp2] at h
          rw [ptL_app hp2 x]
          cases b with
          | false => cases h
          | true =>
            dsimp only at h ⊢
            split at h
            · cases h
            · rename_i hlt
              rw [if_neg hlt]
              injection h with h; injection h with h1 h2
              subst h1; subst h2
              rfl
    · have h2 : is = false ∨ l1.headD 0 ≠ 45 := by
        cases is with
        | false => exact .inl rfl
        | true => exact .inr fun e => h45 ⟨rfl, e⟩
      rw [partL_plain hp h2] at h
      injection h with h; injection h with e1 e2
      subst e1; subst e2
      rw [partL_plain (ptL_app hp x) (by
        rcases h2 with h2 | h2
        · exact .inl h2
        · right
          rcases l1 with _ | ⟨y, l2⟩
          · exact absurd rfl hr
          · rw [List.cons_append, List.headD_cons]; rw [List.headD_cons] at h2; exact h2)]
theorem partsL_app : ∀ (f f' : Nat) (l all r : List Int) (xs s : List (Int × Int)) (more : Bool), partsL f l xs more = some (s, r) → f ≤ f' → ∀ x, partsL f' (l ++ x) xs more = some (s, r ++ x)
  | 0, _, _, _, _, _, _, _, h, _, _ => by cases h
  | f + 1, 0, _, _, _, _, _, _, _, h, _ => by omega
  | f + 1, f' + 1, l, all, r, xs, s, more, h, hf, x => by
    rw [partsL.eq_def] at h ⊢
    dsimp only at h ⊢
    split at h
    · rename_i l' 
      injection h with h; injection h with h1 h2
      subst h1; subst h2
      rfl
    · rename_i hno
      rcases hp : partL l with _ | ⟨s1, l1⟩
      · rw [hp] at h; cases h
      · rw [hp] at h
        dsimp only at h
        have hl1 : l1 ≠ [] := fun e => by
          subst e
          rcases f with _ | f
          · cases h
          · rw [partsL.eq_def] at h
            dsimp only at h
            cases h
        have hl : l ≠ [] := fun e => by subst e; cases hp
        have ih := partsL_app f f' l1 all r (xs ++ s1) s true h (by omega) x
        split
        · rename_i l' e1 e2
          rcases l with _ | ⟨y, l⟩
          · exact absurd rfl hl
          · rw [List.cons_append] at e2
            injection e2 with e2 _
            subst e2
            exact absurd rfl (hno l rfl)
        · rw [partL_app hp hl1 x]
          exact ih
theorem classL_app {l r : List Int} {s : List (Int × Int)} (h : classL l = some (s, r)) (x : List Int) : classL (l ++ x) = some (s, r ++ x) := by
  rcases l with _ | ⟨y, l⟩
  · cases h
  rw [List.cons_append]
  by_cases hy : y = 94
  · subst hy
    change ((partsL (l.length + 1) l [] false).map fun p => (setOf fun x => !hasL p.1 x, p.2)) = some (s, r) at h
    change ((partsL ((l ++ x).length + 1) (l ++ x) [] false).map fun p => (setOf fun x => !hasL p.1 x, p.2)) = some (s, r ++ x)
    obtain ⟨⟨a, b⟩, h1, h⟩ := Option.map_eq_some_iff.1 h
    rw [partsL_app _ ((l ++ x).length + 1) l [] b [] a false h1 (by rw [List.length_append]; omega) x]
    injection h with e1 e2
    subst e1; subst e2
    rfl
  · have e : ∀ l' : List Int, classL (y :: l') = (partsL ((y :: l').length + 1) (y :: l') [] false).map fun p => (setOf fun x => hasL p.1 x, p.2) := fun l' => by
      unfold classL
      split
      · rename_i q h2; injection h2 with h2; exact absurd h2 hy
      · rfl
    rw [e] at h ⊢
    obtain ⟨⟨a, b⟩, h1, h⟩ := Option.map_eq_some_iff.1 h
    have := partsL_app _ ((y :: (l ++ x)).length + 1) (y :: l) [] b [] a false h1 (by rw [List.length_cons, List.length_cons, List.length_append]; omega) x
    rw [List.cons_append] at this
    rw [this]
    injection h with e1 e2
    subst e1; subst e2
    rfl
theorem numL_app {l r : List Int} {a : Int} (h : numL l = some (a, r)) (hr : r ≠ []) (x : List Int) : numL (l ++ x) = some (a, r ++ x) := by
  rcases l with _ | ⟨y, _ | ⟨z, l⟩⟩
  · cases h
  · unfold numL at h
    dsimp only at h
    split at h
    · injection h with h; injection h with _ h; exact absurd h.symm hr
    · cases h
  · rw [List.cons_append, List.cons_append]
    unfold numL at h ⊢
    dsimp only at h ⊢
    split at h
    · rename_i h1
      rw [if_pos h1]
      split at h
      · rename_i h2
        rw [if_pos h2]
        split at h
        · cases h
        · rename_i h3
          rw [if_neg h3]
          injection h with h; injection h with e1 e2
          subst e1; subst e2
          rfl
      · rename_i h2
        rw [if_neg h2]
        injection h with h; injection h with e1 e2
        subst e1; subst e2
        rfl
    · cases h
theorem braceL_app {l r : List Int} {t : TokL} (h : braceL l = some (t, r)) (x : List Int) : braceL (l ++ x) = some (t, r ++ x) := by
  unfold braceL at h ⊢
  split at h
  · rename_i a l' h1
    rw [numL_app h1 (by simp) x]
    injection h with h; injection h with e1 e2
    subst e1; subst e2
    rfl
  · rename_i a l' h1
    rw [numL_app h1 (by simp) x]
    injection h with h; injection h with e1 e2
    subst e1; subst e2
    rfl
  · rename_i a l' hno h1
    split at h
    · rename_i b l'' h2
      split at h
      · cases h
      · rename_i hlt
        injection h with h; injection h with e1 e2
        subst e1; subst e2
        rw [numL_app h1 (by simp) x, List.cons_append]
        rcases l' with _ | ⟨y, l'⟩
        · cases h2
        · have hy : y ≠ 125 := fun e => hno l' (by rw [e])
          have h3 := numL_app h2 (by simp) x
          rw [List.cons_append] at h3 ⊢
          split
          · rename_i q1 q2; injection q2 with q2; injection q2 with _ q2; injection q2 with q2 _; omega
          · rename_i q1 q2; injection q2 with q2; injection q2 with _ q2; injection q2 with _ q2; injection q2 with q2 _; exact absurd q2 hy
          · rename_i q1 _ q2
            injection q2 with q2; injection q2 with q3 q2; injection q2 with _ q2
            subst q3; subst q2
            rw [h3, List.cons_append]
            exact if_neg hlt
          · rename_i q1 q2 q3
            exact absurd rfl (q3 _ _)
    · cases h
  · cases h
theorem tokL_app {l r : List Int} {t : TokL} (h : tokL l = some (t, r)) (x : List Int) : tokL (l ++ x) = some (t, r ++ x) := by
  rcases l with _ | ⟨y, l⟩
  · cases h
  rw [List.cons_append]
  unfold tokL at h ⊢
  try dsimp only at h ⊢
  split at h
  · rename_i h1; rw [if_pos h1]; injection h with h; injection h with e1 e2; subst e1; subst e2; rfl
  rename_i h1; rw [if_neg h1]
  split at h
  · rename_i h2; rw [if_pos h2]; injection h with h; injection h with e1 e2; subst e1; subst e2; rfl
  rename_i h2; rw [if_neg h2]
  split at h
  · rename_i h3; rw [if_pos h3]; injection h with h; injection h with e1 e2; subst e1; subst e2; rfl
  rename_i h3; rw [if_neg h3]
  split at h
  · rename_i h4; rw [if_pos h4]; injection h with h; injection h with e1 e2; subst e1; subst e2; rfl
  rename_i h4; rw [if_neg h4]
  split at h
  · rename_i h5; rw [if_pos h5]; exact braceL_app h x
  rename_i h5; rw [if_neg h5]
  split at h
  · rename_i h6; rw [if_pos h6]; injection h with h; injection h with e1 e2; subst e1; subst e2; rfl
  rename_i h6; rw [if_neg h6]
  split at h
  · rename_i h7
    rw [if_pos h7]
    obtain ⟨⟨a, b⟩, h8, h⟩ := Option.map_eq_some_iff.1 h
    rw [classL_app h8 x]
    injection h with e1 e2
    subst e1; subst e2
    rfl
  rename_i h7; rw [if_neg h7]
  split at h
  · rename_i h8
    rw [if_pos h8]
    rcases l with _ | ⟨e, l⟩
    · cases h
    · dsimp only [List.cons_append] at h ⊢
      obtain ⟨p, hp, h⟩ := Option.map_eq_some_iff.1 h
      rw [hp]
      injection h with e1 e2
      subst e1; subst e2
      rfl
  rename_i h8; rw [if_neg h8]
  split at h
  · cases h
  · rename_i h9; rw [if_neg h9]; injection h with h; injection h with e1 e2; subst e1; subst e2; rfl
/-- A text's tokens with more behind it. -/
theorem toksL_app : ∀ (N : Nat) (l : List Int) (ts : List TokL), l.length ≤ N → toksL l.length l = some ts → ∀ x : List Int, toksL (l ++ x).length (l ++ x) = (toksL x.length x).map fun us => ts ++ us
  | N, [], ts, _, h, x => by
    have e : ts = [] := by
      have h : some [] = some ts := h
      injection h with h; exact h.symm
    subst e
    rw [List.nil_append]
    cases toksL x.length x <;> rfl
  | 0, _ :: _, _, hN, _, _ => by simp at hN
  | N + 1, y :: l, ts, hN, h, x => by
    rcases ht : tokL (y :: l) with _ | ⟨t, l'⟩
    · rw [toksL_none ht] at h; cases h
    · have hlt := tokL_lt ht
      rw [toksL_some ht] at h
      obtain ⟨us, hus, e⟩ := Option.map_eq_some_iff.1 h
      subst e
      rw [List.length_cons] at hN hlt
      have ih := toksL_app N l' us (by omega) hus x
      have ha := tokL_app ht x
      rw [List.cons_append] at ha ⊢
      rw [toksL_some ha, ih, Option.map_map]
      rfl
end Go.Proofs.YtegcebgoiocakaaDoor
/- How deep parentheses stand. -/
namespace Go.Proofs.YtegcebgoiocakaaDoor
open Go Go.RowKit
set_option linter.unusedVariables false

/-- The machine without a bound on its stack. -/
def runU : List TokL → List (Wood × Wood) → Wood → Wood → Bool → Option Wood
  | [], [], a, p, _ => some (finN a p)
  | [], _ :: _, _, _, _ => none
  | t :: l, st, a, p, loose =>
    if t.kind = 0 then runU l st a (p.app (leaf 1 t.set)) true
    else if t.kind = 2 then (if loose = true then runU l st a (repLast t.mn t.mx p) false else none)
    else if t.r = 124 then runU l st (a.app (oneN 4 p)) .nil false
    else if t.r = 94 then runU l st a (p.app (leaf 2 [])) false
    else if t.r = 36 then runU l st a (p.app (leaf 3 [])) false
    else if t.r = 41 then
      match st with
      | [] => none
      | (a', p') :: st' => runU l st' a' (p'.app (finN a p)) true
    else runU l ((a, p) :: st) .nil .nil false
/-- The greatest number of parentheses that stand open, where c do. -/
def depT : Nat → List TokL → Nat
  | c, [] => c
  | c, t :: l => if isOpen t = true then depT (c + 1) l else if isShut t = true then max c (depT (c - 1) l) else depT c l
theorem depT_ge : ∀ (l : List TokL) (c : Nat), c ≤ depT c l
  | [], c => Nat.le_refl c
  | t :: l, c => by
    rw [depT]
    split
    · exact Nat.le_trans (Nat.le_succ c) (depT_ge l (c + 1))
    · split
      · exact Nat.le_max_left _ _
      · exact depT_ge l c
theorem runT_dep (D : Nat) : ∀ (l : List TokL), (∀ t ∈ l, TokOk t) → ∀ (st : List (Wood × Wood)) (a p : Wood) (lo : Bool), D + st.length ≤ 10 → runT D l st a p lo = if D + depT st.length l ≤ 10 then runU l st a p lo else none
  | [], _, st, a, p, lo, h => by
    rw [depT, if_pos h]
    cases st <;> rfl
  | t :: l, hok, st, a, p, lo, h => by
    have hl : ∀ t ∈ l, TokOk t := fun t ht => hok t (List.mem_cons_of_mem _ ht)
    have ih := runT_dep D l hl
    rcases hok t (by simp) with h0 | h2 | ⟨h1, hr | hr | hr | hr | hr⟩
    · rw [run_char h0, ih st _ _ _ h, depT, open_no (by omega), shut_no (by omega)]
      cases st <;> simp [runU, h0]
    · rw [run_count h2, depT, open_no (by omega), shut_no (by omega)]
      cases lo with
      | false => cases st <;> simp [runU, h2]
      | true =>
        rw [if_pos rfl, ih st _ _ _ h]
        cases st <;> simp [runU, h2]
    · rw [run_bar h1 hr, ih st _ _ _ h, depT, open_no (by omega), shut_no (by omega)]
      cases st <;> simp [runU, h1, hr]
    · rw [run_begin h1 hr, ih st _ _ _ h, depT, open_no (by omega), shut_no (by omega)]
      cases st <;> simp [runU, h1, hr]
    · rw [run_end h1 hr, ih st _ _ _ h, depT, open_no (by omega), shut_no (by omega)]
      cases st <;> simp [runU, h1, hr]
    · have ho : isOpen t = true := by unfold isOpen; rw [h1, hr]; rfl
      have hU : runU (t :: l) st a p lo = runU l ((a, p) :: st) .nil .nil false := by cases st <;> simp [runU, h1, hr]
      rw [run_paren h1 hr, depT, if_pos ho, hU]
      by_cases hd : D + st.length < 10
      · rw [if_pos hd, ih ((a, p) :: st) _ _ _ (by rw [List.length_cons]; omega), List.length_cons]
      · have := depT_ge l (st.length + 1)
        rw [if_neg hd, if_neg (by omega)]
    · have ho : isOpen t = false := open_no (by omega)
      have hs : isShut t = true := by unfold isShut; rw [h1, hr]; rfl
      have hdep : depT st.length (t :: l) = max st.length (depT (st.length - 1) l) := by rw [depT, ho, if_neg (by decide), if_pos hs]
      rw [hdep]
      clear hdep
      rcases st with _ | ⟨⟨a', p'⟩, st⟩
      · rw [run_shut_nil h1 hr]
        have hU : runU (t :: l) [] a p lo = none := by simp [runU, h1, hr]
        rw [hU]
        split <;> rfl
      · rw [List.length_cons] at h ⊢
        have hU : runU (t :: l) ((a', p') :: st) a p lo = runU l st a' (p'.app (finN a p)) true := by simp [runU, h1, hr]
        rw [run_shut a' p' h1 hr, ih st _ _ _ (by omega), hU, Nat.add_sub_cancel]
        have := depT_ge l st.length
        by_cases hd : D + depT st.length l ≤ 10
        · rw [if_pos hd, if_pos (by omega)]
        · rw [if_neg hd, if_neg (by omega)]
end Go.Proofs.YtegcebgoiocakaaDoor
