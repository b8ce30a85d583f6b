/- Texts. -/
import Derived.Test.YtaapbmdojkjphaaGreatZ07
import Derived.Test.YtaapbmdojkjphaaGreatZ10
import Derived.Test.YtaapbmdojkjphaaGreatZ11
import Derived.Test.YtaapbmdojkjphaaGreatZ12
import Derived.Test.YtaapbmdojkjphaaGreatZ15
namespace Go.Proofs.YtaapbmdojkjphaaGreat
open Go Go.RowKit
set_option linter.unusedVariables false
theorem all_self {cs : List Int} {hs : List (Nat × Nat)} (hcs : Points cs) (h0 : cs ≠ []) (h : AllR (plainP cs) cs 0 none hs) : ∃ l, hs = (0, cs.length) :: l := by
  have hk : hitAt cs cs 0 = true := by unfold hitAt; rw [List.drop_zero, List.take_length, beq_self_eq_true]
  have hL := long_hit hcs hk
  rw [Nat.zero_add] at hL
  cases h with
  | stop h1 => omega
  | skip h1 h2 h3 =>
    rcases h2 with h2 | ⟨_, h2⟩
    · have := hL.uniq h2; cases this
    · cases h2
  | @take _ _ e l h1 h2 h3 h4 =>
    have := hL.uniq h2
    injection this with this
    subst this
    exact ⟨l, rfl⟩
end Go.Proofs.YtaapbmdojkjphaaGreat
namespace Go.Proofs.YtaapbmdojkjphaaGreat
open Go Go.RowKit
set_option linter.unusedVariables false
theorem getI_take {l : List Int} {n : Nat} (h1 : (getI l).2 ≤ n) (h4 : l.length ≤ n ∨ 4 ≤ n ∨ (getI l).2 = n) (h0 : 0 < n) : getI (l.take n) = getI l := by
  cases l with
  | nil => simp
  | cons x t =>
    obtain ⟨m, rfl⟩ : ∃ m, n = m + 1 := ⟨n - 1, by omega⟩
    rw [List.take_succ_cons]
    have hl := lenI_or x
    rcases h4 with h4 | h4 | h4
    · rw [List.take_of_length_le (by simpa using h4)]
    · simp only [getI, List.length_take, List.take_take]
      rw [show min ((lenI x).toNat - 1) m = (lenI x).toNat - 1 by omega]
      have e : ((min m t.length : Nat) : Int) + 1 < lenI x ↔ (t.length : Int) + 1 < lenI x := by omega
      simp only [e]
    · simp only [getI, List.length_take, List.take_take] at h4 ⊢
      by_cases hc : lenI x = 0 ∨ (t.length : Int) + 1 < lenI x
      · have hc2 : lenI x = 0 ∨ ((min m t.length : Nat) : Int) + 1 < lenI x := by omega
        rw [if_pos hc, if_pos hc2]
      · rw [if_neg hc] at h4 ⊢
        split at h4
        · rename_i hg
          have hc2 : ¬ (lenI x = 0 ∨ ((min m t.length : Nat) : Int) + 1 < lenI x) := by simp at h4; omega
          rw [if_neg hc2, show min ((lenI x).toNat - 1) m = (lenI x).toNat - 1 by simp at h4; omega]
        · rename_i hg
          have hm : m = 0 := by simp at h4; omega
          subst hm
          rw [if_neg hg]
          by_cases hc2 : lenI x = 0 ∨ ((min 0 t.length : Nat) : Int) + 1 < lenI x
          · rw [if_pos hc2]
          · rw [if_neg hc2, show min ((lenI x).toNat - 1) 0 = (lenI x).toNat - 1 by omega, if_neg hg]
theorem getI_two (x : Int) (t : List Int) : (getI (x :: t)).2 = 1 ∨ (getI (x :: t)).2 = lenI x := by
  simp only [getI]
  (repeat' split) <;> simp
def szT (T : List Int) (a : Nat) : Nat := (getI (T.drop a)).2.toNat
def cpT (T : List Int) (a : Nat) : Int := (getI (T.drop a)).1
section
variable {T : List Int} {a : Nat}
theorem szT_pos (h : a < T.length) : 1 ≤ szT T a ∧ a + szT T a ≤ T.length ∧ szT T a ≤ 4 := by
  have hne : T.drop a ≠ [] := fun e => by have := congrArg List.length e; simp at this; omega
  have hb := getI_bounds hne
  rw [List.length_drop] at hb
  unfold szT
  refine ⟨by omega, by omega, ?_⟩
  cases hd : T.drop a with
  | nil => exact absurd hd hne
  | cons x t => have := getI_two x t; have := lenI_or x; omega
theorem szT_eq (h : a < T.length) : ((szT T a : Nat) : Int) = (getI (T.drop a)).2 := by
  have := szT_pos h
  unfold szT at *
  omega
theorem szT_in (h : a < T.length) {i : Nat} (h0 : 0 < i) (hi : i < szT T a) : szT T (a + i) = 1 := by
  have hp := szT_pos h
  have hd : T.drop (a + i) = (T.drop a).drop i := by rw [List.drop_drop]
  unfold szT at hi ⊢
  rw [hd]
  cases hx : T.drop a with
  | nil => have := congrArg List.length hx; simp at this; omega
  | cons x t =>
    rw [hx] at hi
    obtain ⟨j, rfl⟩ : ∃ j, i = j + 1 := ⟨i - 1, by omega⟩
    rw [List.drop_succ_cons]
    have hlen : t.length + 1 = T.length - a := by have := congrArg List.length hx; simp at this; omega
    unfold szT at hp
    rw [hx] at hp
    simp only [getI] at hi hp
    split at hi
    · simp at hi
    · rename_i h1
      split at hi
      · rename_i h2
        rw [if_neg h1, if_pos h2] at hp
        simp only at hi hp
        have hc : ∀ c ∈ t.take ((lenI x).toNat - 1), 128 ≤ c ∧ c < 192 := by
          apply Classical.byContradiction
          intro hn
          have := gat_not (headI (lenI x) x) _ hn
          rw [this] at h2
          exact absurd h2.1 (by decide)
        cases hy : t.drop j with
        | nil => have := congrArg List.length hy; simp at this; omega
        | cons y u =>
          have hyt : t[j]? = some y := by
            have := congrArg (fun l => l[0]?) hy
            simpa using this
          have hym : y ∈ t.take ((lenI x).toNat - 1) := by
            have : (t.take ((lenI x).toNat - 1))[j]? = some y := by rw [List.getElem?_take_of_lt (by omega)]; exact hyt
            exact List.mem_of_getElem? this
          have := hc y hym
          have hl : lenI y = 0 := by unfold lenI; rw [if_neg (by omega), if_pos (by omega)]
          simp [getI, hl]
      · simp at hi
end
def goT : Nat → List Int → Nat → List (Int × Nat)
  | 0, _, _ => []
  | f + 1, T, a => if a < T.length then (cpT T a, a + szT T a) :: goT f T (a + szT T a) else []
def rsT (T : List Int) : List Int := (goT T.length T 0).map Prod.fst
def atT (T : List Int) : List Nat := 0 :: (goT T.length T 0).map Prod.snd
theorem goT_spec : ∀ (f : Nat) (T : List Int) (a : Nat), T.length ≤ a + f → a ≤ T.length →
    (∀ (k : Nat) (x : Int × Nat), (goT f T a)[k]? = some x → ∃ b, (a :: (goT f T a).map Prod.snd)[k]? = some b ∧ b < T.length ∧ x = (cpT T b, b + szT T b)) ∧ (a :: (goT f T a).map Prod.snd)[(goT f T a).length]? = some T.length
  | 0, T, a, h1, h2 => by
    have : a = T.length := by omega
    subst this
    exact ⟨fun k x hx => by simp [goT] at hx, by simp [goT]⟩
  | f + 1, T, a, h1, h2 => by
    by_cases hlt : a < T.length
    · have hp := szT_pos hlt
      obtain ⟨k1, k2⟩ := goT_spec f T (a + szT T a) (by omega) hp.2.1
      rw [goT, if_pos hlt]
      refine ⟨fun k x hx => ?_, by simpa using k2⟩
      cases k with
      | zero =>
        simp at hx
        exact ⟨a, rfl, hlt, hx.symm⟩
      | succ k =>
        obtain ⟨b, h3, h4, h5⟩ := k1 k x (by simpa using hx)
        exact ⟨b, by simpa using h3, h4, h5⟩
    · have : a = T.length := by omega
      subst this
      rw [goT, if_neg hlt]
      exact ⟨fun k x hx => by simp at hx, by simp⟩
section
variable {T : List Int}
theorem atT_len : (atT T).length = (rsT T).length + 1 := by simp [atT, rsT]
theorem atT_zero : (atT T)[0]? = some 0 := rfl
theorem atT_last : (atT T)[(rsT T).length]? = some T.length := by
  have := (goT_spec T.length T 0 (by omega) (by omega)).2
  simpa [atT, rsT] using this
theorem atT_at {k : Nat} (hk : k ≤ (rsT T).length) : ∃ a, (atT T)[k]? = some a := ⟨_, List.getElem?_eq_getElem (by rw [atT_len]; omega)⟩
theorem atT_next {k a : Nat} (hk : k < (rsT T).length) (ha : (atT T)[k]? = some a) : a < T.length ∧ (atT T)[k + 1]? = some (a + szT T a) ∧ (rsT T)[k]? = some (cpT T a) := by
  have hk' : k < (goT T.length T 0).length := by simpa [rsT] using hk
  obtain ⟨x, hx⟩ : ∃ x, (goT T.length T 0)[k]? = some x := ⟨_, List.getElem?_eq_getElem hk'⟩
  obtain ⟨b, h1, h2, h3⟩ := (goT_spec T.length T 0 (by omega) (by omega)).1 k x hx
  have : b = a := by
    unfold atT at ha
    rw [h1] at ha
    exact Option.some.inj ha
  subst this
  refine ⟨h2, ?_, ?_⟩
  · simp [atT, hx, h3]
  · simp [rsT, hx, h3]
theorem atT_le {k a : Nat} (ha : (atT T)[k]? = some a) : a ≤ T.length := by
  have hk := (List.getElem?_eq_some_iff.1 ha).1
  rw [atT_len] at hk
  rcases Nat.lt_or_ge k (rsT T).length with h | h
  · exact Nat.le_of_lt (atT_next h ha).1
  · obtain rfl : k = (rsT T).length := by omega
    rw [atT_last] at ha
    injection ha with ha
    omega
theorem atT_lt : ∀ {j i a b : Nat}, i < j → (atT T)[i]? = some a → (atT T)[j]? = some b → a < b
  | 0, _, _, _, h, _, _ => by omega
  | j + 1, i, a, b, h, ha, hb => by
    have hj := (List.getElem?_eq_some_iff.1 hb).1
    rw [atT_len] at hj
    obtain ⟨c, hc⟩ := atT_at (T := T) (k := j) (by omega)
    obtain ⟨h1, h2, _⟩ := atT_next (by omega) hc
    rw [h2] at hb
    injection hb with hb
    have := szT_pos h1
    rcases Nat.lt_or_ge i j with h3 | h3
    · have := atT_lt h3 ha hc
      omega
    · obtain rfl : i = j := by omega
      rw [hc] at ha
      injection ha with ha
      omega
theorem atT_inj {i j a : Nat} (hi : (atT T)[i]? = some a) (hj : (atT T)[j]? = some a) : i = j := by
  rcases Nat.lt_trichotomy i j with h | h | h
  · have := atT_lt h hi hj; omega
  · exact h
  · have := atT_lt h hj hi; omega
theorem atT_end {k a : Nat} (hk : k ≤ (rsT T).length) (ha : (atT T)[k]? = some a) : a = T.length ↔ k = (rsT T).length := by
  constructor
  · rintro rfl
    exact atT_inj ha atT_last
  · rintro rfl
    rw [atT_last] at ha
    injection ha with ha
    exact ha.symm
theorem rsT_le : (rsT T).length ≤ T.length := by
  have key : ∀ (k a : Nat), (atT T)[k]? = some a → k ≤ a := by
    intro k
    induction k with
    | zero => intro a _; omega
    | succ k ih =>
      intro a ha
      have hj := (List.getElem?_eq_some_iff.1 ha).1
      rw [atT_len] at hj
      obtain ⟨c, hc⟩ := atT_at (T := T) (k := k) (by omega)
      have := ih c hc
      have := atT_lt (Nat.lt_succ_self k) hc ha
      omega
  exact key _ _ atT_last
def IsPl (T : List Int) (a : Nat) : Prop := ∃ k : Nat, (atT T)[k]? = some a
theorem last_place {a : Nat} (ha : a ≤ T.length) : ∃ (k b : Nat), (atT T)[k]? = some b ∧ b ≤ a ∧ (b = a ∨ k < (rsT T).length ∧ a < b + szT T b) := by
  have key : ∀ (n : Nat), n ≤ (rsT T).length → ∀ (b : Nat), (atT T)[n]? = some b → (∃ (k b : Nat), (atT T)[k]? = some b ∧ b ≤ a ∧ (b = a ∨ k < (rsT T).length ∧ a < b + szT T b)) ∨ b ≤ a := by
    intro n
    induction n with
    | zero =>
      intro _ b hb
      rw [atT_zero] at hb; injection hb with hb
      exact .inr (by omega)
    | succ n ih =>
      intro hn b hb
      obtain ⟨c, hc⟩ := atT_at (T := T) (k := n) (by omega)
      rcases ih (by omega) c hc with h | h
      · exact .inl h
      · obtain ⟨_, h2, _⟩ := atT_next (by omega) hc
        rw [h2] at hb; injection hb with hb
        rcases Nat.lt_or_ge a b with h3 | h3
        · exact .inl ⟨n, c, hc, h, .inr ⟨by omega, by omega⟩⟩
        · exact .inr h3
  rcases key _ (Nat.le_refl _) _ atT_last with h | h
  · exact h
  · exact ⟨_, _, atT_last, h, .inl (by omega)⟩
theorem isPl_iff {a : Nat} (ha : a ≤ T.length) : IsPl T a ↔ ∀ b, b < a → a - 3 ≤ b → ¬ a - b < szT T b := by
  constructor
  · rintro ⟨k, hk⟩ b hb h3 hs
    obtain ⟨j, c, hj, hcb, h⟩ := last_place (T := T) (a := b) (by omega)
    have hbl : b < T.length := by
      rcases Nat.lt_or_ge b T.length with h4 | h4
      · exact h4
      · omega
    rcases h with rfl | ⟨hjm, hlt⟩
    · have hjm : j < (rsT T).length := by
        rcases Nat.lt_or_ge j (rsT T).length with h5 | h5
        · exact h5
        · have h6 := (List.getElem?_eq_some_iff.1 hj).1
          rw [atT_len] at h6
          have := (atT_end (by omega) hj).2 (by omega)
          omega
      obtain ⟨_, h2, _⟩ := atT_next hjm hj
      rcases Nat.lt_trichotomy k (j + 1) with h4 | h4 | h4
      · rcases Nat.lt_or_ge k j with h5 | h5
        · have := atT_lt h5 hk hj; omega
        · obtain rfl : k = j := by omega
          rw [hj] at hk; injection hk with hk; omega
      · subst h4; rw [h2] at hk; injection hk with hk; omega
      · have := atT_lt h4 h2 hk; omega
    · rcases Nat.eq_or_lt_of_le hcb with h4 | h4
      · obtain ⟨_, h2, _⟩ := atT_next hjm hj
        subst h4
        rcases Nat.lt_trichotomy k (j + 1) with h4 | h4 | h4
        · rcases Nat.lt_or_ge k j with h5 | h5
          · have := atT_lt h5 hk hj; omega
          · obtain rfl : k = j := by omega
            rw [hj] at hk; injection hk with hk; omega
        · subst h4; rw [h2] at hk; injection hk with hk; omega
        · have := atT_lt h4 h2 hk; omega
      · have := szT_in (T := T) (a := c) (by omega) (i := b - c) (by omega) (by omega)
        rw [show c + (b - c) = b by omega] at this
        omega
  · intro h
    obtain ⟨j, c, hj, hca, h2⟩ := last_place (T := T) ha
    rcases h2 with rfl | ⟨hjm, hlt⟩
    · exact ⟨j, hj⟩
    · rcases Nat.eq_or_lt_of_le hca with h4 | h4
      · exact ⟨j, h4 ▸ hj⟩
      · have hp := szT_pos (atT_next hjm hj).1
        exact absurd (show a - c < szT T c by omega) (h c h4 (by omega))
end
end Go.Proofs.YtaapbmdojkjphaaGreat
namespace Go.Proofs.YtaapbmdojkjphaaGreat
open Go Go.RowKit
set_option linter.unusedVariables false
theorem putAll_split {T : List Int} (c : Int) (suf : List Int) (h : isI c = true) (m : List Int) (hT : T.drop m.length = putI c ++ putAll suf) : cpT T m.length = c ∧ szT T m.length = (putI c).length := by
  unfold cpT szT
  rw [hT, get_put h]
  exact ⟨rfl, by simp⟩
theorem goT_points : ∀ (suf pre : List Int) (f : Nat), Points suf → (putAll suf).length ≤ f → (goT f (putAll (pre ++ suf)) (putAll pre).length).map Prod.fst = suf ∧ ∀ k, k < suf.length → ((goT f (putAll (pre ++ suf)) (putAll pre).length).map Prod.snd)[k]? = some (putAll (pre ++ suf.take (k + 1))).length
  | [], pre, f, _, _ => by
    rw [List.append_nil]
    refine ⟨?_, fun k hk => by simp at hk⟩
    cases f with
    | zero => rfl
    | succ f => rw [goT, if_neg (by omega)]; rfl
  | c :: suf, pre, 0, h, hf => by
    have := putI_len c
    rw [show putAll (c :: suf) = putI c ++ putAll suf from rfl, List.length_append] at hf
    omega
  | c :: suf, pre, f + 1, h, hf => by
    have hl := putI_len c
    have e : putAll (c :: suf) = putI c ++ putAll suf := rfl
    rw [e, List.length_append] at hf
    have hT : putAll (pre ++ c :: suf) = putAll pre ++ (putI c ++ putAll suf) := by rw [putAll_append, e]
    obtain ⟨h1, h2⟩ := putAll_split (T := putAll (pre ++ c :: suf)) c suf h.head (putAll pre) (by rw [hT, List.drop_left])
    have hlt : (putAll pre).length < (putAll (pre ++ c :: suf)).length := by rw [hT, List.length_append, List.length_append]; omega
    have hp : pre ++ c :: suf = (pre ++ [c]) ++ suf := by simp
    have hq : (putAll pre).length + (putI c).length = (putAll (pre ++ [c])).length := by rw [putAll_snoc, List.length_append]
    obtain ⟨i1, i2⟩ := goT_points suf (pre ++ [c]) f h.tail (by omega)
    rw [goT, if_pos hlt, h1, h2, hq, hp]
    refine ⟨by rw [List.map_cons, i1], fun k hk => ?_⟩
    rcases k with _ | k
    · rw [List.map_cons, List.getElem?_cons_zero]
      simp
    · rw [List.map_cons, List.getElem?_cons_succ, i2 k (by simpa using hk)]
      simp
theorem rs_points {l : List Int} (h : Points l) : rsT (putAll l) = l := (goT_points l [] _ h (Nat.le_refl _)).1
theorem at_points {l : List Int} (h : Points l) {k : Nat} (hk : k ≤ l.length) : (atT (putAll l))[k]? = some (putAll (l.take k)).length := by
  unfold atT
  rcases k with _ | k
  · rfl
  · rw [List.getElem?_cons_succ]
    exact (goT_points l [] _ h (Nat.le_refl _)).2 k hk
theorem points_back : ∀ (N : Nat) (l xs : List Int), l.length ≤ N → (∀ x ∈ l, 0 ≤ x ∧ x < 256) → pointsL l = some xs → l = putAll xs ∧ Points xs
  | N, [], xs, _, _, h => by
    have h : some [] = some xs := h
    injection h with h
    subst h
    exact ⟨rfl, fun c hc => by simp at hc⟩
  | 0, _ :: _, _, hN, _, _ => by simp at hN
  | N + 1, y :: l, xs, hN, hb, h => by
    have hne : y :: l ≠ [] := by simp
    have hbd := getI_bounds hne
    have his := getI_is (y :: l)
    have hbk := get_back hne hb
    rw [pointsL_cons hne] at h
    split at h
    · rename_i hz
      obtain ⟨r, hr, e⟩ := Option.map_eq_some_iff.1 h
      subst e
      have hput := hbk.2 hz
      obtain ⟨i1, i2⟩ := points_back N ((y :: l).drop (getI (y :: l)).2.toNat) r (by rw [List.length_drop]; rw [List.length_cons] at hN ⊢; omega) (fun x hx => hb x (List.mem_of_mem_drop hx)) hr
      refine ⟨?_, fun c hc => ?_⟩
      · show _ = putI _ ++ putAll r
        rw [← i1, hput, List.take_append_drop]
      · rcases List.mem_cons.1 hc with rfl | hc
        · exact his
        · exact i2 c hc
    · cases h
theorem inside_all {cs rs : List Int} {k : Nat} (hl : (putAll cs).length = (putAll rs).length) (h : (rs.drop k).take cs.length = cs) : rs = cs := by
  have e : rs = rs.take k ++ (cs ++ (rs.drop k).drop cs.length) := by
    conv => lhs; rw [← List.take_append_drop k rs]
    congr 1
    conv => lhs; rw [← List.take_append_drop cs.length (rs.drop k), h]
  have h1 := congrArg (fun l => (putAll l).length) e
  simp only [putAll_append, List.length_append] at h1
  have h2 := putAll_len (rs.take k)
  have h3 := putAll_len ((rs.drop k).drop cs.length)
  have h4 : rs.take k = [] := List.eq_nil_of_length_eq_zero (by omega)
  have h5 : (rs.drop k).drop cs.length = [] := List.eq_nil_of_length_eq_zero (by omega)
  rw [h4, h5] at e
  simpa using e
end Go.Proofs.YtaapbmdojkjphaaGreat
namespace Go.Proofs.YtaapbmdojkjphaaGreat
set_option linter.unusedVariables false
def atF (T : List Int) (k : Nat) : Nat := (atT T).getD k 0
def phi (T : List Int) (x : Nat × Nat) : Nat × Nat := (x.1, atF T x.2)
section
variable {T : List Int}
theorem atF_at {k : Nat} (hk : k ≤ (rsT T).length) : (atT T)[k]? = some (atF T k) := by
  obtain ⟨a, ha⟩ := atT_at hk
  unfold atF
  rw [List.getD, ha]; rfl
theorem atF_of {k a : Nat} (h : (atT T)[k]? = some a) : atF T k = a ∧ k ≤ (rsT T).length := by
  have hk := (List.getElem?_eq_some_iff.1 h).1
  rw [atT_len] at hk
  exact ⟨by unfold atF; rw [List.getD, h]; rfl, by omega⟩
theorem atF_zero : atF T 0 = 0 := rfl
theorem atF_last : atF T (rsT T).length = T.length := (atF_of atT_last).1
theorem atF_lt {i j : Nat} (hj : j ≤ (rsT T).length) (h : i < j) : atF T i < atF T j := atT_lt h (atF_at (by omega)) (atF_at hj)
theorem atF_le {i j : Nat} (hj : j ≤ (rsT T).length) (h : i ≤ j) : atF T i ≤ atF T j := by
  rcases Nat.eq_or_lt_of_le h with rfl | h
  · exact Nat.le_refl _
  · exact Nat.le_of_lt (atF_lt hj h)
theorem atF_le_iff {i j : Nat} (hi : i ≤ (rsT T).length) (hj : j ≤ (rsT T).length) : atF T i ≤ atF T j ↔ i ≤ j := by
  constructor
  · intro h
    rcases Nat.lt_or_ge j i with h1 | h1
    · have := atF_lt hi h1; omega
    · exact h1
  · exact atF_le hj
theorem atF_max {i : Nat} (hi : i ≤ (rsT T).length) : atF T i ≤ T.length := by rw [← atF_last]; exact atF_le (Nat.le_refl _) hi
theorem atF_next {k : Nat} (hk : k < (rsT T).length) : atF T k < T.length ∧ atF T (k + 1) = atF T k + szT T (atF T k) ∧ (rsT T)[k]? = some (cpT T (atF T k)) := by
  obtain ⟨h1, h2, h3⟩ := atT_next hk (atF_at (by omega))
  exact ⟨h1, (atF_of h2).1, h3⟩
theorem atF_zero_iff {k : Nat} (hk : k ≤ (rsT T).length) : atF T k = 0 ↔ k = 0 := by
  constructor
  · intro h
    rcases Nat.eq_zero_or_pos k with h0 | h0
    · exact h0
    · have := atF_lt hk h0; rw [atF_zero] at this; omega
  · rintro rfl; rfl
theorem atF_end_iff {k : Nat} (hk : k ≤ (rsT T).length) : atF T k = T.length ↔ k = (rsT T).length := atT_end hk (atF_at hk)
theorem openA_at {k : Nat} (hk : k ≤ (rsT T).length) (op : Int) : openA T.length (atF T k) op = openA (rsT T).length k op := by
  unfold openA
  rw [decide_eq_decide.2 (atF_zero_iff hk), decide_eq_decide.2 (atF_end_iff hk)]
theorem we_at {p : List InstL} {W : List (List (Nat × Nat))} {k : Nat} (hk : k ≤ (rsT T).length) : WE p W T.length (atF T k) = WE p W (rsT T).length k := by
  funext i j
  apply propext
  unfold WE
  simp only [openA_at hk]
theorem phi_fst (T : List Int) (xs : List (Nat × Nat)) : (xs.map (phi T)).map Prod.fst = xs.map Prod.fst := by rw [List.map_map]; rfl
end
theorem Steps.unmap {E : Nat → Nat → Prop} {T : List Int} {t h' : List (Nat × Nat)} (s : Steps E t h') : ∀ todo, t = todo.map (phi T) → ∃ h, h' = h.map (phi T) ∧ Steps E todo h := by
  induction s with
  | nil =>
    intro todo h
    rw [List.map_eq_nil_iff.1 h.symm]
    exact ⟨[], rfl, .nil⟩
  | @snoc t0 h0 h1 i f s m ih =>
    intro todo ht
    obtain ⟨l1, l2, rfl, e1, e2⟩ := List.map_eq_append_iff.1 ht.symm
    obtain ⟨x, rfl, e3⟩ := List.map_eq_singleton_iff.1 e2
    obtain ⟨h, rfl, hs⟩ := ih l1 e1.symm
    obtain ⟨new, rfl, m1, m2, m3, m4⟩ := m
    injection e3 with e3 e4
    subst e3; subst e4
    have eh : h.map (phi T) ++ new.map (fun j => (j, atF T x.2)) = (h ++ new.map fun j => (j, x.2)).map (phi T) := by
      rw [List.map_append, List.map_map]; rfl
    refine ⟨h ++ new.map fun j => (j, x.2), eh, .snoc hs ⟨new, rfl, m1, ?_, ?_, ?_⟩⟩
    · rw [eh, phi_fst] at m2; exact m2
    · rw [eh, phi_fst] at m3; exact m3
    · rw [eh, phi_fst] at m4; exact m4
theorem Met.unmap {E : Nat → Nat → Prop} {T : List Int} {h h' : List (Nat × Nat)} {i k : Nat} (m : Met E (h.map (phi T)) h' i (atF T k)) : ∃ h2, h' = h2.map (phi T) ∧ Met E h h2 i k := by
  obtain ⟨new, rfl, m1, m2, m3, m4⟩ := m
  have eh : h.map (phi T) ++ new.map (fun j => (j, atF T k)) = (h ++ new.map fun j => (j, k)).map (phi T) := by
    rw [List.map_append, List.map_map]; rfl
  refine ⟨h ++ new.map fun j => (j, k), eh, new, rfl, m1, ?_, ?_, ?_⟩
  · rw [eh, phi_fst] at m2; exact m2
  · rw [eh, phi_fst] at m3; exact m3
  · rw [eh, phi_fst] at m4; exact m4
theorem meets_map {p : List InstL} {W : List (List (Nat × Nat))} {r : Int} (T : List Int) (last : List (Nat × Nat)) : meets p W r (last.map (phi T)) = (meets p W r last).map (phi T) := by
  unfold meets
  rw [List.flatMap_map, List.map_flatMap]
  congr 1
  funext s
  rw [List.map_map]
  rfl
theorem filter_map {T : List Int} {b : Nat} (hb : b ≤ (rsT T).length) (xs : List (Nat × Nat)) (hx : ∀ x ∈ xs, x.2 ≤ (rsT T).length) : (xs.map (phi T)).filter (fun y => decide (y.2 ≤ atF T b)) = (xs.filter fun y => decide (y.2 ≤ b)).map (phi T) := by
  rw [List.filter_map]
  congr 1
  apply List.filter_congr
  intro x hxm
  show decide (atF T x.2 ≤ atF T b) = decide (x.2 ≤ b)
  exact decide_eq_decide.2 (atF_le_iff (hx x hxm) hb)
end Go.Proofs.YtaapbmdojkjphaaGreat
namespace Go.Proofs.YtaapbmdojkjphaaGreat
open Go Go.RowKit
set_option linter.unusedVariables false
set_option maxRecDepth 20000
section
variable {B g mb : Nat} {e : WEnv} {w w' : World} {at_ : Nat} {H : Option Addr} {hn hc : Nat} {here : List (Nat × Nat)} {L : Option Addr} {ln lc : Nat} {last : List (Nat × Nat)} {met : List Int}
theorem WalkC.setM (h : WalkC B g mb e w at_ H hn hc here L ln lc last met) (i : Nat) (v : Int) : WalkC B g mb e (w.setCell ⟨mb, i, none⟩ (.int .i64 v)) at_ H hn hc here L ln lc last (met.set i v) := by
  have hoth : ∀ k, k ≠ mb → (w.setCell ⟨mb, i, none⟩ (.int .i64 v)).heap[k]? = w.heap[k]? := fun k hk => Below.heap_setCell _ _ _ _ hk
  have kp : ∀ {A : Option Addr} {n c : Nat} {xs : List Value}, w.ownsRow B 155 2 (.slice A n c) n xs → (w.setCell ⟨mb, i, none⟩ (.int .i64 v)).ownsRow B 155 2 (.slice A n c) n xs := fun ho => row_keep ho fun k hk hv => hoth k fun e => row_ne_blk ho h.hm (by decide) (by rw [hv, e])
  have hb : Below B w (w.setCell ⟨mb, i, none⟩ (.int .i64 v)) := (Below.refl _ _).setCell (p := ⟨mb, i, none⟩) h.hBm _
  refine ⟨(hoth g h.lt.2.2).trans h.hg, ?_, by simpa using h.hml, h.hB, h.hBm, kp h.row, kp h.old, h.ne, h.ins.below hb, h.ways.below hb, h.win, h.small⟩
  have := heap_setCell_same w mb i _ _ (.int .i64 v) h.hm
  rw [this]
  simp [List.map_set]
theorem WalkC.setG {at' : Nat} {H' L' : Option Addr} {hn' hc' ln' lc' : Nat} {here' last' : List (Nat × Nat)} (h : WalkC B g mb e w at_ H hn hc here L ln lc last met) (j : Nat) (u : Value) (hu : (walkV e at_ H hn hc L ln lc mb).setIfInBounds j u = walkV e at' H' hn' hc' L' ln' lc' mb)
    (hrow : w.ownsRow B 155 2 (.slice H' hn' hc') hn' (cellsS here')) (hold : w.ownsRow B 155 2 (.slice L' ln' lc') ln' (cellsS last')) (hne : ∀ b, (Value.slice H' hn' hc').ownBlock = some b → (Value.slice L' ln' lc').ownBlock ≠ some b) :
    WalkC B g mb e (w.setCell ⟨g, j, none⟩ u) at' H' hn' hc' here' L' ln' lc' last' met := by
  have hoth : ∀ k, k ≠ g → (w.setCell ⟨g, j, none⟩ u).heap[k]? = w.heap[k]? := fun k hk => Below.heap_setCell _ _ _ _ hk
  have kp : ∀ {A : Option Addr} {n c : Nat} {xs : List Value}, w.ownsRow B 155 2 (.slice A n c) n xs → (w.setCell ⟨g, j, none⟩ u).ownsRow B 155 2 (.slice A n c) n xs := fun ho => row_keep ho fun k hk hv => hoth k fun e => row_ne_blk ho h.hg (by decide) (by rw [hv, e])
  have hb : Below B w (w.setCell ⟨g, j, none⟩ u) := (Below.refl _ _).setCell (p := ⟨g, j, none⟩) h.hB _
  refine ⟨?_, (hoth mb (Ne.symm h.lt.2.2)).trans h.hm, h.hml, h.hB, h.hBm, kp hrow, kp hold, hne, h.ins.below hb, h.ways.below hb, h.win, h.small⟩
  rw [heap_setCell_same w g j _ _ u h.hg, hu]
theorem WalkC.push (h : WalkC B g mb e w at_ H hn hc here L ln lc last met) {X : World} (hX : Below w.heap.size w X) {d i f : Nat} (hd : X.heap[d]? = some (.cells #[.int .i64 (i : Int), .int .i64 (f : Int)] 155 (0, 0))) (hq : hn ≤ 100000) :
    ∃ v' w', (Builtin.append_ #[131, 131] 131 #[.slice H hn hc, .slice (some ⟨d, 0, none⟩) 1 1]).run Tryz.prog X = .ok v' w' ∧
      ∃ H' hc', v' = .slice H' (hn + 1) hc' ∧ w'.cell? ⟨g, 4, none⟩ = some (.slice H hn hc) ∧ w'.frozen? ⟨g, 4, none⟩ = false ∧ g < w'.heap.size ∧
      WalkC B g mb e (w'.setCell ⟨g, 4, none⟩ (.slice H' (hn + 1) hc')) at_ H' (hn + 1) hc' (here ++ [(i, f)]) L ln lc last met ∧ Tch B g mb w (w'.setCell ⟨g, 4, none⟩ (.slice H' (hn + 1) hc')) := by
  obtain ⟨i0, hi, hz0, hz1, hz2⟩ := info_parts info_spot
  have hwX := h.below hX
  have hBX : B ≤ X.heap.size := by have := hwX.lt; have := hwX.hB; omega
  have hcells : ∀ j u, [Value.int .i64 (i : Int), .int .i64 (f : Int)][j]? = some u → X.cell? ((⟨d, 0, none⟩ : Addr).add j) = some u := by
    intro j u hu
    rw [show (⟨d, 0, none⟩ : Addr).add j = ⟨d, 0 + j, none⟩ by unfold Addr.add; split <;> simp_all, cell_of_row X d (0 + j) _ 155 (0, 0) hd, Nat.zero_add]
    simpa using hu
  obtain ⟨V', w', h1, h2, h3, _, h4⟩ := run_append_own_at (P := Tryz.prog) X B 131 131 155 i0 _ 2 16 Tryz.underlying131 hi hz0 hz1 hz2 rfl (by decide) _ hn _ hwX.row ⟨d, 0, none⟩ 1 1 _ rfl hcells (by simp [Value.oneCell']) (by unfold maxLen; omega) (by omega) hBX
  have e1 : cellsS here ++ [Value.int .i64 (i : Int), .int .i64 (f : Int)] = cellsS (here ++ [(i, f)]) := by rw [cellsS_append]; rfl
  rw [e1] at h2
  obtain ⟨H', hc', rfl⟩ : ∃ H' hc', V' = .slice H' (hn + 1) hc' := by
    rcases h2.2 with ⟨rfl, h0⟩ | ⟨b, cap, cu, rfl, _⟩
    · omega
    · exact ⟨_, _, rfl⟩
  have hb' : Below B w w' := (hX.mono (by have := h.lt; have := h.hB; omega)).grown h3 hBX fun k hk => (row_lt hwX.row hk).1
  have hgg : w'.heap[g]? = X.heap[g]? := h3.block g hwX.lt.1 fun e => row_ne_blk hwX.row hwX.hg (by decide) e.symm
  have hmm : w'.heap[mb]? = X.heap[mb]? := h3.block mb hwX.lt.2.1 fun e => row_ne_blk hwX.row hwX.hm (by decide) e.symm
  have hneL : ∀ b, (Value.slice H' (hn + 1) hc').ownBlock = some b → (Value.slice L ln lc).ownBlock ≠ some b := fun b hb hl => by
    rcases h4 with h4 | h4
    · rw [h4] at hb; exact h.ne b hb hl
    · rw [h4] at hb; injection hb with hb; have := (row_lt hwX.old hl).2; omega
  have hold : w'.ownsRow B 155 2 (.slice L ln lc) ln (cellsS last) := row_keep hwX.old fun k hk hv => h3.block k hk fun e => hwX.ne k e.symm hv
  have hC : WalkC B g mb e w' at_ H' (hn + 1) hc' (here ++ [(i, f)]) L ln lc last met → WalkC B g mb e (w'.setCell ⟨g, 4, none⟩ (.slice H' (hn + 1) hc')) at_ H' (hn + 1) hc' (here ++ [(i, f)]) L ln lc last met := fun k => k.setG 4 _ (by rfl) k.row k.old k.ne
  have hoth : ∀ k, k ≠ g → (w'.setCell ⟨g, 4, none⟩ (.slice H' (hn + 1) hc')).heap[k]? = w'.heap[k]? := fun k hk => Below.heap_setCell _ _ _ _ hk
  have hb2 : Below B w (w'.setCell ⟨g, 4, none⟩ (.slice H' (hn + 1) hc')) := hb'.setCell (p := ⟨g, 4, none⟩) h.hB _
  have hCn : WalkC B g mb e (w'.setCell ⟨g, 4, none⟩ (.slice H' (hn + 1) hc')) at_ H' (hn + 1) hc' (here ++ [(i, f)]) L ln lc last met := by
    refine ⟨?_, (hoth mb (Ne.symm h.lt.2.2)).trans (hmm.trans hwX.hm), h.hml, h.hB, h.hBm, row_keep h2 fun k hk hv => hoth k fun e => ?_, row_keep hold fun k hk hv => hoth k fun e => ?_, hneL, h.ins.below hb2, h.ways.below hb2, h.win, h.small⟩
    · rw [heap_setCell_same w' g 4 _ _ _ (hgg.trans hwX.hg)]; rfl
    · exact row_ne_blk h2 (hgg.trans hwX.hg) (by decide) (by rw [hv, e])
    · exact row_ne_blk hold (hgg.trans hwX.hg) (by decide) (by rw [hv, e])
  refine ⟨_, w', h1, H', hc', rfl, cell_of_row w' g 4 _ _ (0, 0) (hgg.trans hwX.hg), by simp [World.frozen?, hgg.trans hwX.hg], (Array.getElem?_eq_some_iff.1 (hgg.trans hwX.hg)).1, hCn, tch_of h hCn hb2 fun k hk k1 k2 k3 k4 => ⟨?_, fun e => ?_, k4⟩⟩
  · rw [hoth k k1, h3.block k (Nat.lt_of_lt_of_le hk hX.size) fun e => k3 e.symm, hX.block k hk]
  · rcases h4 with h4 | h4
    · exact k3 (h4 ▸ e)
    · rw [h4] at e; injection e with e; have := hX.size; omega
end
def addH (here : List (Nat × Nat)) (i f : Nat) : List (Nat × Nat) := if i ∈ here.map Prod.fst then here else here ++ [(i, f)]
theorem nodup_len : ∀ (n : Nat) (l : List Nat), l.Nodup → (∀ x ∈ l, x < n) → l.length ≤ n
  | 0, l, _, h => by
    cases l with
    | nil => exact Nat.le_refl _
    | cons a l => exact absurd (h a (by simp)) (by omega)
  | n + 1, l, hn, h => by
    by_cases hm : n ∈ l
    · have h1 := nodup_len n (l.erase n) (hn.erase n) (fun x hx => by
        have h2 := h x (List.mem_of_mem_erase hx)
        have h3 : x ≠ n := fun e => by rw [e] at hx; exact (List.Nodup.not_mem_erase hn) hx
        omega)
      rw [List.length_erase_of_mem hm] at h1
      omega
    · have h1 := nodup_len n l hn (fun x hx => by
        have h2 := h x hx
        have h3 : x ≠ n := fun e => by rw [e] at hx; exact hm hx
        omega)
      omega
theorem here_len {e : WEnv} {here : List (Nat × Nat)} (hnd : (here.map Prod.fst).Nodup) (hin : ∀ x ∈ here, x.1 < e.n) : here.length ≤ e.n := by
  have h1 := nodup_len e.n (here.map Prod.fst) hnd (fun x hx => by
    obtain ⟨y, hy, rfl⟩ := List.mem_map.1 hx
    exact hin y hy)
  simpa using h1
structure WalkM (full : Prop) (B g mb : Nat) (e : WEnv) (w : World) (at_ : Nat) (here : List (Nat × Nat)) (last : SRow) (met : List Int) : Prop where
  s : WalkS B g mb e w at_ here last met
  okL : ∀ i, i ∈ here.map Prod.fst → met[i]? = some (at_ : Int)
  okR : full → ∀ i, met[i]? = some (at_ : Int) → i ∈ here.map Prod.fst
  nodup : (here.map Prod.fst).Nodup
  inn : ∀ x ∈ here, x.1 < e.n
theorem WalkM.below {full : Prop} {B g mb : Nat} {e : WEnv} {w w' : World} {at_ : Nat} {here : List (Nat × Nat)} {last : SRow} {met : List Int} (h : WalkM full B g mb e w at_ here last met) (hb : Below w.heap.size w w') : WalkM full B g mb e w' at_ here last met := ⟨h.s.below hb, h.okL, h.okR, h.nodup, h.inn⟩
def MetIn (at_ : Nat) (met met' : List Int) : Prop := ∀ x ∈ met', x ∈ met ∨ x = (at_ : Int)
theorem MetIn.trans {at_ : Nat} {a b c : List Int} (h : MetIn at_ a b) (k : MetIn at_ b c) : MetIn at_ a c := fun x hx => by
  rcases k x hx with h1 | h1
  · exact h x h1
  · exact .inr h1
set_option maxHeartbeats 4000000 in
theorem add_any {full : Prop} {B g mb : Nat} {e : WEnv} {w : World} {at_ : Nat} {here : List (Nat × Nat)} {last : SRow} {met : List Int} (h : WalkM full B g mb e w at_ here last met) (i f : Nat) (hi : i < e.n) :
    Calls Tryz.prog 112 #[.pointer (some ⟨g, 0, none⟩), .int .i64 (i : Int), .int .i64 (f : Int)] w fun en w' => en = .returned (.tuple #[]) ∧ ∃ here' met', WalkM full B g mb e w' at_ here' last met' ∧ Tch B g mb w w' ∧ MetIn at_ met met' ∧ (full → here' = addH here i f) := by
  obtain ⟨⟨H, hn, hc, hC⟩, hokL, hokR, hnd, hin⟩ := h
  have hl : hn ≤ 100000 := by have := own_len hC.row; have := here_len hnd hin; have := hC.small.1; omega
  obtain ⟨c0, c1, c2, c3, c4, c5, c6, hf⟩ := hC.cells
  obtain ⟨m0, mf⟩ := hC.met_at hi
  obtain ⟨x, hx⟩ : ∃ x, x = met.getD i 0 := ⟨_, rfl⟩
  rw [← hx] at m0
  have hmi : met[i]? = some x := by rw [hx]; have := hC.hml; simp [List.getD, List.getElem?_eq_getElem (show i < met.length by omega)]
  have mf0 := mf i
  have hi1 : (0 : Int) ≤ (i : Int) := by omega
  have hi2 : (i : Int) < (e.n : Int) := by omega
  have HC := Lib.hid (And.intro hC (And.intro (And.intro hokL hokR) (And.intro hnd (And.intro hin hmi))))
  clear hC hokL hokR hnd hin hx c0 c1 c2 c5 mf hmi hf
  by_cases heq : x = (at_ : Int)
  · subst heq
    go_enter Tryz.func112, Tryz.ntmps112
    go_wp2_with fail
    go_quiet (fail)
    go_wp2
    go_end0
    obtain ⟨h1, h2, h3, h4, h5⟩ := HC.out
    exact ⟨rfl, here, met, ⟨⟨H, hn, hc, h1.drewN _⟩, h2.1, h2.2, h3, h4⟩, (Tch.refl _ _ _ _).drewN _, fun x hx => .inl hx, fun hf => by unfold addH; rw [if_pos (h2.2 hf i h5)]⟩
  · have hne : (x == (at_ : Int)) = false := by simp [heq]
    clear heq
    go_enter Tryz.func112, Tryz.ntmps112
    go_wp2_with fail
    go_quiet (fail)
    go_wp2_with fail
    go_region
    have hC1 := (HC.out.1.drewN (nq + 1)).setM i (at_ : Int)
    have hT1 : Tch B g mb w ((w.drewN (nq + 1)).setCell ⟨mb, i, none⟩ (.int .i64 (at_ : Int))) := tch_of HC.out.1 hC1 ((below_drewN (Below.refl _ _) _).setCell (p := ⟨mb, i, none⟩) HC.out.1.hBm _) fun k _ _ k2 k3 k4 => ⟨Below.heap_setCell _ _ _ _ k2, k3, k4⟩
    generalize (w.drewN (nq + 1)).setCell ⟨mb, i, none⟩ (.int .i64 (at_ : Int)) = w1 at hC1 hT1 ⊢
    have d4 := hC1.cells.2.2.2.2.1
    have d4' : (w1.alloc (.cells #[.int .i64 (i : Int), .int .i64 (f : Int)] 155)).cell? ⟨g, 4, none⟩ = _ := (hC1.below ((Below.refl _ _).alloc (Nat.le_refl _) _)).cells.2.2.2.2.1
    obtain ⟨v', w2, happ, H', hc', rfl, k1, k2, k3, k4, k5⟩ := hC1.push ((Below.refl w1.heap.size w1).alloc (Nat.le_refl _) (.cells #[.int .i64 (i : Int), .int .i64 (f : Int)] 155)) (d := w1.heap.size) (i := i) (f := f) (heap_alloc_new _ _) hl
    have HAPP := Lib.hid happ
    have HR := Lib.hid (And.intro k4 (And.intro k5 hT1))
    clear hC1 hT1 happ k4 k5 c3 c4 c6 m0 mf0
    go_wp2_with (at_builtin; refine wpList_append_run rfl _ _ 131 rfl rfl _ _ _ _ rfl rfl HAPP.out ?_)
    go_end0
    obtain ⟨h1, h2, h3, h4, h5⟩ := HC.out
    have hnm : i ∉ here.map Prod.fst := fun hm => by
      have := h2.1 i hm
      rw [h5] at this
      injection this with this
      rw [this] at hne
      simp at hne
    have hil : i < met.length := (List.getElem?_eq_some_iff.1 h5).1
    refine ⟨rfl, here ++ [(i, f)], met.set i (at_ : Int), ⟨⟨H', hn + 1, hc', HR.out.1⟩, ?_, ?_, ?_, ?_⟩, HR.out.2.2.trans HR.out.2.1, fun x hx => ?_, fun _ => by unfold addH; rw [if_neg hnm]⟩
    · intro j hj
      rw [List.map_append, List.mem_append] at hj
      by_cases hji : j = i
      · subst hji
        simp [hil]
      · rw [List.getElem?_set_ne (Ne.symm hji)]
        rcases hj with hj | hj
        · exact h2.1 j hj
        · simp at hj; exact absurd hj hji
    · intro hf j hj
      rw [List.map_append, List.mem_append]
      by_cases hji : j = i
      · subst hji
        right; simp
      · rw [List.getElem?_set_ne (Ne.symm hji)] at hj
        exact .inl (h2.2 hf j hj)
    · rw [List.map_append]
      exact List.nodup_append.2 ⟨h3, by simp, fun a ha b hb => by
        simp at hb
        rintro rfl
        exact hnm (hb ▸ ha)⟩
    · intro y hy
      rcases List.mem_append.1 hy with hy | hy
      · exact h4 y hy
      · simp at hy; subst hy; exact hi
    · rcases List.mem_or_eq_of_mem_set hx with h | h
      · exact .inl h
      · exact .inr h
set_option maxHeartbeats 4000000 in
theorem isOpen_any {B g mb : Nat} {e : WEnv} {w : World} {at_ : Nat} {here : List (Nat × Nat)} {last : SRow} {met : List Int} (h : WalkS B g mb e w at_ here last met) (op : Int) :
    Calls Tryz.prog 113 #[.pointer (some ⟨g, 0, none⟩), .int .i64 op] w fun en w' => en = .returned (.bool (openA e.T.size at_ op)) ∧ ∃ q, w' = w.drewN q := by
  obtain ⟨H, hn, hc, hC⟩ := h
  obtain ⟨c0, c1, c2, c3, c4, c5, c6, hf⟩ := hC.cells
  obtain ⟨R, hR⟩ : ∃ R, R = openA e.T.size at_ op := ⟨_, rfl⟩
  rw [← hR]
  have HR := Lib.hid hR
  have hsz : (e.T.size : Int) ≤ 1000 := by have := hC.small.2.1; omega
  clear hR hC c0 c2 c4 c5 c6 hf
  by_cases h2 : op = 2
  · have hr : R = true := by rw [HR.out]; simp [openA, h2]
    subst h2; subst hr
    go_enter Tryz.func113, Tryz.ntmps113
    go_wp2
    go_ret
    exact ⟨rfl, 0, rfl⟩
  by_cases h3 : op = 3
  · have hr : R = decide (at_ = 0) := by rw [HR.out]; simp [openA, h3]
    subst h3
    go_enter Tryz.func113, Tryz.ntmps113
    go_wp2
    go_ret
    refine ⟨?_, 0, rfl⟩
    rw [hr]
    by_cases hz : at_ = 0
    · subst hz; rfl
    · have : ((at_ : Int) == 0) = false := by simp; omega
      simp [hz]
  by_cases h4 : op = 4
  · have hr : R = decide (at_ = e.T.size) := by rw [HR.out]; simp [openA, h4]
    subst h4
    go_enter Tryz.func113, Tryz.ntmps113
    go_wp2
    go_quiet (fail)
    go_wp2
    go_ret
    refine ⟨?_, _, rfl⟩
    rw [hr]
    by_cases hz : at_ = e.T.size
    · rw [hz]; simp
    · have : ((at_ : Int) == (e.T.size : Int)) = false := by simp; omega
      simp [hz]
      omega
  · have hr : R = false := by rw [HR.out]; simp [openA, h2, h3, h4]
    subst hr
    have e2 : (op == 2) = false := by simp [h2]
    have e3 : (op == 3) = false := by simp [h3]
    have e4 : (op == 4) = false := by simp [h4]
    clear h2 h3 h4
    go_enter Tryz.func113, Tryz.ntmps113
    go_wp2
    go_ret
    exact ⟨rfl, 0, rfl⟩
set_option maxHeartbeats 4000000 in
theorem isMatch_any {B g mb : Nat} {e : WEnv} {w : World} {at_ : Nat} {here : List (Nat × Nat)} {last : SRow} {met : List Int} (h : WalkS B g mb e w at_ here last met) {i : Nat} {v : IV} (hv : e.l[i]? = some v) :
    Calls Tryz.prog 88 #[.pointer (some ⟨g, 0, none⟩), .int .i64 (i : Int)] w fun en w' => en = .returned (.bool (decide (v.i.op = 0))) ∧ w = w' := by
  obtain ⟨H, hn, hc, hC⟩ := h
  obtain ⟨c0, c1, c2, c3, c4, c5, c6, hf⟩ := hC.cells
  obtain ⟨b, o, hA, _, _, hj, d0, _⟩ := hC.ins.one hv
  rw [hA] at c0
  have hi2 : (i : Int) < (e.n : Int) := by omega
  clear hC c1 c2 c3 c4 c5 c6 hf hA
  go_enter Tryz.func88, Tryz.ntmps88
  go_wp2
  go_ret
  refine ⟨?_, rfl⟩
  simp
  by_cases h0 : v.i.op = 0 <;> simp [h0]
end Go.Proofs.YtaapbmdojkjphaaGreat
namespace Go.Proofs.YtaapbmdojkjphaaGreat
open Go Go.RowKit
set_option linter.unusedVariables false
set_option maxRecDepth 20000
structure Meeting (E : Nat → Nat → Prop) (h0 h : List (Nat × Nat)) (i f next : Nat) (part : List Nat) : Prop where
  new : ∃ new : List Nat, h = h0 ++ new.map (fun j => (j, f)) ∧ ∀ j ∈ new, Star E i j
  has : i ∈ h.map Prod.fst
  lo : h0.length ≤ next
  hi : next ≤ h.length
  done : ∀ k, h0.length ≤ k → k < next → ∀ x, h[k]? = some x → ∀ j, E x.1 j → j ∈ h.map Prod.fst
  part : ∀ j ∈ part, j ∈ h.map Prod.fst
theorem addH_pre (h : List (Nat × Nat)) (i f : Nat) : ∃ t, addH h i f = h ++ t ∧ (t = [] ∨ t = [(i, f)]) := by
  unfold addH
  split
  · exact ⟨[], by simp, .inl rfl⟩
  · exact ⟨_, rfl, .inr rfl⟩
theorem addH_mem (h : List (Nat × Nat)) (i f : Nat) : i ∈ (addH h i f).map Prod.fst := by
  unfold addH
  split
  · assumption
  · simp
theorem addH_sub {h : List (Nat × Nat)} {i f j : Nat} (hj : j ∈ h.map Prod.fst) : j ∈ (addH h i f).map Prod.fst := by
  obtain ⟨t, ht, _⟩ := addH_pre h i f
  rw [ht, List.map_append]
  exact List.mem_append_left _ hj
theorem Meeting.begin {E : Nat → Nat → Prop} (h0 : List (Nat × Nat)) (i f : Nat) : Meeting E h0 (addH h0 i f) i f h0.length [] := by
  obtain ⟨t, ht, hc⟩ := addH_pre h0 i f
  refine ⟨?_, addH_mem h0 i f, Nat.le_refl _, by rw [ht]; simp, fun k h1 h2 => by omega, fun j hj => by simp at hj⟩
  rcases hc with rfl | rfl
  · exact ⟨[], by rw [ht]; simp, fun j hj => by simp at hj⟩
  · exact ⟨[i], by rw [ht]; simp, fun j hj => by simp at hj; subst hj; exact .refl⟩
theorem Meeting.add {E : Nat → Nat → Prop} {h0 h : List (Nat × Nat)} {i f next : Nat} {part : List Nat} (m : Meeting E h0 h i f next part) {x : Nat × Nat} (hx : h[next]? = some x) {j : Nat} (he : E x.1 j) : Meeting E h0 (addH h j f) i f next (part ++ [j]) := by
  obtain ⟨t, ht, hc⟩ := addH_pre h j f
  obtain ⟨new, h1, h2⟩ := m.new
  have hn := (List.getElem?_eq_some_iff.1 hx).1
  refine ⟨?_, addH_sub m.has, m.lo, by rw [ht, List.length_append]; have := m.hi; omega, fun k h3 h4 y hy j' hj' => ?_, fun j' hj' => ?_⟩
  · rcases hc with rfl | rfl
    · exact ⟨new, by rw [ht, h1]; simp, h2⟩
    · refine ⟨new ++ [j], by rw [ht, h1]; simp, fun j' hj' => ?_⟩
      rcases List.mem_append.1 hj' with hj' | hj'
      · exact h2 j' hj'
      · simp at hj'
        subst hj'
        have hxn : x.1 ∈ new := by
          have h5 := m.lo
          rw [h1, List.getElem?_append_right h5, List.getElem?_map] at hx
          obtain ⟨y, hy, rfl⟩ := Option.map_eq_some_iff.1 hx
          exact List.mem_of_getElem? hy
        exact .tail (h2 _ hxn) he
  · rw [ht, List.getElem?_append_left (by omega)] at hy
    exact addH_sub (m.done k h3 h4 y hy j' hj')
  · rcases List.mem_append.1 hj' with hj' | hj'
    · exact addH_sub (m.part j' hj')
    · simp at hj'; subst hj'; exact addH_mem _ _ _
theorem Meeting.next {E : Nat → Nat → Prop} {h0 h : List (Nat × Nat)} {i f next : Nat} {part : List Nat} (m : Meeting E h0 h i f next part) {x : Nat × Nat} (hx : h[next]? = some x) (hall : ∀ j, E x.1 j → j ∈ part) : Meeting E h0 h i f (next + 1) [] := by
  have hn := (List.getElem?_eq_some_iff.1 hx).1
  refine ⟨m.new, m.has, by have := m.lo; omega, by omega, fun k h1 h2 y hy j hj => ?_, fun j hj => by simp at hj⟩
  rcases Nat.lt_or_ge k next with h3 | h3
  · exact m.done k h1 h3 y hy j hj
  · obtain rfl : k = next := by omega
    rw [hx] at hy; injection hy with hy; subst hy
    exact m.part j (hall j hj)
theorem Meeting.over {E : Nat → Nat → Prop} {h0 h : List (Nat × Nat)} {i f : Nat} {part : List Nat} (m : Meeting E h0 h i f h.length part) (hn : (h.map Prod.fst).Nodup) : Met E h0 h i f := by
  obtain ⟨new, h1, h2⟩ := m.new
  refine ⟨new, h1, h2, m.has, fun j hj k hk => ?_, hn⟩
  obtain ⟨q, hq, e⟩ := List.getElem_of_mem hj
  have hx : h[h0.length + q]? = some (j, f) := by
    rw [h1, List.getElem?_append_right (by omega), List.getElem?_map]
    simp [List.getElem?_eq_getElem hq, e]
  exact m.done (h0.length + q) (by omega) (List.getElem?_eq_some_iff.1 hx).1 _ hx k hk
theorem WaysF.one {F : Nat → Prop} {w : World} {A : Option Addr} {n : Nat} {W : List (List (Nat × Nat))} (h : WaysF F w A n W) {i : Nat} {ws : List (Nat × Nat)} (hw : W[i]? = some ws) : ∃ b o Aj nj cj, A = some ⟨b, o, none⟩ ∧ i < n ∧ w.cell? ⟨b, o + i, none⟩ = some (.slice Aj nj cj) ∧ RowW F w Aj nj ws := by
  have hi := (List.getElem?_eq_some_iff.1 hw).1
  obtain ⟨b, o, hA, _, _, hc⟩ := h.2 (by have := h.1; omega)
  obtain ⟨Aj, nj, cj, h1, h2⟩ := hc i ws hw
  exact ⟨b, o, Aj, nj, cj, hA, by have := h.1; omega, h1, h2⟩
theorem RowW.below {B s : Nat} {w w' : World} {A : Option Addr} {n : Nat} {ws : List (Nat × Nat)} (h : RowW (Fs B s) w A n ws) (hb : Below B w w') : RowW (Fs B s) w' A n ws := h.keep hb.size fun b hF _ => hb.block b hF.1
theorem RowW.one {F : Nat → Prop} {w : World} {A : Option Addr} {n : Nat} {ws : List (Nat × Nat)} (h : RowW F w A n ws) {j : Nat} {x : Nat × Nat} (hx : ws[j]? = some x) : ∃ b o, A = some ⟨b, o, none⟩ ∧ j < n ∧ w.cell? ⟨b, o + j * 2, none⟩ = some (.int .i64 (x.1 : Int)) ∧ w.cell? ⟨b, o + j * 2 + 1, none⟩ = some (.int .i64 (x.2 : Int)) := by
  have hj := (List.getElem?_eq_some_iff.1 hx).1
  obtain ⟨b, o, hA, _, _, hc⟩ := h.2 (by have := h.1.1; omega)
  obtain ⟨h1, h2⟩ := hc j x hx
  exact ⟨b, o, hA, by have := h.1.1; omega, h1, h2⟩
def openWs (p : List InstL) (m k : Nat) (ws : List (Nat × Nat)) : List Nat := (ws.filter fun w => match p[w.1]? with | some v => openA m k v.op | none => false).map Prod.snd
theorem openWs_snoc (p : List InstL) (m k : Nat) (ws : List (Nat × Nat)) (x : Nat × Nat) (v : InstL) (hv : p[x.1]? = some v) : openWs p m k (ws ++ [x]) = openWs p m k ws ++ if openA m k v.op then [x.2] else [] := by
  unfold openWs
  rw [List.filter_append, List.map_append]
  congr 1
  simp only [List.filter_cons, List.filter_nil, hv]
  cases openA m k v.op <;> rfl
theorem openWs_we {p : List InstL} {W : List (List (Nat × Nat))} {m k i : Nat} {ws : List (Nat × Nat)} (hw : W[i]? = some ws) (j : Nat) : j ∈ openWs p m k ws ↔ WE p W m k i j := by
  unfold openWs WE
  rw [List.mem_map]
  constructor
  · rintro ⟨⟨b, t⟩, h1, rfl⟩
    obtain ⟨h2, h3⟩ := List.mem_filter.1 h1
    cases hv : p[b]? with
    | none => simp only [hv] at h3; cases h3
    | some v => simp only [hv] at h3; exact ⟨ws, b, v, hw, h2, hv, h3⟩
  · rintro ⟨ws', b, v, h1, h2, h3, h4⟩
    rw [hw] at h1; injection h1 with h1; subst h1
    exact ⟨(b, j), List.mem_filter.2 ⟨h2, by simp only [h3]; exact h4⟩, rfl⟩
set_option maxHeartbeats 8000000 in
theorem meet_any {full : Prop} {B g mb : Nat} {e : WEnv} {w : World} {at_ : Nat} {here : List (Nat × Nat)} {last : SRow} {met : List Int} (h : WalkM full B g mb e w at_ here last met) (i f : Nat) (hi : i < e.n) :
    Calls Tryz.prog 86 #[.pointer (some ⟨g, 0, none⟩), .int .i64 (i : Int), .int .i64 (f : Int)] w fun en w' => en = .returned (.tuple #[]) ∧ ∃ here' met', WalkM full B g mb e w' at_ here' last met' ∧ Tch B g mb w w' ∧ MetIn at_ met met' ∧ (full → Met (WE e.p e.W e.T.size at_) here here' i f) := by
  obtain ⟨H, hn, hc, hC⟩ := h.s
  have c4 := hC.cells.2.2.2.2.1
  have hhl : here.length = hn := own_len hC.row
  have HA := Lib.hid (add_any h i f hi)
  have HS := Lib.hid (And.intro hC.win (And.intro hC.small hhl))
  clear hC h hhl
  go_enter Tryz.func86, Tryz.ntmps86
  go_wp2_with (go_at_call 112; (with_reducible refine HA.out.mono ?_); rintro en w1 ⟨rfl, here1, met1, hM, hT, hI, hA1⟩; have HM := Lib.hid (And.intro hM (And.intro hT (And.intro hI hA1))); clear hM hT hI hA1)
  go_loopw [6] (fun v6 wr => ∃ (next : Nat) (here' : List (Nat × Nat)) (met' : List Int), v6 = .int .i64 (next : Int) ∧ Hid (WalkM full B g mb e wr at_ here' last met' ∧ Tch B g mb w wr ∧ MetIn at_ met met' ∧ (full → Meeting (WE e.p e.W e.T.size at_) here here' i f next []))) (fun v6 _ => e.n - (intOf v6).toNat)
  case atStart => exact ⟨hn, here1, met1, rfl, Lib.hid ⟨HM.out.1, HM.out.2.1, HM.out.2.2.1, fun hf => by have := Meeting.begin (E := WE e.p e.W e.T.size at_) here i f; rw [HS.out.2.2, ← HM.out.2.2.2 hf] at this; exact this⟩⟩
  case round =>
    obtain ⟨next, here', met', rfl, H⟩ := hrel
    obtain ⟨H', hn', hc', hC⟩ := H.out.1.s
    have hhl := own_len hC.row
    have hle : here'.length ≤ e.n := here_len H.out.1.nodup H.out.1.inn
    have c4 := hC.cells.2.2.2.2.1
    by_cases hlt : next < hn'
    · obtain ⟨x, hx⟩ : ∃ x, here'[next]? = some x := ⟨_, List.getElem?_eq_getElem (by omega)⟩
      have hxn : x.1 < e.n := H.out.1.inn x (List.mem_of_getElem? hx)
      obtain ⟨ws, hws⟩ : ∃ ws, e.W[x.1]? = some ws := ⟨_, List.getElem?_eq_getElem (by have := hC.ways.1; omega)⟩
      have c2 := hC.cells.2.2.1
      obtain ⟨bh, rfl, _, _, _, s0, _, _⟩ := spot_at hC.row hx
      obtain ⟨bw, ow, Aj, nj, cj, hWA, _, w0, hrow⟩ := hC.ways.one hws
      rw [hWA] at c2
      have hx1 : (0 : Int) ≤ (x.1 : Int) := by omega
      have hx2 : (x.1 : Int) < (e.n : Int) := by omega
      have hn1 : (0 : Int) ≤ (next : Int) := by omega
      have hn2 : (next : Int) < (hn' : Int) := by omega
      have hnj : (nj : Int) ≤ 1000000 := by have := hrow.1.2; omega
      have hnb : (hn' : Int) ≤ 1000 := by have := hC.small.1; omega
      have HX := Lib.hid (And.intro hx (And.intro hws (And.intro hrow (And.intro hhl hle))))
      clear hC hx hws hrow hWA hhl hle
      go_wp2_with fail
      go_quiet (fail)
      go_wp2_with fail
      go_loopw [42] (fun v42 wq => ∃ (j : Nat) (here2 : List (Nat × Nat)) (met2 : List Int), v42 = .int .i64 (j : Int) ∧ j ≤ nj ∧ Hid (WalkM full B g mb e wq at_ here2 last met2 ∧ Tch B g mb w wq ∧ MetIn at_ met met2 ∧ (full → here2[next]? = some x) ∧ Below B wr wq ∧ (full → Meeting (WE e.p e.W e.T.size at_) here here2 i f next (openWs e.p e.T.size at_ (ws.take j))))) (fun v42 _ => nj - (intOf v42).toNat)
      case atStart => exact ⟨0, here', met', rfl, Nat.zero_le _, Lib.hid ⟨H.out.1.below (below_drewN (Below.refl _ _) _), H.out.2.1.drewN _, H.out.2.2.1, fun _ => HX.out.1, below_drewN (Below.refl _ _) _, fun hf => H.out.2.2.2 hf⟩⟩
      case round =>
        obtain ⟨j, here2, met2, rfl, hj, H2⟩ := hrel
        by_cases hlj : j < nj
        · obtain ⟨y, hy⟩ : ∃ y, ws[j]? = some y := ⟨_, List.getElem?_eq_getElem (by have := HX.out.2.2.1.1.1; omega)⟩
          obtain ⟨H3, hn3, hc3, hC⟩ := H2.out.1.s
          obtain ⟨ba, oa, rfl, _, y0, y1⟩ := (HX.out.2.2.1.below H2.out.2.2.2.2.1).one hy
          have hyn := hC.win.2 _ _ HX.out.2.1 y.1 y.2 (List.mem_of_getElem? hy)
          have hpl : e.p.length = e.n := by unfold WEnv.p; rw [List.length_map]; exact hC.ins.1
          rw [hpl] at hyn
          obtain ⟨v, hv⟩ : ∃ v, e.l[y.1]? = some v := ⟨_, List.getElem?_eq_getElem (by have := hC.ins.1; omega)⟩
          have hpv : e.p[y.1]? = some v.i := by unfold WEnv.p; rw [List.getElem?_map, hv]; rfl
          have hbX : Below wr.heap.size wr (wr.alloc (.cells #[.int .i64 (y.1 : Int), .int .i64 (y.2 : Int)] 153)) := (Below.refl _ _).alloc (Nat.le_refl _) _
          have hCX := hC.below hbX
          have hMX := H2.out.1.below hbX
          have hTX : Tch B g mb wr (wr.alloc (.cells #[.int .i64 (y.1 : Int), .int .i64 (y.2 : Int)] 153)) := Tch.of_below hbX (by have := hC.lt; have := hC.hB; omega) hC.lt.1
          have b0 := cell_of_row _ wr.heap.size 0 _ _ (0, 0) (heap_alloc_new wr (.cells #[.int .i64 (y.1 : Int), .int .i64 (y.2 : Int)] 153))
          have b1 := cell_of_row _ wr.heap.size 1 _ _ (0, 0) (heap_alloc_new wr (.cells #[.int .i64 (y.1 : Int), .int .i64 (y.2 : Int)] 153))
          have hlX : wr.heap.size < (wr.alloc (.cells #[.int .i64 (y.1 : Int), .int .i64 (y.2 : Int)] 153)).heap.size := by simp
          have hj1 : (0 : Int) ≤ (j : Int) := by omega
          have hj2 : (j : Int) < (nj : Int) := by omega
          have HY := Lib.hid (And.intro hy (And.intro hyn (And.intro hv (And.intro hpv hTX))))
          clear hC hbX hy hv hpv hTX hpl
          go_wp2_with fail
          generalize wr.alloc (.cells #[.int .i64 (y.1 : Int), .int .i64 (y.2 : Int)] 153) = X at hCX hMX b0 b1 hlX HY ⊢
          generalize wr.heap.size = nb at hlX b0 b1 ⊢
          obtain ⟨bi, oi, hA, _, _, _, d0, _⟩ := hCX.ins.one HY.out.2.2.1
          have c0 := hCX.cells.1
          rw [hA] at c0
          have hgl := hCX.lt.1
          have hbl : bi < X.heap.size := World.block_lt_of_cell? X _ d0
          have k0 : ∀ w', Below X.heap.size X w' → w'.cell? ⟨g, 0, none⟩ = some (.slice (some ⟨bi, oi, none⟩) e.n e.c) := fun w' hb => (hb.cell (p := ⟨g, 0, none⟩) hgl).trans c0
          have k1 : ∀ w', Below X.heap.size X w' → w'.cell? ⟨nb, 0, none⟩ = some (.int .i64 (y.1 : Int)) := fun w' hb => (hb.cell (p := ⟨nb, 0, none⟩) hlX).trans b0
          have k2 : ∀ w', Below X.heap.size X w' → w'.cell? ⟨bi, oi + y.1 * 4, none⟩ = some (.int .i64 v.i.op) := fun w' hb => (hb.cell (p := ⟨bi, oi + y.1 * 4, none⟩) hbl).trans d0
          have HO := Lib.hid fun (w' : World) (hb : Below X.heap.size X w') => (isOpen_any (hMX.s.below hb) v.i.op).mono (R' := fun en w'' => en = .returned (.bool (openA e.T.size at_ v.i.op)) ∧ Below X.heap.size X w'') fun en w'' ⟨h1, q, h2⟩ => ⟨h1, by rw [h2]; exact below_drewN hb q⟩
          have hy1 : (0 : Int) ≤ (y.1 : Int) := by omega
          have hy2 : (y.1 : Int) < (e.n : Int) := by have := HY.out.2.1.1; omega
          have hbr : Below X.heap.size X X.drew := (Below.refl _ _).drew
          have k3 : ∀ w', Below X.heap.size X w' → w'.cell? ⟨nb, 1, none⟩ = some (.int .i64 (y.2 : Int)) := fun w' hb => (hb.cell (p := ⟨nb, 1, none⟩) hlX).trans b1
          have K3 := Lib.hid k3
          clear hCX hA c0 d0 hgl hbl hlX y0 y1 k3 b0 b1
          obtain ⟨ob, hob⟩ : ∃ ob, ob = openA e.T.size at_ v.i.op := ⟨_, rfl⟩
          rw [← hob] at HO
          have HOB := Lib.hid hob
          clear hob
          go_region_held (fun w' => Below X.heap.size X w') (assumption) (first
            | (go_at_call 113; (with_reducible refine (HO.out _ (by assumption)).mono ?_); rintro en w' ⟨rfl, hb'⟩))
          have hbw : Below X.heap.size X w' := by assumption
          have hMw := hMX.below hbw
          have hTw : Tch B g mb w w' := H2.out.2.1.trans (HY.out.2.2.2.2.trans (Tch.of_below hbw (by obtain ⟨_, _, _, hq⟩ := hMX.s; have := hq.lt; have := hq.hB; omega) (by obtain ⟨_, _, _, hq⟩ := hMX.s; exact hq.lt.1)))
          have hbB : Below B wr w' := HY.out.2.2.2.2.1.trans (hbw.mono (by obtain ⟨_, _, _, hq⟩ := hMX.s; have := hq.lt; have := hq.hB; omega))
          have htk : ws.take (j + 1) = ws.take j ++ [y] := by rw [List.take_add_one, HY.out.1]; rfl
          have hsn := openWs_snoc e.p e.T.size at_ (ws.take j) y v.i HY.out.2.2.2.1
          rw [← htk, ← HOB.out] at hsn
          cases ob with
          | true =>
            have e3 := K3.out w' hbw
            have HAd := Lib.hid (add_any hMw y.2 f HY.out.2.1.2)
            have HSN := Lib.hid (And.intro hsn (And.intro hTw hbB))
            clear hsn hTw hbB htk hbw hMw k0 k1 k2 hbr
            go_wp2_with (go_at_call 112; (with_reducible refine HAd.out.mono ?_); rintro en w5 ⟨rfl, here5, met5, hM5, hT5, hI5, hA5⟩; have H5 := Lib.hid (And.intro hM5 (And.intro hT5 (And.intro hI5 hA5))); clear hM5 hT5 hI5 hA5)
            refine ⟨⟨j + 1, here5, met5, rfl, hlj, Lib.hid ⟨H5.out.1, HSN.out.2.1.trans H5.out.2.1, H2.out.2.2.1.trans H5.out.2.2.1, fun hf => ?_, H2.out.2.2.2.2.1.trans (HSN.out.2.2.trans H5.out.2.1.1), fun hf => ?_⟩⟩, by simp [intOf]; omega⟩
            · rw [H5.out.2.2.2 hf]
              obtain ⟨t, ht, _⟩ := addH_pre here2 y.2 f
              rw [ht, List.getElem?_append_left (List.getElem?_eq_some_iff.1 (H2.out.2.2.2.1 hf)).1]
              exact H2.out.2.2.2.1 hf
            · rw [HSN.out.1, H5.out.2.2.2 hf]
              exact (H2.out.2.2.2.2.2 hf).add (H2.out.2.2.2.1 hf) ⟨ws, y.1, v.i, HX.out.2.1, List.mem_of_getElem? HY.out.1, HY.out.2.2.2.1, HOB.out.symm⟩
          | false =>
            have HSN := Lib.hid (And.intro hsn (And.intro hTw (And.intro hbB hMw)))
            clear hsn hTw hbB htk hbw hMw k0 k1 k2 hbr
            go_wp2
            refine ⟨⟨j + 1, here2, met2, rfl, hlj, Lib.hid ⟨HSN.out.2.2.2, HSN.out.2.1, H2.out.2.2.1, H2.out.2.2.2.1, H2.out.2.2.2.2.1.trans HSN.out.2.2.1, fun hf => ?_⟩⟩, by simp [intOf]; omega⟩
            rw [HSN.out.1]
            simpa using H2.out.2.2.2.2.2 hf
        · obtain rfl : j = nj := by omega
          go_wp2
          refine ⟨⟨next + 1, here2, met2, rfl, Lib.hid ⟨H2.out.1, H2.out.2.1, H2.out.2.2.1, fun hf => (H2.out.2.2.2.2.2 hf).next (H2.out.2.2.2.1 hf) fun k hk => ?_⟩⟩, ?_⟩
          · rw [List.take_of_length_le (by rw [HX.out.2.2.1.1.1]; exact Nat.le_refl _)]
            exact (openWs_we HX.out.2.1 k).2 hk
          · simp [intOf]
            have := HX.out.2.2.2.1
            have := HX.out.2.2.2.2
            omega
    · have hnl : ¬ (next : Int) < (hn' : Int) := by omega
      have HH := Lib.hid (And.intro hhl hlt)
      clear hC hhl hle hlt
      go_wp2
      go_end0
      refine ⟨rfl, here', met', H.out.1, H.out.2.1, H.out.2.2.1, fun hf => ?_⟩
      have hm := H.out.2.2.2 hf
      have he : next = here'.length := by have := hm.hi; have := HH.out.1; have := HH.out.2; omega
      rw [he] at hm
      exact hm.over H.out.1.nodup
end Go.Proofs.YtaapbmdojkjphaaGreat
