/- A walk onward and a walk back: what they have met at each place, and what follows of it. -/
import Derived.Test.YtegcebgoiocakaaM06
import Derived.Shelf.Small.Bits
import Derived.Test.YtegcebgoiocakaaProg
namespace Go.Proofs.Ytegcebgoiocakaa
set_option linter.unusedVariables false

/-- Each goes on within the program. -/
def Within (p : List InstL) : Prop := 0 < p.length ∧ ∀ (i : Nat) (v : InstL), p[i]? = some v → ∀ j ∈ outs v, j < p.length
/-- The ways onward. -/
def Onward (p : List InstL) (W : List (List (Nat × Nat))) : Prop := W.length = p.length ∧ ∀ (i : Nat) (ws : List (Nat × Nat)), W[i]? = some ws → ∀ b t, (b, t) ∈ ws ↔ (b = i ∧ ∃ v, p[i]? = some v ∧ t ∈ outs v)
/-- The ways back. -/
def BackW (p : List InstL) (W : List (List (Nat × Nat))) : Prop := W.length = p.length ∧ ∀ (i : Nat) (ws : List (Nat × Nat)), W[i]? = some ws → ∀ b t, (b, t) ∈ ws ↔ (b = t ∧ ∃ v, p[t]? = some v ∧ i ∈ outs v)
/-- What a walk needs of its ways. -/
def WaysIn (p : List InstL) (W : List (List (Nat × Nat))) : Prop := W.length = p.length ∧ ∀ (i : Nat) (ws : List (Nat × Nat)), W[i]? = some ws → ∀ b t, (b, t) ∈ ws → b < p.length ∧ t < p.length
section
variable {p : List InstL} {W : List (List (Nat × Nat))} {m k i j : Nat} {r : Int}
theorem Onward.waysIn (h : Onward p W) (hp : Within p) : WaysIn p W := ⟨h.1, fun i ws hw b t hb => by
  obtain ⟨rfl, v, hv, ht⟩ := (h.2 i ws hw b t).1 hb
  exact ⟨(List.getElem?_eq_some_iff.1 hv).1, hp.2 _ v hv t ht⟩⟩
theorem BackW.waysIn (h : BackW p W) (hp : Within p) : WaysIn p W := ⟨h.1, fun i ws hw b t hb => by
  obtain ⟨rfl, v, hv, ht⟩ := (h.2 i ws hw b t).1 hb
  exact ⟨(List.getElem?_eq_some_iff.1 hv).1, (List.getElem?_eq_some_iff.1 hv).1⟩⟩
theorem Onward.we (h : Onward p W) : WE p W m k i j ↔ EdgeE p m k i j := by
  constructor
  · rintro ⟨ws, b, v, h1, h2, h3, h4⟩
    obtain ⟨rfl, v', h5, h6⟩ := (h.2 i ws h1 b j).1 h2
    rw [h3] at h5; injection h5 with h5; subst h5
    exact ⟨v, h3, h6, h4⟩
  · rintro ⟨v, h1, h2, h3⟩
    have hi := (List.getElem?_eq_some_iff.1 h1).1
    obtain ⟨_, hw⟩ : ∃ ws, W[i]? = some ws := ⟨_, List.getElem?_eq_getElem (by rw [h.1]; exact hi)⟩
    exact ⟨_, i, v, hw, (h.2 i _ hw i j).2 ⟨rfl, v, h1, h2⟩, h1, h3⟩
theorem BackW.we (h : BackW p W) (hp : Within p) : WE p W m k i j ↔ EdgeE p m k j i := by
  constructor
  · rintro ⟨ws, b, v, h1, h2, h3, h4⟩
    obtain ⟨rfl, v', h5, h6⟩ := (h.2 i ws h1 b j).1 h2
    rw [h3] at h5; injection h5 with h5; subst h5
    exact ⟨v, h3, h6, h4⟩
  · rintro ⟨v, h1, h2, h3⟩
    have hi := hp.2 j v h1 i h2
    obtain ⟨_, hw⟩ : ∃ ws, W[i]? = some ws := ⟨_, List.getElem?_eq_getElem (by rw [h.1]; exact hi)⟩
    exact ⟨_, j, v, hw, (h.2 i _ hw j j).2 ⟨rfl, v, h1, h2⟩, h1, h3⟩
theorem Onward.meets (h : Onward p W) {last : List (Nat × Nat)} {f : Nat} : (j, f) ∈ meets p W r last ↔ ∃ i, (i, f) ∈ last ∧ EdgeC p r i j := by
  rw [mem_meets]
  constructor
  · rintro ⟨i, ws, b, v, h1, h2, h3, h4, h5, h6⟩
    obtain ⟨rfl, v', h7, h8⟩ := (h.2 i ws h2 b j).1 h3
    rw [h4] at h7; injection h7 with h7; subst h7
    exact ⟨_, h1, v, h4, h8, h5, h6⟩
  · rintro ⟨i, h1, v, h2, h3, h4, h5⟩
    have hi := (List.getElem?_eq_some_iff.1 h2).1
    obtain ⟨_, hw⟩ : ∃ ws, W[i]? = some ws := ⟨_, List.getElem?_eq_getElem (by rw [h.1]; exact hi)⟩
    exact ⟨i, _, i, v, h1, hw, (h.2 i _ hw i j).2 ⟨rfl, v, h2, h3⟩, h2, h4, h5⟩
theorem BackW.meets (h : BackW p W) (hp : Within p) {last : List (Nat × Nat)} {f : Nat} : (j, f) ∈ meets p W r last ↔ ∃ i, (i, f) ∈ last ∧ EdgeC p r j i := by
  rw [mem_meets]
  constructor
  · rintro ⟨i, ws, b, v, h1, h2, h3, h4, h5, h6⟩
    obtain ⟨rfl, v', h7, h8⟩ := (h.2 i ws h2 b j).1 h3
    rw [h4] at h7; injection h7 with h7; subst h7
    exact ⟨_, h1, v, h4, h8, h5, h6⟩
  · rintro ⟨i, h1, v, h2, h3, h4, h5⟩
    have hi := hp.2 j v h2 i h3
    obtain ⟨_, hw⟩ : ∃ ws, W[i]? = some ws := ⟨_, List.getElem?_eq_getElem (by rw [h.1]; exact hi)⟩
    exact ⟨i, _, j, v, h1, hw, (h.2 i _ hw j j).2 ⟨rfl, v, h2, h3⟩, h2, h4, h5⟩
end

/-- The first match that begins from place lo to place hi, the longest one there. -/
def FirstIs (p : List InstL) (rs : List Int) (lo hi : Nat) : Option (Nat × Nat) → Prop
  | none => ∀ f e, lo ≤ f → f ≤ hi → ¬ Hits p rs f e
  | some (b, e) => lo ≤ b ∧ b ≤ hi ∧ Long p rs b (some e) ∧ ∀ f e, lo ≤ f → f < b → ¬ Hits p rs f e
/-- The best match that ends ahead of place k. -/
def BestB (p : List InstL) (rs : List Int) (lo hi k : Nat) : Option (Nat × Nat) → Prop
  | none => ∀ f e, lo ≤ f → f ≤ hi → e < k → ¬ Hits p rs f e
  | some (b, e) => lo ≤ b ∧ b ≤ hi ∧ e < k ∧ Hits p rs b e ∧ ∀ f e', lo ≤ f → f ≤ hi → e' < k → Hits p rs f e' → b < f ∨ (b = f ∧ e' ≤ e)
/-- What the walk onward has met at place k; the best match ends ahead of K. -/
structure Fwd (p : List InstL) (rs : List Int) (lo hi k K : Nat) (here : List (Nat × Nat)) (best : Option (Nat × Nat)) : Prop where
  sorted : here.Pairwise fun x y => x.2 ≤ y.2
  nodup : (here.map Prod.fst).Nodup
  sound : ∀ j f, (j, f) ∈ here → lo ≤ f ∧ f ≤ hi ∧ Rch p rs 0 f j k
  compl : ∀ f j, lo ≤ f → f ≤ hi → Rch p rs 0 f j k → (∀ b e, best = some (b, e) → f ≤ b) → ∃ f', f' ≤ f ∧ (j, f') ∈ here
  bst : BestB p rs lo hi K best
section
variable {p : List InstL} {rs : List Int} {W : List (List (Nat × Nat))} {lo hi k : Nat} {here h : List (Nat × Nat)} {best : Option (Nat × Nat)}
theorem Hits.le {a b : Nat} (h : Hits p rs a b) : a ≤ b := by obtain ⟨i, h, _⟩ := h; exact h.le
theorem Hits.lt {a b : Nat} (h : Hits p rs a b) (ha : a ≤ rs.length) : b ≤ rs.length := by obtain ⟨i, h, _⟩ := h; exact h.lt ha
theorem Fwd.begin (hW : Onward p W) (hlo : lo ≤ hi) (hs : Steps (WE p W rs.length lo) [(0, lo)] h) : Fwd p rs lo hi lo lo h none := by
  have hE : ∀ a b, WE p W rs.length lo a b ↔ EdgeE p rs.length lo a b := fun a b => hW.we
  refine ⟨hs.sorted (R := (· ≤ ·)) (by simp) Nat.le_refl, hs.nodup, fun j f hm => ?_, fun f j h1 h2 h3 _ => ?_, fun f e h1 h2 h3 h4 => by have := h4.le; omega⟩
  · obtain ⟨i, h1, h2⟩ := hs.sound j f hm
    simp at h1
    obtain ⟨rfl, rfl⟩ := h1
    exact ⟨Nat.le_refl _, hlo, Rch.star (h2.mono fun a b => (hE a b).1)⟩
  · have hle := h3.le
    obtain rfl : f = lo := by omega
    rcases h3.back with ⟨_, h4⟩ | ⟨b', r, u, v, h4, h5, _⟩
    · obtain ⟨f', h5, h6⟩ := hs.star (R := (· ≤ ·)) (by simp) Nat.le_refl (fun _ _ _ => Nat.le_trans) (List.mem_singleton.2 rfl) (h4.mono fun a b => (hE a b).2)
      exact ⟨f', h6, h5⟩
    · have := h5.le; omega
theorem BestB.next (hb : BestB p rs lo hi k best) (hno : ∀ f, lo ≤ f → f ≤ hi → (∀ b e, best = some (b, e) → f ≤ b) → ¬ Hits p rs f k) : BestB p rs lo hi (k + 1) best := by
  match best, hb, hno with
  | none, hb, hno =>
    intro f e h1 h2 h3 h4
    rcases Nat.lt_or_ge e k with h5 | h5
    · exact hb f e h1 h2 h5 h4
    · obtain rfl : e = k := by omega
      exact hno f h1 h2 (fun _ _ h => by cases h) h4
  | some (b, e), hb, hno =>
    obtain ⟨h1, h2, h3, h4, h5⟩ := hb
    refine ⟨h1, h2, by omega, h4, fun f e' g1 g2 g3 g4 => ?_⟩
    rcases Nat.lt_or_ge e' k with g5 | g5
    · exact h5 f e' g1 g2 g5 g4
    · obtain rfl : e' = k := by omega
      rcases Nat.lt_or_ge b f with g6 | g6
      · exact .inl g6
      · exact absurd g4 (hno f g1 g2 (fun b' _ h => by injection h with h; injection h with h _; omega))
/-- No match ends here. -/
theorem Fwd.none_ (F : Fwd p rs lo hi k k here best) (hno : ∀ j f, (j, f) ∈ here → ¬ IsEnd p j) : Fwd p rs lo hi k (k + 1) here best :=
  ⟨F.sorted, F.nodup, F.sound, F.compl, F.bst.next fun f h1 h2 h3 ⟨i, h4, h5⟩ => by
    obtain ⟨f', _, h6⟩ := F.compl f i h1 h2 h4 h3
    exact hno i f' h6 h5⟩
/-- The first one that does is the best. -/
theorem Fwd.some_ (F : Fwd p rs lo hi k k here best) (hin : ∀ b e, best = some (b, e) → ∀ j f, (j, f) ∈ here → f ≤ b) {A Z : List (Nat × Nat)} {j b : Nat} (he : here = A ++ (j, b) :: Z) (hA : ∀ i f, (i, f) ∈ A → ¬ IsEnd p i) (hj : IsEnd p j) :
    Fwd p rs lo hi k (k + 1) (here.filter fun x => decide (x.2 ≤ b)) (some (b, k)) := by
  have hm : (j, b) ∈ here := by rw [he]; simp
  obtain ⟨h1, h2, h3⟩ := F.sound j b hm
  have hmin : ∀ i f, (i, f) ∈ here → IsEnd p i → b ≤ f := by
    intro i f hi hend
    rw [he] at hi
    rcases List.mem_append.1 hi with hi | hi
    · exact absurd hend (hA i f hi)
    · rcases List.mem_cons.1 hi with hi | hi
      · injection hi with _ hi; omega
      · have := F.sorted
        rw [he, List.pairwise_append] at this
        exact (List.pairwise_cons.1 this.2.1).1 (i, f) hi
  refine ⟨F.sorted.filter _, (List.Sublist.map _ List.filter_sublist).nodup F.nodup, fun j f hm => F.sound j f (List.mem_filter.1 hm).1, fun f j g1 g2 g3 g4 => ?_, h1, h2, by omega, ⟨j, h3, hj⟩, fun f e' g1 g2 g3 g4 => ?_⟩
  · have hfb := g4 b k rfl
    obtain ⟨f', g5, g6⟩ := F.compl f j g1 g2 g3 (fun b' e h => by have := hin b' e h _ _ hm; omega)
    exact ⟨f', g5, List.mem_filter.2 ⟨g6, by simp; omega⟩⟩
  · rcases Nat.lt_or_ge b f with g5 | g5
    · exact .inl g5
    rcases Nat.lt_or_ge e' k with g6 | g6
    · cases best with
      | none => exact absurd g4 (F.bst f e' g1 g2 g6)
      | some x =>
        obtain ⟨b0, e0⟩ := x
        have hb0 := hin b0 e0 rfl _ _ hm
        obtain ⟨_, _, _, g8, g7⟩ := F.bst
        have g10 := g7 f e' g1 g2 g6 g4
        by_cases hb : b = f
        · exact .inr ⟨hb, by omega⟩
        · rcases g10 with g10 | ⟨g10, _⟩ <;> omega
    · obtain rfl : e' = k := by omega
      obtain ⟨i, g7, g8⟩ := g4
      obtain ⟨f', g9, g10⟩ := F.compl f i g1 g2 g7 (fun b' e h => by have := hin b' e h _ _ hm; omega)
      have := hmin i f' g10 g8
      exact .inr ⟨by omega, Nat.le_refl _⟩
/-- What a round knows of the best one: nothing that is worse is here. -/
theorem Fwd.step (hW : Onward p W) {r : Int} (hr : rs[k]? = some r) (F : Fwd p rs lo hi k (k + 1) here best) (hin : ∀ b e, best = some (b, e) → ∀ j f, (j, f) ∈ here → f ≤ b) {extra : List (Nat × Nat)} (hx : extra = if k + 1 ≤ hi ∧ best = none ∧ lo ≤ k + 1 then [(0, k + 1)] else [])
    (hs : Steps (WE p W rs.length (k + 1)) (meets p W r here ++ extra) h) : Fwd p rs lo hi (k + 1) (k + 1) h best ∧ ∀ b e, best = some (b, e) → ∀ j f, (j, f) ∈ h → f ≤ b := by
  have hE : ∀ a b, WE p W rs.length (k + 1) a b ↔ EdgeE p rs.length (k + 1) a b := fun a b => hW.we
  have htodo : ∀ i f, (i, f) ∈ meets p W r here ++ extra → lo ≤ f ∧ f ≤ hi ∧ Rch p rs 0 f i (k + 1) ∧ ((∃ j, (j, f) ∈ here) ∨ best = none) := by
    intro i f hm
    rcases List.mem_append.1 hm with hm | hm
    · obtain ⟨j, h1, h2⟩ := hW.meets.1 hm
      obtain ⟨h3, h4, h5⟩ := F.sound j f h1
      exact ⟨h3, h4, .chr h5 hr h2, .inl ⟨j, h1⟩⟩
    · rw [hx] at hm
      split at hm
      · rename_i hc
        simp at hm
        obtain ⟨rfl, rfl⟩ := hm
        exact ⟨hc.2.2, hc.1, .refl, .inr hc.2.1⟩
      · simp at hm
  have hsort : (meets p W r here ++ extra).Pairwise fun x y => x.2 ≤ y.2 := by
    rw [List.pairwise_append]
    refine ⟨meets_sorted (R := (· ≤ ·)) F.sorted Nat.le_refl, ?_, fun x hx' y hy => ?_⟩
    · rw [hx]; split <;> simp
    · rw [hx] at hy
      split at hy
      · simp at hy; subst hy
        have h0 := htodo x.1 x.2 (List.mem_append_left _ hx')
        exact h0.2.2.1.le
      · simp at hy
  refine ⟨⟨hs.sorted (R := (· ≤ ·)) hsort Nat.le_refl, hs.nodup, fun j f hm => ?_, fun f j h1 h2 h3 h4 => ?_, ?_⟩, fun b e hb j f hm => ?_⟩
  · obtain ⟨i, h1, h2⟩ := hs.sound j f hm
    obtain ⟨h3, h4, h5, _⟩ := htodo i f h1
    exact ⟨h3, h4, h5.trans (Rch.star (h2.mono fun a b => (hE a b).1))⟩
  · rcases h3.back with ⟨h5, h6⟩ | ⟨b', r', u, v, h5, h6, h7, h8, h9⟩
    · have hbn : best = none := by
        cases hbe : best with
        | none => rfl
        | some x =>
          obtain ⟨b, e⟩ := x
          have g1 := h4 b e hbe
          have g2 := F.bst
          rw [hbe] at g2
          obtain ⟨_, _, g3, g4, _⟩ := g2
          have := g4.le
          omega
      have hmem : (0, f) ∈ meets p W r here ++ extra := by
        rw [hx, if_pos ⟨by omega, hbn, by omega⟩, h5]
        exact List.mem_append_right _ (List.mem_singleton.2 rfl)
      obtain ⟨f', g1, g2⟩ := hs.star (R := (· ≤ ·)) hsort Nat.le_refl (fun _ _ _ => Nat.le_trans) hmem (h6.mono fun a b => (hE a b).2)
      exact ⟨f', g2, g1⟩
    · obtain rfl : b' = k := by omega
      rw [hr] at h7; injection h7 with h7; subst h7
      obtain ⟨f1, g1, g2⟩ := F.compl f u h1 h2 h6 h4
      have hmem : (v, f1) ∈ meets p W r here ++ extra := List.mem_append_left _ (hW.meets.2 ⟨u, g2, h8⟩)
      obtain ⟨f', g3, g4⟩ := hs.star (R := (· ≤ ·)) hsort Nat.le_refl (fun _ _ _ => Nat.le_trans) hmem (h9.mono fun a b => (hE a b).2)
      exact ⟨f', Nat.le_trans g4 g1, g3⟩
  · exact F.bst
  · obtain ⟨i, h1, h2⟩ := hs.sound j f hm
    obtain ⟨_, _, _, h6⟩ := htodo i f h1
    rcases h6 with ⟨j', h6⟩ | h6
    · exact hin b e hb j' f h6
    · rw [h6] at hb; cases hb
/-- At the end of it. -/
theorem Fwd.over (F : Fwd p rs lo hi k (k + 1) here best) (hhi : hi ≤ rs.length) (ho : k = rs.length ∨ here = [] ∧ (best ≠ none ∨ hi ≤ k)) : FirstIs p rs lo hi best := by
  have late : ∀ f e, lo ≤ f → f ≤ hi → Hits p rs f e → (∀ b e', best = some (b, e') → f ≤ b) → e ≤ k := by
    intro f e h1 h2 h3 h4
    rcases ho with ho | ⟨ho, ho2⟩
    · have := h3.lt (by omega); omega
    · rcases Nat.lt_or_ge k e with h5 | h5
      · exfalso
        have hfk : f ≤ k := by
          rcases ho2 with h6 | h6
          · cases hb : best with
            | none => exact absurd hb h6
            | some x =>
              obtain ⟨b, e'⟩ := x
              have g1 := h4 b e' hb
              have g2 := F.bst
              rw [hb] at g2
              have := g2.2.2.2.1.le
              have := g2.2.2.1
              omega
          · omega
        obtain ⟨i, h6, _⟩ := h3
        obtain ⟨u, h7, _⟩ := h6.mid hfk (by omega)
        obtain ⟨f', _, h8⟩ := F.compl f u h1 h2 h7 h4
        rw [ho] at h8
        simp at h8
      · exact h5
  cases hb : best with
  | none =>
    intro f e h1 h2 h3
    have := F.bst
    rw [hb] at this
    exact this f e h1 h2 (by have := late f e h1 h2 h3 (fun _ _ h => by rw [hb] at h; cases h); omega) h3
  | some x =>
    obtain ⟨b, e⟩ := x
    have g := F.bst
    rw [hb] at g
    obtain ⟨g1, g2, g3, g4, g5⟩ := g
    refine ⟨g1, g2, ⟨g4, fun b' h => ?_⟩, fun f e' h1 h2 h => ?_⟩
    · have hl := late b b' g1 g2 h (fun b2 _ h => by rw [hb] at h; injection h with h; injection h with h _; omega)
      rcases g5 b b' g1 g2 (by omega) h with h6 | ⟨_, h6⟩ <;> omega
    · have hl := late f e' h1 (by omega) h (fun b2 _ h => by rw [hb] at h; injection h with h; injection h with h _; omega)
      rcases g5 f e' h1 (by omega) (by omega) h with h6 | ⟨h6, _⟩ <;> omega

/-- What the walk back has met at place k. -/
structure Bwd (p : List InstL) (rs : List Int) (k : Nat) (here : List (Nat × Nat)) : Prop where
  sorted : here.Pairwise fun x y => y.2 ≤ x.2
  nodup : (here.map Prod.fst).Nodup
  sound : ∀ j f, (j, f) ∈ here → ∃ i, Rch p rs j k i f ∧ IsEnd p i
  compl : ∀ j i f, Rch p rs j k i f → IsEnd p i → ∃ f', f ≤ f' ∧ (j, f') ∈ here
theorem Bwd.step (hW : BackW p W) (hp : Within p) {todo ends : List (Nat × Nat)} (hk : k ≤ rs.length)
    (hF : k = rs.length ∧ todo = [] ∨ ∃ r, rs[k]? = some r ∧ todo = meets p W r here ∧ Bwd p rs (k + 1) here)
    (he : ∀ i f, (i, f) ∈ ends ↔ f = k ∧ IsEnd p i)
    (hs : Steps (WE p W rs.length k) (todo ++ ends) h) : Bwd p rs k h := by
  have hE : ∀ a b, WE p W rs.length k a b ↔ EdgeE p rs.length k b a := fun a b => hW.we hp
  have htodo : ∀ i f, (i, f) ∈ todo ++ ends → k ≤ f ∧ ∃ i', Rch p rs i k i' f ∧ IsEnd p i' := by
    intro i f hm
    rcases List.mem_append.1 hm with hm | hm
    · rcases hF with ⟨_, hF⟩ | ⟨r, hr, hF, F⟩
      · rw [hF] at hm; simp at hm
      · rw [hF] at hm
        obtain ⟨j, h1, h2⟩ := (hW.meets hp).1 hm
        obtain ⟨i', h3, h4⟩ := F.sound j f h1
        have := h3.le
        exact ⟨by omega, i', Rch.trans (Rch.chr .refl hr h2) h3, h4⟩
    · obtain ⟨rfl, h1⟩ := (he i f).1 hm
      exact ⟨Nat.le_refl _, i, .refl, h1⟩
  have hsort : (todo ++ ends).Pairwise fun x y => y.2 ≤ x.2 := by
    rw [List.pairwise_append]
    refine ⟨?_, ?_, fun x hx y hy => ?_⟩
    · rcases hF with ⟨_, hF⟩ | ⟨r, hr, hF, F⟩
      · rw [hF]; exact .nil
      · rw [hF]; exact meets_sorted (R := fun a b => b ≤ a) F.sorted Nat.le_refl
    · rw [List.pairwise_iff_getElem]
      intro i j hi hj _
      have h1 := ((he ends[i].1 ends[i].2).1 (List.getElem_mem hi)).1
      have h2 := ((he ends[j].1 ends[j].2).1 (List.getElem_mem hj)).1
      omega
    · have h1 := ((he y.1 y.2).1 hy).1
      have h2 := (htodo x.1 x.2 (List.mem_append_left _ hx)).1
      omega
  have hst : ∀ {i j f : Nat}, (i, f) ∈ todo ++ ends → Star (EdgeE p rs.length k) j i → ∃ f', (j, f') ∈ h ∧ f ≤ f' := fun hm hst =>
    hs.star (R := fun a b => b ≤ a) hsort Nat.le_refl (fun _ _ _ a b => Nat.le_trans b a) hm (hst.swap fun a b => (hE b a).2)
  refine ⟨hs.sorted (R := fun a b => b ≤ a) hsort Nat.le_refl, hs.nodup, fun j f hm => ?_, fun j i f h1 h2 => ?_⟩
  · obtain ⟨i, h1, h2⟩ := hs.sound j f hm
    obtain ⟨_, i', h3, h4⟩ := htodo i f h1
    exact ⟨i', (Rch.star (h2.swap fun a b => (hE a b).1)).trans h3, h4⟩
  · rcases h1.front with ⟨h3, h4⟩ | ⟨r, u, v, h3, h4, h5, h6⟩
    · subst h3
      obtain ⟨f', g1, g2⟩ := hst (List.mem_append_right _ ((he i k).2 ⟨rfl, h2⟩)) h4
      exact ⟨f', g2, g1⟩
    · rcases hF with ⟨hF, _⟩ | ⟨r', hr, hF, F⟩
      · have := (List.getElem?_eq_some_iff.1 h4).1; omega
      · rw [hr] at h4; injection h4 with h4; subst h4
        obtain ⟨f1, g1, g2⟩ := F.compl v i f h6 h2
        obtain ⟨f', g3, g4⟩ := hst (List.mem_append_left _ (by rw [hF]; exact (hW.meets hp).2 ⟨v, g2, h5⟩)) h3
        exact ⟨f', by omega, g3⟩
theorem Bwd.none_ (F : Bwd p rs k here) (h0 : ∀ f, (0, f) ∉ here) : Long p rs k none := fun b ⟨i, h1, h2⟩ => by
  obtain ⟨f', _, h3⟩ := F.compl 0 i b h1 h2
  exact h0 f' h3
theorem Bwd.some_ (F : Bwd p rs k here) {f : Nat} (h0 : (0, f) ∈ here) : Long p rs k (some f) := by
  obtain ⟨i, h1, h2⟩ := F.sound 0 f h0
  refine ⟨⟨i, h1, h2⟩, fun b' ⟨i', h3, h4⟩ => ?_⟩
  obtain ⟨f', h5, h6⟩ := F.compl 0 i' b' h3 h4
  have : f' = f := by
    have hn := F.nodup
    obtain ⟨a, ha, ea⟩ := List.getElem_of_mem h6
    obtain ⟨b, hb, eb⟩ := List.getElem_of_mem h0
    have hab : a = b := by
      have hna := List.nodup_iff_pairwise_ne.1 hn
      rw [List.pairwise_iff_getElem] at hna
      rcases Nat.lt_trichotomy a b with hlt | heq | hlt
      · have := hna a b (by simpa using ha) (by simpa using hb) hlt
        simp [ea, eb] at this
      · exact heq
      · have := hna b a (by simpa using hb) (by simpa using ha) hlt
        simp [ea, eb] at this
    subst hab
    rw [ea] at eb
    injection eb
  omega
end

/-- All matches from place k on, one behind the other; behind: where the one ahead ended. -/
inductive AllR (p : List InstL) (rs : List Int) : Nat → Option Nat → List (Nat × Nat) → Prop
  | stop {k b} : rs.length < k → AllR p rs k b []
  | skip {k b l} : k ≤ rs.length → (Long p rs k none ∨ Long p rs k (some k) ∧ b = some k) → AllR p rs (k + 1) b l → AllR p rs k b l
  | take {k b e l} : k ≤ rs.length → Long p rs k (some e) → ¬ (e = k ∧ b = some k) → AllR p rs e (some e) l → AllR p rs k b ((k, e) :: l)
theorem AllR.uniq {p : List InstL} {rs : List Int} {k : Nat} {b : Option Nat} {l l' : List (Nat × Nat)} (h : AllR p rs k b l) (h' : AllR p rs k b l') : l = l' := by
  induction h generalizing l' with
  | stop hk => cases h' with
    | stop => rfl
    | skip h => omega
    | take h => omega
  | skip hk hc _ ih => cases h' with
    | stop => omega
    | skip _ _ h => exact ih h
    | take _ h1 h2 _ =>
      rcases hc with hc | ⟨hc, hb⟩
      · cases hc.uniq h1
      · have := hc.uniq h1; injection this with this; exact absurd ⟨this.symm, hb⟩ h2
  | take hk h1 h2 _ ih => cases h' with
    | stop => omega
    | skip _ hc _ =>
      rcases hc with hc | ⟨hc, hb⟩
      · cases hc.uniq h1
      · have := hc.uniq h1; injection this with this; exact absurd ⟨this.symm, hb⟩ h2
    | take _ h3 _ h4 =>
      have := h1.uniq h3; injection this with this; subst this
      rw [ih h4]
end Go.Proofs.Ytegcebgoiocakaa
/- A walk's memory. -/
namespace Go.Proofs.Ytegcebgoiocakaa
open Go Go.RowKit
set_option linter.unusedVariables false
set_option maxRecDepth 20000

/-- Below B, but for one block. -/
def Fs (B s b : Nat) : Prop := b < B ∧ b ≠ s
/-- A program all of whose blocks are of F, its sets too. -/
def InsF (F : Nat → Prop) (w : World) (A : Option Addr) (n : Nat) (l : List IV) : Prop :=
  l.length = n ∧ (0 < n → ∃ b o, A = some ⟨b, o, none⟩ ∧ F b ∧ b < w.heap.size ∧ ∀ j v, l[j]? = some v → ∀ k u, v.cells[k]? = some u → w.cell? ⟨b, o + j * 4 + k, none⟩ = some u) ∧ ∀ v ∈ l, RowF F w v.A v.n v.i.set ∧ v.n ≤ 2000000
/-- A row of ways. -/
def RowW (F : Nat → Prop) (w : World) (A : Option Addr) (n : Nat) (ws : List (Nat × Nat)) : Prop :=
  (ws.length = n ∧ n ≤ 1000000) ∧ (0 < n → ∃ b o, A = some ⟨b, o, none⟩ ∧ F b ∧ b < w.heap.size ∧ ∀ j x, ws[j]? = some x → w.cell? ⟨b, o + j * 2, none⟩ = some (.int .i64 (x.1 : Int)) ∧ w.cell? ⟨b, o + j * 2 + 1, none⟩ = some (.int .i64 (x.2 : Int)))
/-- All rows of ways. -/
def WaysF (F : Nat → Prop) (w : World) (A : Option Addr) (n : Nat) (W : List (List (Nat × Nat))) : Prop :=
  W.length = n ∧ (0 < n → ∃ b o, A = some ⟨b, o, none⟩ ∧ F b ∧ b < w.heap.size ∧ ∀ j ws, W[j]? = some ws → ∃ Aj nj cj, w.cell? ⟨b, o + j, none⟩ = some (.slice Aj nj cj) ∧ RowW F w Aj nj ws)
section
variable {F F' : Nat → Prop} {w w' : World} {A : Option Addr} {n : Nat} {l : List IV} {W : List (List (Nat × Nat))} {ws : List (Nat × Nat)}
theorem InsF.keep (h : InsF F w A n l) (hs : w.heap.size ≤ w'.heap.size) (hk : ∀ b, F b → b < w.heap.size → w'.heap[b]? = w.heap[b]?) : InsF F w' A n l := by
  refine ⟨h.1, fun hn => ?_, fun v hv => ⟨(h.2.2 v hv).1.keep hs hk, (h.2.2 v hv).2⟩⟩
  obtain ⟨b, o, hA, hF, hlt, hc⟩ := h.2.1 hn
  have hh := hk b hF hlt
  have hcell : ∀ j, w'.cell? ⟨b, j, none⟩ = w.cell? ⟨b, j, none⟩ := fun j => by simp only [World.cell?, hh]
  exact ⟨b, o, hA, hF, by omega, fun j v hv k u hu => by rw [hcell]; exact hc j v hv k u hu⟩
theorem RowW.keep (h : RowW F w A n ws) (hs : w.heap.size ≤ w'.heap.size) (hk : ∀ b, F b → b < w.heap.size → w'.heap[b]? = w.heap[b]?) : RowW F w' A n ws := by
  refine ⟨h.1, fun hn => ?_⟩
  obtain ⟨b, o, hA, hF, hlt, hc⟩ := h.2 hn
  have hh := hk b hF hlt
  have hcell : ∀ j, w'.cell? ⟨b, j, none⟩ = w.cell? ⟨b, j, none⟩ := fun j => by simp only [World.cell?, hh]
  exact ⟨b, o, hA, hF, by omega, fun j x hx => by rw [hcell, hcell]; exact hc j x hx⟩
theorem WaysF.keep (h : WaysF F w A n W) (hs : w.heap.size ≤ w'.heap.size) (hk : ∀ b, F b → b < w.heap.size → w'.heap[b]? = w.heap[b]?) : WaysF F w' A n W := by
  refine ⟨h.1, fun hn => ?_⟩
  obtain ⟨b, o, hA, hF, hlt, hc⟩ := h.2 hn
  have hh := hk b hF hlt
  have hcell : ∀ j, w'.cell? ⟨b, j, none⟩ = w.cell? ⟨b, j, none⟩ := fun j => by simp only [World.cell?, hh]
  refine ⟨b, o, hA, hF, by omega, fun j ws hj => ?_⟩
  obtain ⟨Aj, nj, cj, h1, h2⟩ := hc j ws hj
  exact ⟨Aj, nj, cj, by rw [hcell]; exact h1, h2.keep hs hk⟩
theorem InsF.belowB {B : Nat} (h : InsF (fun b => b < B) w A n l) (hb : Below B w w') : InsF (fun b => b < B) w' A n l := h.keep hb.size fun b hF _ => hb.block b hF
theorem InsF.below {B s : Nat} (h : InsF (Fs B s) w A n l) (hb : Below B w w') : InsF (Fs B s) w' A n l := h.keep hb.size fun b hF _ => hb.block b hF.1
theorem WaysF.below {B s : Nat} (h : WaysF (Fs B s) w A n W) (hb : Below B w w') : WaysF (Fs B s) w' A n W := h.keep hb.size fun b hF _ => hb.block b hF.1
theorem InsF.mono (h : InsF F w A n l) (hf : ∀ b, F b → b < w.heap.size → F' b) : InsF F' w A n l := by
  refine ⟨h.1, fun hn => ?_, fun v hv => ⟨⟨(h.2.2 v hv).1.1, fun b o hn hA => ?_⟩, (h.2.2 v hv).2⟩⟩
  · obtain ⟨b, o, hA, hF, hlt, hc⟩ := h.2.1 hn
    exact ⟨b, o, hA, hf b hF hlt, hlt, hc⟩
  · obtain ⟨b', o', hA', hlt, _⟩ := (h.2.2 v hv).1.1.2 hn
    have hF := (h.2.2 v hv).1.2 b o hn hA
    rw [hA] at hA'
    injection hA' with hA'
    injection hA' with e _
    subst e
    exact hf _ hF hlt
theorem InsF.insAt (h : InsF F w A n l) : InsAt w A n l := ⟨h.1, fun hn => by
  obtain ⟨b, o, hA, _, hlt, hc⟩ := h.2.1 hn
  exact ⟨b, o, hA, hlt, hc⟩⟩
/-- One instruction. -/
theorem InsF.one (h : InsF F w A n l) {j : Nat} {v : IV} (hv : l[j]? = some v) : ∃ b o, A = some ⟨b, o, none⟩ ∧ F b ∧ b < w.heap.size ∧ j < n ∧ w.cell? ⟨b, o + j * 4, none⟩ = some (.int .i64 v.i.op) ∧ w.cell? ⟨b, o + j * 4 + 1, none⟩ = some (.slice v.A v.n v.c) ∧ w.cell? ⟨b, o + j * 4 + 2, none⟩ = some (.int .i64 v.i.x) ∧ w.cell? ⟨b, o + j * 4 + 3, none⟩ = some (.int .i64 v.i.y) := by
  have hj := (List.getElem?_eq_some_iff.1 hv).1
  obtain ⟨b, o, hA, hF, hlt, hc⟩ := h.2.1 (by have := h.1; omega)
  exact ⟨b, o, hA, hF, hlt, by have := h.1; omega, hc j v hv 0 _ rfl, hc j v hv 1 _ rfl, hc j v hv 2 _ rfl, hc j v hv 3 _ rfl⟩
end

/-- The two cells of each spot. -/
def cellsS (xs : List (Nat × Nat)) : List Value := xs.flatMap fun p => [Value.int .i64 (p.1 : Int), .int .i64 (p.2 : Int)]
theorem cellsS_length (xs : List (Nat × Nat)) : (cellsS xs).length = xs.length * 2 := by
  induction xs with
  | nil => rfl
  | cons p s ih =>
    show ([Value.int .i64 (p.1 : Int), .int .i64 (p.2 : Int)] ++ cellsS s).length = _
    rw [List.length_append, ih]
    simp only [List.length_cons, List.length_nil]
    omega
theorem cellsS_append (a b : List (Nat × Nat)) : cellsS (a ++ b) = cellsS a ++ cellsS b := by simp [cellsS]
theorem cellsS_at : ∀ (xs : List (Nat × Nat)) (j : Nat) (x : Nat × Nat), xs[j]? = some x → (cellsS xs)[j * 2]? = some (.int .i64 (x.1 : Int)) ∧ (cellsS xs)[j * 2 + 1]? = some (.int .i64 (x.2 : Int))
  | [], j, x, h => by simp at h
  | p :: s, 0, x, h => by
    simp only [List.getElem?_cons_zero, Option.some.injEq] at h
    subst h
    exact ⟨rfl, rfl⟩
  | p :: s, j + 1, x, h => by
    have ih := cellsS_at s j x (by simpa using h)
    show ([Value.int .i64 (p.1 : Int), .int .i64 (p.2 : Int)] ++ cellsS s)[(j + 1) * 2]? = _ ∧ ([Value.int .i64 (p.1 : Int), .int .i64 (p.2 : Int)] ++ cellsS s)[(j + 1) * 2 + 1]? = _
    rw [List.getElem?_append_right (by show 2 ≤ _; omega), List.getElem?_append_right (by show 2 ≤ _; omega)]
    rw [show (j + 1) * 2 - [Value.int .i64 (p.1 : Int), .int .i64 (p.2 : Int)].length = j * 2 by show _ - 2 = _; omega, show (j + 1) * 2 + 1 - [Value.int .i64 (p.1 : Int), .int .i64 (p.2 : Int)].length = j * 2 + 1 by show _ - 2 = _; omega]
    exact ih
theorem info_spot : (Try.prog.info? 125).map (fun i => (i.zero, i.size, i.bytes)) = some (some (.agg #[.int .i64 0, .int .i64 0]), 2, 16) := by kernel_rfl
/-- A spot of an own row. -/
theorem spot_at {w : World} {B : Nat} {H : Option Addr} {n c : Nat} {xs : List (Nat × Nat)} (h : w.ownsRow B 125 2 (.slice H n c) n (cellsS xs)) {j : Nat} {x : Nat × Nat} (hx : xs[j]? = some x) : ∃ b, H = some ⟨b, 0, none⟩ ∧ j < n ∧ B ≤ b ∧ b < w.heap.size ∧ w.cell? ⟨b, j * 2, none⟩ = some (.int .i64 (x.1 : Int)) ∧ w.cell? ⟨b, j * 2 + 1, none⟩ = some (.int .i64 (x.2 : Int)) ∧ (∃ cs, w.heap[b]? = some (.cells cs 125 (0, 0))) := by
  have hj := (List.getElem?_eq_some_iff.1 hx).1
  have hl := h.1
  rw [cellsS_length] at hl
  rcases h.2 with ⟨e, h0⟩ | ⟨b, cap, cur, e, hB, hb, hnc, hcm, hcs, ht⟩
  · omega
  · injection e with e1 _ e3
    subst e1; subst e3
    obtain ⟨k1, k2⟩ := cellsS_at xs j x hx
    refine ⟨b, rfl, by omega, hB, (Array.getElem?_eq_some_iff.1 hb).1, ?_, ?_, cur, hb⟩
    · rw [cell_of_row w b (j * 2) cur 125 (0, 0) hb, ← k1, ← ht, List.getElem?_take_of_lt (by omega), Array.getElem?_toList]
    · rw [cell_of_row w b (j * 2 + 1) cur 125 (0, 0) hb, ← k2, ← ht, List.getElem?_take_of_lt (by omega), Array.getElem?_toList]
theorem own_len {w : World} {B : Nat} {H : Option Addr} {n c : Nat} {xs : List (Nat × Nat)} (h : w.ownsRow B 125 2 (.slice H n c) n (cellsS xs)) : xs.length = n := by have := h.1; rw [cellsS_length] at this; omega

/-- Blocks of the walk's own rows of spots. -/
def Owned (g : Nat) (w : World) (k : Nat) : Prop := ∃ v : Value, (w.cell? ⟨g, 4, none⟩ = some v ∨ w.cell? ⟨g, 5, none⟩ = some v) ∧ v.ownBlock = some k
/-- Nothing below B has turned; of what lay above just the walk's block, its row of places, and its own rows of spots; these lie now where they lay, or in blocks that are new. -/
def Tch (B g mb : Nat) (w w' : World) : Prop := Below B w w' ∧ ∀ k o, w.heap[k]? = some o → k ≠ g → k ≠ mb → ¬ Owned g w k → w'.heap[k]? = some o ∧ ¬ Owned g w' k
section
variable {B g mb : Nat} {w w' w'' : World}
theorem Tch.refl (B g mb : Nat) (w : World) : Tch B g mb w w := ⟨Below.refl _ _, fun _ _ h _ _ h2 => ⟨h, h2⟩⟩
theorem Tch.trans (h : Tch B g mb w w') (k : Tch B g mb w' w'') : Tch B g mb w w'' := ⟨h.1.trans k.1, fun i o h1 h2 h3 h4 => by
  obtain ⟨k1, k2⟩ := h.2 i o h1 h2 h3 h4
  exact k.2 i o k1 h2 h3 k2⟩
theorem Tch.drew (h : Tch B g mb w w') : Tch B g mb w w'.drew := ⟨h.1.drew, h.2⟩
theorem Tch.drewN (h : Tch B g mb w w') (q : Nat) : Tch B g mb w (w'.drewN q) := ⟨below_drewN h.1 q, h.2⟩
theorem Tch.of_below (h : Below w.heap.size w w') (hB : B ≤ w.heap.size) (hg : g < w.heap.size) : Tch B g mb w w' := ⟨h.mono hB, fun k o h1 _ _ h2 => ⟨(h.block k (Array.getElem?_eq_some_iff.1 h1).1).trans h1, fun ⟨v, hv, e⟩ => h2 ⟨v, by rwa [h.cell (p := ⟨g, 4, none⟩) hg, h.cell (p := ⟨g, 5, none⟩) hg] at hv, e⟩⟩⟩
end

/-- What a walk has that stays: the program, the text, the ways. -/
structure WEnv where
  A : Option Addr
  n : Nat
  c : Nat
  l : List IV
  T : ByteArray
  WA : Option Addr
  wc : Nat
  W : List (List (Nat × Nat))
  mc : Nat
  skip : Nat
def WEnv.p (e : WEnv) : List InstL := e.l.map fun v => v.i
/-- Of a walk's block: its seven cells. -/
def walkV (e : WEnv) (at_ : Nat) (H : Option Addr) (hn hc : Nat) (L : Option Addr) (ln lc mb : Nat) : Array Value :=
  #[.slice e.A e.n e.c, .string e.T, .slice e.WA e.n e.wc, .int .i64 (at_ : Int), .slice H hn hc, .slice L ln lc, .slice (some ⟨mb, 0, none⟩) e.n e.mc]
/-- The walk at block g: where it is, what is met here, what was met at the place ahead, and where each was met last. -/
structure WalkC (B g mb : Nat) (e : WEnv) (w : World) (at_ : Nat) (H : Option Addr) (hn hc : Nat) (here : List (Nat × Nat)) (L : Option Addr) (ln lc : Nat) (last : List (Nat × Nat)) (met : List Int) : Prop where
  hg : w.heap[g]? = some (.cells (walkV e at_ H hn hc L ln lc mb) 90 (0, 0))
  hm : w.heap[mb]? = some (.cells (met.map (Value.int .i64)).toArray 3 (0, 0))
  hml : met.length = e.n
  hB : B ≤ g
  hBm : B ≤ mb
  row : w.ownsRow B 125 2 (.slice H hn hc) hn (cellsS here)
  old : w.ownsRow B 125 2 (.slice L ln lc) ln (cellsS last)
  ne : ∀ b, (Value.slice H hn hc).ownBlock = some b → (Value.slice L ln lc).ownBlock ≠ some b
  ins : InsF (Fs B e.skip) w e.A e.n e.l
  ways : WaysF (Fs B e.skip) w e.WA e.n e.W
  win : WaysIn e.p e.W
  small : e.n ≤ 1000 ∧ e.T.size ≤ 1000 ∧ 0 < e.n
theorem size_toA {l : List Int} : ((l.map (Value.int .i64)).toArray).size = l.length := by simp
section
variable {B g mb : Nat} {e : WEnv} {w w' : World} {at_ : Nat} {H : Option Addr} {hn hc : Nat} {here : List (Nat × Nat)} {L : Option Addr} {ln lc : Nat} {last : List (Nat × Nat)} {met : List Int}
theorem WalkC.lt (h : WalkC B g mb e w at_ H hn hc here L ln lc last met) : g < w.heap.size ∧ mb < w.heap.size ∧ g ≠ mb := by
  refine ⟨(Array.getElem?_eq_some_iff.1 h.hg).1, (Array.getElem?_eq_some_iff.1 h.hm).1, ?_⟩
  rintro rfl
  have h1 := h.hg
  have h2 := h.hm
  rw [h1] at h2
  injection h2 with h2
  injection h2 with _ h2 _
  exact absurd h2 (by decide)
theorem WalkC.cells (h : WalkC B g mb e w at_ H hn hc here L ln lc last met) :
    w.cell? ⟨g, 0, none⟩ = some (.slice e.A e.n e.c) ∧ w.cell? ⟨g, 1, none⟩ = some (.string e.T) ∧ w.cell? ⟨g, 2, none⟩ = some (.slice e.WA e.n e.wc) ∧ w.cell? ⟨g, 3, none⟩ = some (.int .i64 (at_ : Int)) ∧ w.cell? ⟨g, 4, none⟩ = some (.slice H hn hc) ∧ w.cell? ⟨g, 5, none⟩ = some (.slice L ln lc) ∧ w.cell? ⟨g, 6, none⟩ = some (.slice (some ⟨mb, 0, none⟩) e.n e.mc) ∧ ∀ j, w.frozen? ⟨g, j, none⟩ = false :=
  ⟨cell_of_row _ g 0 _ _ (0, 0) h.hg, cell_of_row _ g 1 _ _ (0, 0) h.hg, cell_of_row _ g 2 _ _ (0, 0) h.hg, cell_of_row _ g 3 _ _ (0, 0) h.hg, cell_of_row _ g 4 _ _ (0, 0) h.hg, cell_of_row _ g 5 _ _ (0, 0) h.hg, cell_of_row _ g 6 _ _ (0, 0) h.hg, fun j => by simp [World.frozen?, h.hg]⟩
theorem WalkC.met_at (h : WalkC B g mb e w at_ H hn hc here L ln lc last met) {i : Nat} (hi : i < e.n) : w.cell? ⟨mb, i, none⟩ = some (.int .i64 (met.getD i 0)) ∧ ∀ j, w.frozen? ⟨mb, j, none⟩ = false := by
  have := h.hml
  refine ⟨?_, fun j => by simp [World.frozen?, h.hm]⟩
  rw [cell_of_row _ mb i _ _ (0, 0) h.hm]
  simp [List.getD, List.getElem?_eq_getElem (show i < met.length by omega)]
/-- It stays where nothing of it turns. -/
theorem WalkC.keep (h : WalkC B g mb e w at_ H hn hc here L ln lc last met) (hb : Below B w w') (hg : w'.heap[g]? = w.heap[g]?) (hm : w'.heap[mb]? = w.heap[mb]?) (hs : ∀ (k : Nat) (cs : Array Value) (f : Nat × Nat), w.heap[k]? = some (Obj.cells cs 125 f) → w'.heap[k]? = w.heap[k]?) : WalkC B g mb e w' at_ H hn hc here L ln lc last met := by
  have kp : ∀ {A : Option Addr} {n c : Nat} {xs : List Value}, w.ownsRow B 125 2 (.slice A n c) n xs → w'.ownsRow B 125 2 (.slice A n c) n xs := fun ho => row_keep ho fun k hk hv => by
    rcases ho.2 with ⟨e1, _⟩ | ⟨b, cap, cur, e1, _, hb', _⟩
    · rw [e1] at hv; cases hv
    · rw [e1] at hv; injection hv with hv; subst hv; exact hs b cur (0, 0) hb'
  exact ⟨hg.trans h.hg, hm.trans h.hm, h.hml, h.hB, h.hBm, kp h.row, kp h.old, h.ne, h.ins.below hb, h.ways.below hb, h.win, h.small⟩
/-- What is stored into the block that is left out is nothing to it. -/
theorem WalkC.skip (h : WalkC B g mb e w at_ H hn hc here L ln lc last met) (hsB : e.skip < B) (hsz : w.heap.size ≤ w'.heap.size) (hk : ∀ k, k < w.heap.size → k ≠ e.skip → w'.heap[k]? = w.heap[k]?) : WalkC B g mb e w' at_ H hn hc here L ln lc last met := by
  have hg := hk g h.lt.1 (by have := h.hB; omega)
  have hm := hk mb h.lt.2.1 (by have := h.hBm; omega)
  have kp : ∀ {A : Option Addr} {n c : Nat} {xs : List Value}, w.ownsRow B 125 2 (.slice A n c) n xs → w'.ownsRow B 125 2 (.slice A n c) n xs := fun ho => row_keep ho fun k hkl hv => hk k hkl (by have := (row_lt ho hv).1; omega)
  exact ⟨hg.trans h.hg, hm.trans h.hm, h.hml, h.hB, h.hBm, kp h.row, kp h.old, h.ne, h.ins.keep hsz fun b hF hb => hk b hb hF.2, h.ways.keep hsz fun b hF hb => hk b hb hF.2, h.win, h.small⟩
theorem WalkC.below (h : WalkC B g mb e w at_ H hn hc here L ln lc last met) (hb : Below w.heap.size w w') : WalkC B g mb e w' at_ H hn hc here L ln lc last met :=
  h.keep (hb.mono (by have := h.lt; have := h.hB; omega)) (hb.block g h.lt.1) (hb.block mb h.lt.2.1) fun k cs f hk => hb.block k (Array.getElem?_eq_some_iff.1 hk).1
theorem WalkC.drewN (h : WalkC B g mb e w at_ H hn hc here L ln lc last met) (q : Nat) : WalkC B g mb e (w.drewN q) at_ H hn hc here L ln lc last met := h.below (below_drewN (Below.refl _ _) q)
end
section
variable {B g mb : Nat} {e : WEnv} {w w' : World} {at_ : Nat} {H : Option Addr} {hn hc : Nat} {here : List (Nat × Nat)} {L : Option Addr} {ln lc : Nat} {last : List (Nat × Nat)} {met : List Int}
theorem WalkC.owned (h : WalkC B g mb e w at_ H hn hc here L ln lc last met) (k : Nat) : Owned g w k ↔ (Value.slice H hn hc).ownBlock = some k ∨ (Value.slice L ln lc).ownBlock = some k := by
  have c := h.cells
  constructor
  · rintro ⟨v, hv | hv, e⟩
    · rw [c.2.2.2.2.1] at hv; injection hv with hv; subst hv; exact .inl e
    · rw [c.2.2.2.2.2.1] at hv; injection hv with hv; subst hv; exact .inr e
  · rintro (e | e)
    · exact ⟨_, .inl c.2.2.2.2.1, e⟩
    · exact ⟨_, .inr c.2.2.2.2.2.1, e⟩
/-- What is no row of spots is not the walk's. -/
theorem WalkC.free (h : WalkC B g mb e w at_ H hn hc here L ln lc last met) {k : Nat} {o : Obj} (hk : w.heap[k]? = some o) (ho : ∀ cs f, o ≠ Obj.cells cs 125 f) : ¬ Owned g w k := fun hw => by
  have key : ∀ {A : Option Addr} {n c : Nat} {xs : List Value}, w.ownsRow B 125 2 (.slice A n c) n xs → (Value.slice A n c).ownBlock ≠ some k := fun hr e => by
    rcases hr.2 with ⟨e1, _⟩ | ⟨b, cap, cur, e1, _, hb', _⟩
    · rw [e1] at e; cases e
    · rw [e1] at e; injection e with e; have e : b = k := e; subst e; rw [hb'] at hk; injection hk with hk; exact ho _ _ hk.symm
  rcases (h.owned k).1 hw with e | e
  · exact key h.row e
  · exact key h.old e
theorem tch_of {at' : Nat} {H' : Option Addr} {hn' hc' : Nat} {here' : List (Nat × Nat)} {L' : Option Addr} {ln' lc' : Nat} {last' : List (Nat × Nat)} {met' : List Int} (h : WalkC B g mb e w at_ H hn hc here L ln lc last met) (h' : WalkC B g mb e w' at' H' hn' hc' here' L' ln' lc' last' met') (hb : Below B w w')
    (hk : ∀ k, k < w.heap.size → k ≠ g → k ≠ mb → (Value.slice H hn hc).ownBlock ≠ some k → (Value.slice L ln lc).ownBlock ≠ some k → w'.heap[k]? = w.heap[k]? ∧ (Value.slice H' hn' hc').ownBlock ≠ some k ∧ (Value.slice L' ln' lc').ownBlock ≠ some k) : Tch B g mb w w' :=
  ⟨hb, fun k o h1 h2 h3 h4 => by
    rw [h.owned, not_or] at h4
    obtain ⟨k1, k2, k3⟩ := hk k (Array.getElem?_eq_some_iff.1 h1).1 h2 h3 h4.1 h4.2
    refine ⟨k1.trans h1, ?_⟩
    rw [h'.owned, not_or]
    exact ⟨k2, k3⟩⟩
end
/-- Which are met here: just those whose place is this one. -/
def MetOk (at_ : Nat) (here : List (Nat × Nat)) (met : List Int) : Prop := ∀ i, met[i]? = some (at_ : Int) ↔ i ∈ here.map Prod.fst
/-- The row of those met at the place ahead. -/
structure SRow where
  A : Option Addr
  n : Nat
  c : Nat
  xs : List (Nat × Nat)
/-- The walk, the row that is met here wherever it lies. -/
def WalkS (B g mb : Nat) (e : WEnv) (w : World) (at_ : Nat) (here : List (Nat × Nat)) (last : SRow) (met : List Int) : Prop :=
  ∃ H hn hc, WalkC B g mb e w at_ H hn hc here last.A last.n last.c last.xs met
theorem WalkS.below {B g mb : Nat} {e : WEnv} {w w' : World} {at_ : Nat} {here : List (Nat × Nat)} {last : SRow} {met : List Int} (h : WalkS B g mb e w at_ here last met) (hb : Below w.heap.size w w') : WalkS B g mb e w' at_ here last met := by
  obtain ⟨H, hn, hc, h⟩ := h
  exact ⟨H, hn, hc, h.below hb⟩
end Go.Proofs.Ytegcebgoiocakaa
/- A walk's add, isOpen, isMatch. -/
namespace Go.Proofs.Ytegcebgoiocakaa
open Go Go.RowKit
set_option linter.unusedVariables false
set_option maxRecDepth 20000

section
variable {B g mb : Nat} {e : WEnv} {w w' : World} {at_ : Nat} {H : Option Addr} {hn hc : Nat} {here : List (Nat × Nat)} {L : Option Addr} {ln lc : Nat} {last : List (Nat × Nat)} {met : List Int}
/-- An instruction's place turned. -/
theorem WalkC.setM (h : WalkC B g mb e w at_ H hn hc here L ln lc last met) (i : Nat) (v : Int) : WalkC B g mb e (w.setCell ⟨mb, i, none⟩ (.int .i64 v)) at_ H hn hc here L ln lc last (met.set i v) := by
  have hoth : ∀ k, k ≠ mb → (w.setCell ⟨mb, i, none⟩ (.int .i64 v)).heap[k]? = w.heap[k]? := fun k hk => Below.heap_setCell _ _ _ _ hk
  have kp : ∀ {A : Option Addr} {n c : Nat} {xs : List Value}, w.ownsRow B 125 2 (.slice A n c) n xs → (w.setCell ⟨mb, i, none⟩ (.int .i64 v)).ownsRow B 125 2 (.slice A n c) n xs := fun ho => row_keep ho fun k hk hv => hoth k fun e => row_ne_blk ho h.hm (by decide) (by rw [hv, e])
  have hb : Below B w (w.setCell ⟨mb, i, none⟩ (.int .i64 v)) := (Below.refl _ _).setCell (p := ⟨mb, i, none⟩) h.hBm _
  refine ⟨(hoth g h.lt.2.2).trans h.hg, ?_, by simpa using h.hml, h.hB, h.hBm, kp h.row, kp h.old, h.ne, h.ins.below hb, h.ways.below hb, h.win, h.small⟩
  have := heap_setCell_same w mb i _ _ (.int .i64 v) h.hm
  rw [this]
  simp [List.map_set]
/-- One of the walk's own cells turned. -/
theorem WalkC.setG {at' : Nat} {H' L' : Option Addr} {hn' hc' ln' lc' : Nat} {here' last' : List (Nat × Nat)} (h : WalkC B g mb e w at_ H hn hc here L ln lc last met) (j : Nat) (u : Value) (hu : (walkV e at_ H hn hc L ln lc mb).setIfInBounds j u = walkV e at' H' hn' hc' L' ln' lc' mb)
    (hrow : w.ownsRow B 125 2 (.slice H' hn' hc') hn' (cellsS here')) (hold : w.ownsRow B 125 2 (.slice L' ln' lc') ln' (cellsS last')) (hne : ∀ b, (Value.slice H' hn' hc').ownBlock = some b → (Value.slice L' ln' lc').ownBlock ≠ some b) :
    WalkC B g mb e (w.setCell ⟨g, j, none⟩ u) at' H' hn' hc' here' L' ln' lc' last' met := by
  have hoth : ∀ k, k ≠ g → (w.setCell ⟨g, j, none⟩ u).heap[k]? = w.heap[k]? := fun k hk => Below.heap_setCell _ _ _ _ hk
  have kp : ∀ {A : Option Addr} {n c : Nat} {xs : List Value}, w.ownsRow B 125 2 (.slice A n c) n xs → (w.setCell ⟨g, j, none⟩ u).ownsRow B 125 2 (.slice A n c) n xs := fun ho => row_keep ho fun k hk hv => hoth k fun e => row_ne_blk ho h.hg (by decide) (by rw [hv, e])
  have hb : Below B w (w.setCell ⟨g, j, none⟩ u) := (Below.refl _ _).setCell (p := ⟨g, j, none⟩) h.hB _
  refine ⟨?_, (hoth mb (Ne.symm h.lt.2.2)).trans h.hm, h.hml, h.hB, h.hBm, kp hrow, kp hold, hne, h.ins.below hb, h.ways.below hb, h.win, h.small⟩
  rw [heap_setCell_same w g j _ _ u h.hg, hu]
/-- append of one spot, and the store of the row. -/
theorem WalkC.push (h : WalkC B g mb e w at_ H hn hc here L ln lc last met) {X : World} (hX : Below w.heap.size w X) {d i f : Nat} (hd : X.heap[d]? = some (.cells #[.int .i64 (i : Int), .int .i64 (f : Int)] 125 (0, 0))) (hq : hn ≤ 100000) :
    ∃ v' w', (Builtin.append_ #[88, 88] 88 #[.slice H hn hc, .slice (some ⟨d, 0, none⟩) 1 1]).run Try.prog X = .ok v' w' ∧
      ∃ H' hc', v' = .slice H' (hn + 1) hc' ∧ w'.cell? ⟨g, 4, none⟩ = some (.slice H hn hc) ∧ w'.frozen? ⟨g, 4, none⟩ = false ∧ g < w'.heap.size ∧
      WalkC B g mb e (w'.setCell ⟨g, 4, none⟩ (.slice H' (hn + 1) hc')) at_ H' (hn + 1) hc' (here ++ [(i, f)]) L ln lc last met ∧ Tch B g mb w (w'.setCell ⟨g, 4, none⟩ (.slice H' (hn + 1) hc')) := by
  obtain ⟨i0, hi, hz0, hz1, hz2⟩ := info_parts info_spot
  have hwX := h.below hX
  have hBX : B ≤ X.heap.size := by have := hwX.lt; have := hwX.hB; omega
  have hcells : ∀ j u, [Value.int .i64 (i : Int), .int .i64 (f : Int)][j]? = some u → X.cell? ((⟨d, 0, none⟩ : Addr).add j) = some u := by
    intro j u hu
    rw [show (⟨d, 0, none⟩ : Addr).add j = ⟨d, 0 + j, none⟩ by unfold Addr.add; split <;> simp_all, cell_of_row X d (0 + j) _ 125 (0, 0) hd, Nat.zero_add]
    simpa using hu
  obtain ⟨V', w', h1, h2, h3, _, h4⟩ := run_append_own_at (P := Try.prog) X B 88 88 125 i0 _ 2 16 Try.underlying88 hi hz0 hz1 hz2 rfl (by decide) _ hn _ hwX.row ⟨d, 0, none⟩ 1 1 _ rfl hcells (by simp [Value.oneCell']) (by unfold maxLen; omega) (by omega) hBX
  have e1 : cellsS here ++ [Value.int .i64 (i : Int), .int .i64 (f : Int)] = cellsS (here ++ [(i, f)]) := by rw [cellsS_append]; rfl
  rw [e1] at h2
  obtain ⟨H', hc', rfl⟩ : ∃ H' hc', V' = .slice H' (hn + 1) hc' := by
    rcases h2.2 with ⟨rfl, h0⟩ | ⟨b, cap, cu, rfl, _⟩
    · omega
    · exact ⟨_, _, rfl⟩
  have hb' : Below B w w' := (hX.mono (by have := h.lt; have := h.hB; omega)).grown h3 hBX fun k hk => (row_lt hwX.row hk).1
  have hgg : w'.heap[g]? = X.heap[g]? := h3.block g hwX.lt.1 fun e => row_ne_blk hwX.row hwX.hg (by decide) e.symm
  have hmm : w'.heap[mb]? = X.heap[mb]? := h3.block mb hwX.lt.2.1 fun e => row_ne_blk hwX.row hwX.hm (by decide) e.symm
  have hneL : ∀ b, (Value.slice H' (hn + 1) hc').ownBlock = some b → (Value.slice L ln lc).ownBlock ≠ some b := fun b hb hl => by
    rcases h4 with h4 | h4
    · rw [h4] at hb; exact h.ne b hb hl
    · rw [h4] at hb; injection hb with hb; have := (row_lt hwX.old hl).2; omega
  have hold : w'.ownsRow B 125 2 (.slice L ln lc) ln (cellsS last) := row_keep hwX.old fun k hk hv => h3.block k hk fun e => hwX.ne k e.symm hv
  have hC : WalkC B g mb e w' at_ H' (hn + 1) hc' (here ++ [(i, f)]) L ln lc last met → WalkC B g mb e (w'.setCell ⟨g, 4, none⟩ (.slice H' (hn + 1) hc')) at_ H' (hn + 1) hc' (here ++ [(i, f)]) L ln lc last met := fun k => k.setG 4 _ (by rfl) k.row k.old k.ne
  have hoth : ∀ k, k ≠ g → (w'.setCell ⟨g, 4, none⟩ (.slice H' (hn + 1) hc')).heap[k]? = w'.heap[k]? := fun k hk => Below.heap_setCell _ _ _ _ hk
  have hb2 : Below B w (w'.setCell ⟨g, 4, none⟩ (.slice H' (hn + 1) hc')) := hb'.setCell (p := ⟨g, 4, none⟩) h.hB _
  have hCn : WalkC B g mb e (w'.setCell ⟨g, 4, none⟩ (.slice H' (hn + 1) hc')) at_ H' (hn + 1) hc' (here ++ [(i, f)]) L ln lc last met := by
    refine ⟨?_, (hoth mb (Ne.symm h.lt.2.2)).trans (hmm.trans hwX.hm), h.hml, h.hB, h.hBm, row_keep h2 fun k hk hv => hoth k fun e => ?_, row_keep hold fun k hk hv => hoth k fun e => ?_, hneL, h.ins.below hb2, h.ways.below hb2, h.win, h.small⟩
    · rw [heap_setCell_same w' g 4 _ _ _ (hgg.trans hwX.hg)]; rfl
    · exact row_ne_blk h2 (hgg.trans hwX.hg) (by decide) (by rw [hv, e])
    · exact row_ne_blk hold (hgg.trans hwX.hg) (by decide) (by rw [hv, e])
  refine ⟨_, w', h1, H', hc', rfl, cell_of_row w' g 4 _ _ (0, 0) (hgg.trans hwX.hg), by simp [World.frozen?, hgg.trans hwX.hg], (Array.getElem?_eq_some_iff.1 (hgg.trans hwX.hg)).1, hCn, tch_of h hCn hb2 fun k hk k1 k2 k3 k4 => ⟨?_, fun e => ?_, k4⟩⟩
  · rw [hoth k k1, h3.block k (Nat.lt_of_lt_of_le hk hX.size) fun e => k3 e.symm, hX.block k hk]
  · rcases h4 with h4 | h4
    · exact k3 (h4 ▸ e)
    · rw [h4] at e; injection e with e; have := hX.size; omega
end
/-- What add leaves. -/
def addH (here : List (Nat × Nat)) (i f : Nat) : List (Nat × Nat) := if i ∈ here.map Prod.fst then here else here ++ [(i, f)]
theorem nodup_len : ∀ (n : Nat) (l : List Nat), l.Nodup → (∀ x ∈ l, x < n) → l.length ≤ n
  | 0, l, _, h => by
    cases l with
    | nil => exact Nat.le_refl _
    | cons a l => exact absurd (h a (by simp)) (by omega)
  | n + 1, l, hn, h => by
    by_cases hm : n ∈ l
    · have h1 := nodup_len n (l.erase n) (hn.erase n) (fun x hx => by
        have h2 := h x (List.mem_of_mem_erase hx)
        have h3 : x ≠ n := fun e => by rw [e] at hx; exact (List.Nodup.not_mem_erase hn) hx
        omega)
      rw [List.length_erase_of_mem hm] at h1
      omega
    · have h1 := nodup_len n l hn (fun x hx => by
        have h2 := h x hx
        have h3 : x ≠ n := fun e => by rw [e] at hx; exact hm hx
        omega)
      omega
theorem here_len {e : WEnv} {here : List (Nat × Nat)} (hnd : (here.map Prod.fst).Nodup) (hin : ∀ x ∈ here, x.1 < e.n) : here.length ≤ e.n := by
  have h1 := nodup_len e.n (here.map Prod.fst) hnd (fun x hx => by
    obtain ⟨y, hy, rfl⟩ := List.mem_map.1 hx
    exact hin y hy)
  simpa using h1
/-- A walk while something is met: those met here are told apart (if full, by their places alone). -/
structure WalkM (full : Prop) (B g mb : Nat) (e : WEnv) (w : World) (at_ : Nat) (here : List (Nat × Nat)) (last : SRow) (met : List Int) : Prop where
  s : WalkS B g mb e w at_ here last met
  okL : ∀ i, i ∈ here.map Prod.fst → met[i]? = some (at_ : Int)
  okR : full → ∀ i, met[i]? = some (at_ : Int) → i ∈ here.map Prod.fst
  nodup : (here.map Prod.fst).Nodup
  inn : ∀ x ∈ here, x.1 < e.n
theorem WalkM.below {full : Prop} {B g mb : Nat} {e : WEnv} {w w' : World} {at_ : Nat} {here : List (Nat × Nat)} {last : SRow} {met : List Int} (h : WalkM full B g mb e w at_ here last met) (hb : Below w.heap.size w w') : WalkM full B g mb e w' at_ here last met := ⟨h.s.below hb, h.okL, h.okR, h.nodup, h.inn⟩
/-- Places are told of this place alone. -/
def MetIn (at_ : Nat) (met met' : List Int) : Prop := ∀ x ∈ met', x ∈ met ∨ x = (at_ : Int)
theorem MetIn.trans {at_ : Nat} {a b c : List Int} (h : MetIn at_ a b) (k : MetIn at_ b c) : MetIn at_ a c := fun x hx => by
  rcases k x hx with h1 | h1
  · exact h x h1
  · exact .inr h1
set_option maxHeartbeats 4000000 in
theorem add_any {full : Prop} {B g mb : Nat} {e : WEnv} {w : World} {at_ : Nat} {here : List (Nat × Nat)} {last : SRow} {met : List Int} (h : WalkM full B g mb e w at_ here last met) (i f : Nat) (hi : i < e.n) :
    Calls Try.prog 75 #[.pointer (some ⟨g, 0, none⟩), .int .i64 (i : Int), .int .i64 (f : Int)] w fun en w' => en = .returned (.tuple #[]) ∧ ∃ here' met', WalkM full B g mb e w' at_ here' last met' ∧ Tch B g mb w w' ∧ MetIn at_ met met' ∧ (full → here' = addH here i f) := by
  obtain ⟨⟨H, hn, hc, hC⟩, hokL, hokR, hnd, hin⟩ := h
  have hl : hn ≤ 100000 := by have := own_len hC.row; have := here_len hnd hin; have := hC.small.1; omega
  obtain ⟨c0, c1, c2, c3, c4, c5, c6, hf⟩ := hC.cells
  obtain ⟨m0, mf⟩ := hC.met_at hi
  obtain ⟨x, hx⟩ : ∃ x, x = met.getD i 0 := ⟨_, rfl⟩
  rw [← hx] at m0
  have hmi : met[i]? = some x := by rw [hx]; have := hC.hml; simp [List.getD, List.getElem?_eq_getElem (show i < met.length by omega)]
  have mf0 := mf i
  have hi1 : (0 : Int) ≤ (i : Int) := by omega
  have hi2 : (i : Int) < (e.n : Int) := by omega
  have HC := Lib.hid (And.intro hC (And.intro (And.intro hokL hokR) (And.intro hnd (And.intro hin hmi))))
  clear hC hokL hokR hnd hin hx c0 c1 c2 c5 mf hmi hf
  by_cases heq : x = (at_ : Int)
  · subst heq
    go_enter Try.func75, Try.ntmps75
    go_wp2_with fail
    go_quiet (fail)
    go_wp2
    go_end0
    obtain ⟨h1, h2, h3, h4, h5⟩ := HC.out
    exact ⟨rfl, here, met, ⟨⟨H, hn, hc, h1.drewN _⟩, h2.1, h2.2, h3, h4⟩, (Tch.refl _ _ _ _).drewN _, fun x hx => .inl hx, fun hf => by unfold addH; rw [if_pos (h2.2 hf i h5)]⟩
  · have hne : (x == (at_ : Int)) = false := by simp [heq]
    clear heq
    go_enter Try.func75, Try.ntmps75
    go_wp2_with fail
    go_quiet (fail)
    go_wp2_with fail
    go_region
    have hC1 := (HC.out.1.drewN (nq + 1)).setM i (at_ : Int)
    have hT1 : Tch B g mb w ((w.drewN (nq + 1)).setCell ⟨mb, i, none⟩ (.int .i64 (at_ : Int))) := tch_of HC.out.1 hC1 ((below_drewN (Below.refl _ _) _).setCell (p := ⟨mb, i, none⟩) HC.out.1.hBm _) fun k _ _ k2 k3 k4 => ⟨Below.heap_setCell _ _ _ _ k2, k3, k4⟩
    generalize (w.drewN (nq + 1)).setCell ⟨mb, i, none⟩ (.int .i64 (at_ : Int)) = w1 at hC1 hT1 ⊢
    have d4 := hC1.cells.2.2.2.2.1
    have d4' : (w1.alloc (.cells #[.int .i64 (i : Int), .int .i64 (f : Int)] 125)).cell? ⟨g, 4, none⟩ = _ := (hC1.below ((Below.refl _ _).alloc (Nat.le_refl _) _)).cells.2.2.2.2.1
    obtain ⟨v', w2, happ, H', hc', rfl, k1, k2, k3, k4, k5⟩ := hC1.push ((Below.refl w1.heap.size w1).alloc (Nat.le_refl _) (.cells #[.int .i64 (i : Int), .int .i64 (f : Int)] 125)) (d := w1.heap.size) (i := i) (f := f) (heap_alloc_new _ _) hl
    have HAPP := Lib.hid happ
    have HR := Lib.hid (And.intro k4 (And.intro k5 hT1))
    clear hC1 hT1 happ k4 k5 c3 c4 c6 m0 mf0
    go_wp2_with (at_builtin; refine wpList_append_run rfl _ _ 88 rfl rfl _ _ _ _ rfl rfl HAPP.out ?_)
    go_end0
    obtain ⟨h1, h2, h3, h4, h5⟩ := HC.out
    have hnm : i ∉ here.map Prod.fst := fun hm => by
      have := h2.1 i hm
      rw [h5] at this
      injection this with this
      rw [this] at hne
      simp at hne
    have hil : i < met.length := (List.getElem?_eq_some_iff.1 h5).1
    refine ⟨rfl, here ++ [(i, f)], met.set i (at_ : Int), ⟨⟨H', hn + 1, hc', HR.out.1⟩, ?_, ?_, ?_, ?_⟩, HR.out.2.2.trans HR.out.2.1, fun x hx => ?_, fun _ => by unfold addH; rw [if_neg hnm]⟩
    · intro j hj
      rw [List.map_append, List.mem_append] at hj
      by_cases hji : j = i
      · subst hji
        simp [hil]
      · rw [List.getElem?_set_ne (Ne.symm hji)]
        rcases hj with hj | hj
        · exact h2.1 j hj
        · simp at hj; exact absurd hj hji
    · intro hf j hj
      rw [List.map_append, List.mem_append]
      by_cases hji : j = i
      · subst hji
        right; simp
      · rw [List.getElem?_set_ne (Ne.symm hji)] at hj
        exact .inl (h2.2 hf j hj)
    · rw [List.map_append]
      exact List.nodup_append.2 ⟨h3, by simp, fun a ha b hb => by
        simp at hb
        rintro rfl
        exact hnm (hb ▸ ha)⟩
    · intro y hy
      rcases List.mem_append.1 hy with hy | hy
      · exact h4 y hy
      · simp at hy; subst hy; exact hi
    · rcases List.mem_or_eq_of_mem_set hx with h | h
      · exact .inl h
      · exact .inr h
set_option maxHeartbeats 4000000 in
theorem isOpen_any {B g mb : Nat} {e : WEnv} {w : World} {at_ : Nat} {here : List (Nat × Nat)} {last : SRow} {met : List Int} (h : WalkS B g mb e w at_ here last met) (op : Int) :
    Calls Try.prog 76 #[.pointer (some ⟨g, 0, none⟩), .int .i64 op] w fun en w' => en = .returned (.bool (openA e.T.size at_ op)) ∧ ∃ q, w' = w.drewN q := by
  obtain ⟨H, hn, hc, hC⟩ := h
  obtain ⟨c0, c1, c2, c3, c4, c5, c6, hf⟩ := hC.cells
  obtain ⟨R, hR⟩ : ∃ R, R = openA e.T.size at_ op := ⟨_, rfl⟩
  rw [← hR]
  have HR := Lib.hid hR
  have hsz : (e.T.size : Int) ≤ 1000 := by have := hC.small.2.1; omega
  clear hR hC c0 c2 c4 c5 c6 hf
  by_cases h2 : op = 2
  · have hr : R = true := by rw [HR.out]; simp [openA, h2]
    subst h2; subst hr
    go_enter Try.func76, Try.ntmps76
    go_wp2
    go_ret
    exact ⟨rfl, 0, rfl⟩
  by_cases h3 : op = 3
  · have hr : R = decide (at_ = 0) := by rw [HR.out]; simp [openA, h3]
    subst h3
    go_enter Try.func76, Try.ntmps76
    go_wp2
    go_ret
    refine ⟨?_, 0, rfl⟩
    rw [hr]
    by_cases hz : at_ = 0
    · subst hz; rfl
    · have : ((at_ : Int) == 0) = false := by simp; omega
      simp [hz]
  by_cases h4 : op = 4
  · have hr : R = decide (at_ = e.T.size) := by rw [HR.out]; simp [openA, h4]
    subst h4
    go_enter Try.func76, Try.ntmps76
    go_wp2
    go_quiet (fail)
    go_wp2
    go_ret
    refine ⟨?_, _, rfl⟩
    rw [hr]
    by_cases hz : at_ = e.T.size
    · rw [hz]; simp
    · have : ((at_ : Int) == (e.T.size : Int)) = false := by simp; omega
      simp [hz]
      omega
  · have hr : R = false := by rw [HR.out]; simp [openA, h2, h3, h4]
    subst hr
    have e2 : (op == 2) = false := by simp [h2]
    have e3 : (op == 3) = false := by simp [h3]
    have e4 : (op == 4) = false := by simp [h4]
    clear h2 h3 h4
    go_enter Try.func76, Try.ntmps76
    go_wp2
    go_ret
    exact ⟨rfl, 0, rfl⟩
set_option maxHeartbeats 4000000 in
theorem isMatch_any {B g mb : Nat} {e : WEnv} {w : World} {at_ : Nat} {here : List (Nat × Nat)} {last : SRow} {met : List Int} (h : WalkS B g mb e w at_ here last met) {i : Nat} {v : IV} (hv : e.l[i]? = some v) :
    Calls Try.prog 47 #[.pointer (some ⟨g, 0, none⟩), .int .i64 (i : Int)] w fun en w' => en = .returned (.bool (decide (v.i.op = 0))) ∧ w = w' := by
  obtain ⟨H, hn, hc, hC⟩ := h
  obtain ⟨c0, c1, c2, c3, c4, c5, c6, hf⟩ := hC.cells
  obtain ⟨b, o, hA, _, _, hj, d0, _⟩ := hC.ins.one hv
  rw [hA] at c0
  have hi2 : (i : Int) < (e.n : Int) := by omega
  clear hC c1 c2 c3 c4 c5 c6 hf hA
  go_enter Try.func47, Try.ntmps47
  go_wp2
  go_ret
  refine ⟨?_, rfl⟩
  simp
  by_cases h0 : v.i.op = 0 <;> simp [h0]
end Go.Proofs.Ytegcebgoiocakaa
/- A walk's meet. -/
namespace Go.Proofs.Ytegcebgoiocakaa
open Go Go.RowKit
set_option linter.unusedVariables false
set_option maxRecDepth 20000

/-- While an instruction is being met: what is new, how far it was gone through. -/
structure Meeting (E : Nat → Nat → Prop) (h0 h : List (Nat × Nat)) (i f next : Nat) (part : List Nat) : Prop where
  new : ∃ new : List Nat, h = h0 ++ new.map (fun j => (j, f)) ∧ ∀ j ∈ new, Star E i j
  has : i ∈ h.map Prod.fst
  lo : h0.length ≤ next
  hi : next ≤ h.length
  done : ∀ k, h0.length ≤ k → k < next → ∀ x, h[k]? = some x → ∀ j, E x.1 j → j ∈ h.map Prod.fst
  part : ∀ j ∈ part, j ∈ h.map Prod.fst
theorem addH_pre (h : List (Nat × Nat)) (i f : Nat) : ∃ t, addH h i f = h ++ t ∧ (t = [] ∨ t = [(i, f)]) := by
  unfold addH
  split
  · exact ⟨[], by simp, .inl rfl⟩
  · exact ⟨_, rfl, .inr rfl⟩
theorem addH_mem (h : List (Nat × Nat)) (i f : Nat) : i ∈ (addH h i f).map Prod.fst := by
  unfold addH
  split
  · assumption
  · simp
theorem addH_sub {h : List (Nat × Nat)} {i f j : Nat} (hj : j ∈ h.map Prod.fst) : j ∈ (addH h i f).map Prod.fst := by
  obtain ⟨t, ht, _⟩ := addH_pre h i f
  rw [ht, List.map_append]
  exact List.mem_append_left _ hj
theorem Meeting.begin {E : Nat → Nat → Prop} (h0 : List (Nat × Nat)) (i f : Nat) : Meeting E h0 (addH h0 i f) i f h0.length [] := by
  obtain ⟨t, ht, hc⟩ := addH_pre h0 i f
  refine ⟨?_, addH_mem h0 i f, Nat.le_refl _, by rw [ht]; simp, fun k h1 h2 => by omega, fun j hj => by simp at hj⟩
  rcases hc with rfl | rfl
  · exact ⟨[], by rw [ht]; simp, fun j hj => by simp at hj⟩
  · exact ⟨[i], by rw [ht]; simp, fun j hj => by simp at hj; subst hj; exact .refl⟩
/-- One more way that is open. -/
theorem Meeting.add {E : Nat → Nat → Prop} {h0 h : List (Nat × Nat)} {i f next : Nat} {part : List Nat} (m : Meeting E h0 h i f next part) {x : Nat × Nat} (hx : h[next]? = some x) {j : Nat} (he : E x.1 j) : Meeting E h0 (addH h j f) i f next (part ++ [j]) := by
  obtain ⟨t, ht, hc⟩ := addH_pre h j f
  obtain ⟨new, h1, h2⟩ := m.new
  have hn := (List.getElem?_eq_some_iff.1 hx).1
  refine ⟨?_, addH_sub m.has, m.lo, by rw [ht, List.length_append]; have := m.hi; omega, fun k h3 h4 y hy j' hj' => ?_, fun j' hj' => ?_⟩
  · rcases hc with rfl | rfl
    · exact ⟨new, by rw [ht, h1]; simp, h2⟩
    · refine ⟨new ++ [j], by rw [ht, h1]; simp, fun j' hj' => ?_⟩
      rcases List.mem_append.1 hj' with hj' | hj'
      · exact h2 j' hj'
      · simp at hj'
        subst hj'
        have hxn : x.1 ∈ new := by
          have h5 := m.lo
          rw [h1, List.getElem?_append_right h5, List.getElem?_map] at hx
          obtain ⟨y, hy, rfl⟩ := Option.map_eq_some_iff.1 hx
          exact List.mem_of_getElem? hy
        exact .tail (h2 _ hxn) he
  · rw [ht, List.getElem?_append_left (by omega)] at hy
    exact addH_sub (m.done k h3 h4 y hy j' hj')
  · rcases List.mem_append.1 hj' with hj' | hj'
    · exact addH_sub (m.part j' hj')
    · simp at hj'; subst hj'; exact addH_mem _ _ _
/-- One is gone through. -/
theorem Meeting.next {E : Nat → Nat → Prop} {h0 h : List (Nat × Nat)} {i f next : Nat} {part : List Nat} (m : Meeting E h0 h i f next part) {x : Nat × Nat} (hx : h[next]? = some x) (hall : ∀ j, E x.1 j → j ∈ part) : Meeting E h0 h i f (next + 1) [] := by
  have hn := (List.getElem?_eq_some_iff.1 hx).1
  refine ⟨m.new, m.has, by have := m.lo; omega, by omega, fun k h1 h2 y hy j hj => ?_, fun j hj => by simp at hj⟩
  rcases Nat.lt_or_ge k next with h3 | h3
  · exact m.done k h1 h3 y hy j hj
  · obtain rfl : k = next := by omega
    rw [hx] at hy; injection hy with hy; subst hy
    exact m.part j (hall j hj)
theorem Meeting.over {E : Nat → Nat → Prop} {h0 h : List (Nat × Nat)} {i f : Nat} {part : List Nat} (m : Meeting E h0 h i f h.length part) (hn : (h.map Prod.fst).Nodup) : Met E h0 h i f := by
  obtain ⟨new, h1, h2⟩ := m.new
  refine ⟨new, h1, h2, m.has, fun j hj k hk => ?_, hn⟩
  obtain ⟨q, hq, e⟩ := List.getElem_of_mem hj
  have hx : h[h0.length + q]? = some (j, f) := by
    rw [h1, List.getElem?_append_right (by omega), List.getElem?_map]
    simp [List.getElem?_eq_getElem hq, e]
  exact m.done (h0.length + q) (by omega) (List.getElem?_eq_some_iff.1 hx).1 _ hx k hk
/-- The ways of one instruction. -/
theorem WaysF.one {F : Nat → Prop} {w : World} {A : Option Addr} {n : Nat} {W : List (List (Nat × Nat))} (h : WaysF F w A n W) {i : Nat} {ws : List (Nat × Nat)} (hw : W[i]? = some ws) : ∃ b o Aj nj cj, A = some ⟨b, o, none⟩ ∧ i < n ∧ w.cell? ⟨b, o + i, none⟩ = some (.slice Aj nj cj) ∧ RowW F w Aj nj ws := by
  have hi := (List.getElem?_eq_some_iff.1 hw).1
  obtain ⟨b, o, hA, _, _, hc⟩ := h.2 (by have := h.1; omega)
  obtain ⟨Aj, nj, cj, h1, h2⟩ := hc i ws hw
  exact ⟨b, o, Aj, nj, cj, hA, by have := h.1; omega, h1, h2⟩
theorem RowW.below {B s : Nat} {w w' : World} {A : Option Addr} {n : Nat} {ws : List (Nat × Nat)} (h : RowW (Fs B s) w A n ws) (hb : Below B w w') : RowW (Fs B s) w' A n ws := h.keep hb.size fun b hF _ => hb.block b hF.1
theorem RowW.one {F : Nat → Prop} {w : World} {A : Option Addr} {n : Nat} {ws : List (Nat × Nat)} (h : RowW F w A n ws) {j : Nat} {x : Nat × Nat} (hx : ws[j]? = some x) : ∃ b o, A = some ⟨b, o, none⟩ ∧ j < n ∧ w.cell? ⟨b, o + j * 2, none⟩ = some (.int .i64 (x.1 : Int)) ∧ w.cell? ⟨b, o + j * 2 + 1, none⟩ = some (.int .i64 (x.2 : Int)) := by
  have hj := (List.getElem?_eq_some_iff.1 hx).1
  obtain ⟨b, o, hA, _, _, hc⟩ := h.2 (by have := h.1.1; omega)
  obtain ⟨h1, h2⟩ := hc j x hx
  exact ⟨b, o, hA, by have := h.1.1; omega, h1, h2⟩
/-- Which ways of a part are open. -/
def openWs (p : List InstL) (m k : Nat) (ws : List (Nat × Nat)) : List Nat := (ws.filter fun w => match p[w.1]? with | some v => openA m k v.op | none => false).map Prod.snd
theorem openWs_snoc (p : List InstL) (m k : Nat) (ws : List (Nat × Nat)) (x : Nat × Nat) (v : InstL) (hv : p[x.1]? = some v) : openWs p m k (ws ++ [x]) = openWs p m k ws ++ if openA m k v.op then [x.2] else [] := by
  unfold openWs
  rw [List.filter_append, List.map_append]
  congr 1
  simp only [List.filter_cons, List.filter_nil, hv]
  cases openA m k v.op <;> rfl
theorem openWs_we {p : List InstL} {W : List (List (Nat × Nat))} {m k i : Nat} {ws : List (Nat × Nat)} (hw : W[i]? = some ws) (j : Nat) : j ∈ openWs p m k ws ↔ WE p W m k i j := by
  unfold openWs WE
  rw [List.mem_map]
  constructor
  · rintro ⟨⟨b, t⟩, h1, rfl⟩
    obtain ⟨h2, h3⟩ := List.mem_filter.1 h1
    cases hv : p[b]? with
    | none => simp only [hv] at h3; cases h3
    | some v => simp only [hv] at h3; exact ⟨ws, b, v, hw, h2, hv, h3⟩
  · rintro ⟨ws', b, v, h1, h2, h3, h4⟩
    rw [hw] at h1; injection h1 with h1; subst h1
    exact ⟨(b, j), List.mem_filter.2 ⟨h2, by simp only [h3]; exact h4⟩, rfl⟩
set_option maxHeartbeats 8000000 in
theorem meet_any {full : Prop} {B g mb : Nat} {e : WEnv} {w : World} {at_ : Nat} {here : List (Nat × Nat)} {last : SRow} {met : List Int} (h : WalkM full B g mb e w at_ here last met) (i f : Nat) (hi : i < e.n) :
    Calls Try.prog 45 #[.pointer (some ⟨g, 0, none⟩), .int .i64 (i : Int), .int .i64 (f : Int)] w fun en w' => en = .returned (.tuple #[]) ∧ ∃ here' met', WalkM full B g mb e w' at_ here' last met' ∧ Tch B g mb w w' ∧ MetIn at_ met met' ∧ (full → Met (WE e.p e.W e.T.size at_) here here' i f) := by
  obtain ⟨H, hn, hc, hC⟩ := h.s
  have c4 := hC.cells.2.2.2.2.1
  have hhl : here.length = hn := own_len hC.row
  have HA := Lib.hid (add_any h i f hi)
  have HS := Lib.hid (And.intro hC.win (And.intro hC.small hhl))
  clear hC h hhl
  go_enter Try.func45, Try.ntmps45
  go_wp2_with (go_at_call 75; (with_reducible refine HA.out.mono ?_); rintro en w1 ⟨rfl, here1, met1, hM, hT, hI, hA1⟩; have HM := Lib.hid (And.intro hM (And.intro hT (And.intro hI hA1))); clear hM hT hI hA1)
  go_loopw [6] (fun v6 wr => ∃ (next : Nat) (here' : List (Nat × Nat)) (met' : List Int), v6 = .int .i64 (next : Int) ∧ Hid (WalkM full B g mb e wr at_ here' last met' ∧ Tch B g mb w wr ∧ MetIn at_ met met' ∧ (full → Meeting (WE e.p e.W e.T.size at_) here here' i f next []))) (fun v6 _ => e.n - (intOf v6).toNat)
  case atStart => exact ⟨hn, here1, met1, rfl, Lib.hid ⟨HM.out.1, HM.out.2.1, HM.out.2.2.1, fun hf => by have := Meeting.begin (E := WE e.p e.W e.T.size at_) here i f; rw [HS.out.2.2, ← HM.out.2.2.2 hf] at this; exact this⟩⟩
  case round =>
    obtain ⟨next, here', met', rfl, H⟩ := hrel
    obtain ⟨H', hn', hc', hC⟩ := H.out.1.s
    have hhl := own_len hC.row
    have hle : here'.length ≤ e.n := here_len H.out.1.nodup H.out.1.inn
    have c4 := hC.cells.2.2.2.2.1
    by_cases hlt : next < hn'
    · obtain ⟨x, hx⟩ : ∃ x, here'[next]? = some x := ⟨_, List.getElem?_eq_getElem (by omega)⟩
      have hxn : x.1 < e.n := H.out.1.inn x (List.mem_of_getElem? hx)
      obtain ⟨ws, hws⟩ : ∃ ws, e.W[x.1]? = some ws := ⟨_, List.getElem?_eq_getElem (by have := hC.ways.1; omega)⟩
      have c2 := hC.cells.2.2.1
      obtain ⟨bh, rfl, _, _, _, s0, _, _⟩ := spot_at hC.row hx
      obtain ⟨bw, ow, Aj, nj, cj, hWA, _, w0, hrow⟩ := hC.ways.one hws
      rw [hWA] at c2
      have hx1 : (0 : Int) ≤ (x.1 : Int) := by omega
      have hx2 : (x.1 : Int) < (e.n : Int) := by omega
      have hn1 : (0 : Int) ≤ (next : Int) := by omega
      have hn2 : (next : Int) < (hn' : Int) := by omega
      have hnj : (nj : Int) ≤ 1000000 := by have := hrow.1.2; omega
      have hnb : (hn' : Int) ≤ 1000 := by have := hC.small.1; omega
      have HX := Lib.hid (And.intro hx (And.intro hws (And.intro hrow (And.intro hhl hle))))
      clear hC hx hws hrow hWA hhl hle
      go_wp2_with fail
      go_quiet (fail)
      go_wp2_with fail
      go_loopw [42] (fun v42 wq => ∃ (j : Nat) (here2 : List (Nat × Nat)) (met2 : List Int), v42 = .int .i64 (j : Int) ∧ j ≤ nj ∧ Hid (WalkM full B g mb e wq at_ here2 last met2 ∧ Tch B g mb w wq ∧ MetIn at_ met met2 ∧ (full → here2[next]? = some x) ∧ Below B wr wq ∧ (full → Meeting (WE e.p e.W e.T.size at_) here here2 i f next (openWs e.p e.T.size at_ (ws.take j))))) (fun v42 _ => nj - (intOf v42).toNat)
      case atStart => exact ⟨0, here', met', rfl, Nat.zero_le _, Lib.hid ⟨H.out.1.below (below_drewN (Below.refl _ _) _), H.out.2.1.drewN _, H.out.2.2.1, fun _ => HX.out.1, below_drewN (Below.refl _ _) _, fun hf => H.out.2.2.2 hf⟩⟩
      case round =>
        obtain ⟨j, here2, met2, rfl, hj, H2⟩ := hrel
        by_cases hlj : j < nj
        · obtain ⟨y, hy⟩ : ∃ y, ws[j]? = some y := ⟨_, List.getElem?_eq_getElem (by have := HX.out.2.2.1.1.1; omega)⟩
          obtain ⟨H3, hn3, hc3, hC⟩ := H2.out.1.s
          obtain ⟨ba, oa, rfl, _, y0, y1⟩ := (HX.out.2.2.1.below H2.out.2.2.2.2.1).one hy
          have hyn := hC.win.2 _ _ HX.out.2.1 y.1 y.2 (List.mem_of_getElem? hy)
          have hpl : e.p.length = e.n := by unfold WEnv.p; rw [List.length_map]; exact hC.ins.1
          rw [hpl] at hyn
          obtain ⟨v, hv⟩ : ∃ v, e.l[y.1]? = some v := ⟨_, List.getElem?_eq_getElem (by have := hC.ins.1; omega)⟩
          have hpv : e.p[y.1]? = some v.i := by unfold WEnv.p; rw [List.getElem?_map, hv]; rfl
          have hbX : Below wr.heap.size wr (wr.alloc (.cells #[.int .i64 (y.1 : Int), .int .i64 (y.2 : Int)] 123)) := (Below.refl _ _).alloc (Nat.le_refl _) _
          have hCX := hC.below hbX
          have hMX := H2.out.1.below hbX
          have hTX : Tch B g mb wr (wr.alloc (.cells #[.int .i64 (y.1 : Int), .int .i64 (y.2 : Int)] 123)) := Tch.of_below hbX (by have := hC.lt; have := hC.hB; omega) hC.lt.1
          have b0 := cell_of_row _ wr.heap.size 0 _ _ (0, 0) (heap_alloc_new wr (.cells #[.int .i64 (y.1 : Int), .int .i64 (y.2 : Int)] 123))
          have b1 := cell_of_row _ wr.heap.size 1 _ _ (0, 0) (heap_alloc_new wr (.cells #[.int .i64 (y.1 : Int), .int .i64 (y.2 : Int)] 123))
          have hlX : wr.heap.size < (wr.alloc (.cells #[.int .i64 (y.1 : Int), .int .i64 (y.2 : Int)] 123)).heap.size := by simp
          have hj1 : (0 : Int) ≤ (j : Int) := by omega
          have hj2 : (j : Int) < (nj : Int) := by omega
          have HY := Lib.hid (And.intro hy (And.intro hyn (And.intro hv (And.intro hpv hTX))))
          clear hC hbX hy hv hpv hTX hpl
          go_wp2_with fail
          generalize wr.alloc (.cells #[.int .i64 (y.1 : Int), .int .i64 (y.2 : Int)] 123) = X at hCX hMX b0 b1 hlX HY ⊢
          generalize wr.heap.size = nb at hlX b0 b1 ⊢
          obtain ⟨bi, oi, hA, _, _, _, d0, _⟩ := hCX.ins.one HY.out.2.2.1
          have c0 := hCX.cells.1
          rw [hA] at c0
          have hgl := hCX.lt.1
          have hbl : bi < X.heap.size := World.block_lt_of_cell? X _ d0
          have k0 : ∀ w', Below X.heap.size X w' → w'.cell? ⟨g, 0, none⟩ = some (.slice (some ⟨bi, oi, none⟩) e.n e.c) := fun w' hb => (hb.cell (p := ⟨g, 0, none⟩) hgl).trans c0
          have k1 : ∀ w', Below X.heap.size X w' → w'.cell? ⟨nb, 0, none⟩ = some (.int .i64 (y.1 : Int)) := fun w' hb => (hb.cell (p := ⟨nb, 0, none⟩) hlX).trans b0
          have k2 : ∀ w', Below X.heap.size X w' → w'.cell? ⟨bi, oi + y.1 * 4, none⟩ = some (.int .i64 v.i.op) := fun w' hb => (hb.cell (p := ⟨bi, oi + y.1 * 4, none⟩) hbl).trans d0
          have HO := Lib.hid fun (w' : World) (hb : Below X.heap.size X w') => (isOpen_any (hMX.s.below hb) v.i.op).mono (R' := fun en w'' => en = .returned (.bool (openA e.T.size at_ v.i.op)) ∧ Below X.heap.size X w'') fun en w'' ⟨h1, q, h2⟩ => ⟨h1, by rw [h2]; exact below_drewN hb q⟩
          have hy1 : (0 : Int) ≤ (y.1 : Int) := by omega
          have hy2 : (y.1 : Int) < (e.n : Int) := by have := HY.out.2.1.1; omega
          have hbr : Below X.heap.size X X.drew := (Below.refl _ _).drew
          have k3 : ∀ w', Below X.heap.size X w' → w'.cell? ⟨nb, 1, none⟩ = some (.int .i64 (y.2 : Int)) := fun w' hb => (hb.cell (p := ⟨nb, 1, none⟩) hlX).trans b1
          have K3 := Lib.hid k3
          clear hCX hA c0 d0 hgl hbl hlX y0 y1 k3 b0 b1
          obtain ⟨ob, hob⟩ : ∃ ob, ob = openA e.T.size at_ v.i.op := ⟨_, rfl⟩
          rw [← hob] at HO
          have HOB := Lib.hid hob
          clear hob
          go_region_held (fun w' => Below X.heap.size X w') (assumption) (first
            | (go_at_call 76; (with_reducible refine (HO.out _ (by assumption)).mono ?_); rintro en w' ⟨rfl, hb'⟩))
          have hbw : Below X.heap.size X w' := by assumption
          have hMw := hMX.below hbw
          have hTw : Tch B g mb w w' := H2.out.2.1.trans (HY.out.2.2.2.2.trans (Tch.of_below hbw (by obtain ⟨_, _, _, hq⟩ := hMX.s; have := hq.lt; have := hq.hB; omega) (by obtain ⟨_, _, _, hq⟩ := hMX.s; exact hq.lt.1)))
          have hbB : Below B wr w' := HY.out.2.2.2.2.1.trans (hbw.mono (by obtain ⟨_, _, _, hq⟩ := hMX.s; have := hq.lt; have := hq.hB; omega))
          have htk : ws.take (j + 1) = ws.take j ++ [y] := by rw [List.take_add_one, HY.out.1]; rfl
          have hsn := openWs_snoc e.p e.T.size at_ (ws.take j) y v.i HY.out.2.2.2.1
          rw [← htk, ← HOB.out] at hsn
          cases ob with
          | true =>
            have e3 := K3.out w' hbw
            have HAd := Lib.hid (add_any hMw y.2 f HY.out.2.1.2)
            have HSN := Lib.hid (And.intro hsn (And.intro hTw hbB))
            clear hsn hTw hbB htk hbw hMw k0 k1 k2 hbr
            go_wp2_with (go_at_call 75; (with_reducible refine HAd.out.mono ?_); rintro en w5 ⟨rfl, here5, met5, hM5, hT5, hI5, hA5⟩; have H5 := Lib.hid (And.intro hM5 (And.intro hT5 (And.intro hI5 hA5))); clear hM5 hT5 hI5 hA5)
            refine ⟨⟨j + 1, here5, met5, rfl, hlj, Lib.hid ⟨H5.out.1, HSN.out.2.1.trans H5.out.2.1, H2.out.2.2.1.trans H5.out.2.2.1, fun hf => ?_, H2.out.2.2.2.2.1.trans (HSN.out.2.2.trans H5.out.2.1.1), fun hf => ?_⟩⟩, by simp [intOf]; omega⟩
            · rw [H5.out.2.2.2 hf]
              obtain ⟨t, ht, _⟩ := addH_pre here2 y.2 f
              rw [ht, List.getElem?_append_left (List.getElem?_eq_some_iff.1 (H2.out.2.2.2.1 hf)).1]
              exact H2.out.2.2.2.1 hf
            · rw [HSN.out.1, H5.out.2.2.2 hf]
              exact (H2.out.2.2.2.2.2 hf).add (H2.out.2.2.2.1 hf) ⟨ws, y.1, v.i, HX.out.2.1, List.mem_of_getElem? HY.out.1, HY.out.2.2.2.1, HOB.out.symm⟩
          | false =>
            have HSN := Lib.hid (And.intro hsn (And.intro hTw (And.intro hbB hMw)))
            clear hsn hTw hbB htk hbw hMw k0 k1 k2 hbr
            go_wp2
            refine ⟨⟨j + 1, here2, met2, rfl, hlj, Lib.hid ⟨HSN.out.2.2.2, HSN.out.2.1, H2.out.2.2.1, H2.out.2.2.2.1, H2.out.2.2.2.2.1.trans HSN.out.2.2.1, fun hf => ?_⟩⟩, by simp [intOf]; omega⟩
            rw [HSN.out.1]
            simpa using H2.out.2.2.2.2.2 hf
        · obtain rfl : j = nj := by omega
          go_wp2
          refine ⟨⟨next + 1, here2, met2, rfl, Lib.hid ⟨H2.out.1, H2.out.2.1, H2.out.2.2.1, fun hf => (H2.out.2.2.2.2.2 hf).next (H2.out.2.2.2.1 hf) fun k hk => ?_⟩⟩, ?_⟩
          · rw [List.take_of_length_le (by rw [HX.out.2.2.1.1.1]; exact Nat.le_refl _)]
            exact (openWs_we HX.out.2.1 k).2 hk
          · simp [intOf]
            have := HX.out.2.2.2.1
            have := HX.out.2.2.2.2
            omega
    · have hnl : ¬ (next : Int) < (hn' : Int) := by omega
      have HH := Lib.hid (And.intro hhl hlt)
      clear hC hhl hle hlt
      go_wp2
      go_end0
      refine ⟨rfl, here', met', H.out.1, H.out.2.1, H.out.2.2.1, fun hf => ?_⟩
      have hm := H.out.2.2.2 hf
      have he : next = here'.length := by have := hm.hi; have := HH.out.1; have := HH.out.2; omega
      rw [he] at hm
      exact hm.over H.out.1.nodup
end Go.Proofs.Ytegcebgoiocakaa
/- Contracts of math/bits that the library proves over any program, laid at this one. -/
namespace Go.Proofs
open Go.Shelf
def Try.lays126_ren : Go.Shelf.Ren := ⟨fun | 126 => 103 | n => n, fun | 5 => 5 | 3 => 3 | 9 => 9 | n => n, fun | n => n⟩
theorem Try.lays126 : Go.Proofs.Lays.n126 Try.prog Try.lays126_ren := {
  mixed := by kernel_rfl
  f126 := Try.func103.trans (congrArg some (by kernel_rfl))
  t3 := Try.underlying3
  a3 := Try.isAgg3
  z3 := Try.sizeOf3
  v3 := Try.zeroValue3
  t5 := Try.underlying5
  a5 := Try.isAgg5
  z5 := Try.sizeOf5
  v5 := Try.zeroValue5
  t9 := Try.underlying9
  a9 := Try.isAgg9
  z9 := Try.sizeOf9
  v9 := Try.zeroValue9 }
/-- How many bits. -/
theorem Try.bits_Len8 (x : Int) (w : World) (h0 : 0 ≤ x) (h1 : x ≤ 255) :
    Calls Try.prog 103 #[.int .u8 x] w fun e w' => e = .returned (.int .i64 (Lib.bitLen x.toNat)) ∧ w' = w := Any.bits_Len8 Try.lays126 x w h0 h1
def Try.lays131_ren : Go.Shelf.Ren := ⟨fun | 131 => 93 | 126 => 103 | n => n, fun | 5 => 5 | 3 => 3 | 9 => 9 | n => n, fun | n => n⟩
theorem Try.lays131 : Go.Proofs.Lays.n131 Try.prog Try.lays131_ren := {
  mixed := by kernel_rfl
  f126 := Try.func103.trans (congrArg some (by kernel_rfl))
  f131 := Try.func93.trans (congrArg some (by kernel_rfl))
  t3 := Try.underlying3
  a3 := Try.isAgg3
  z3 := Try.sizeOf3
  v3 := Try.zeroValue3
  t5 := Try.underlying5
  a5 := Try.isAgg5
  z5 := Try.sizeOf5
  v5 := Try.zeroValue5
  t9 := Try.underlying9
  a9 := Try.isAgg9
  z9 := Try.sizeOf9
  v9 := Try.zeroValue9 }
/-- How many zero bits lead. -/
theorem Try.bits_LeadingZeros8 (x : Int) (w : World) (h0 : 0 ≤ x) (h1 : x ≤ 255) :
    Calls Try.prog 93 #[.int .u8 x] w fun e w' => e = .returned (.int .i64 (8 - (Lib.bitLen x.toNat : Int))) ∧ w' = w := Any.bits_LeadingZeros8 Try.lays131 x w h0 h1
end Go.Proofs
