/- The decoder: New, Write, Close, Kind, Text. -/
import Derived.Test.YtoojfjealncddaaDoorTellU
namespace Go.Proofs.YtoojfjealncddaaDoor
open Go Go.RowKit
set_option linter.unusedVariables false

/-- The decoder in block g holds xs. -/
def Dec (w : World) (g : Nat) (k : Int) (cl : Bool) (xs : List Int) : Prop :=
  ∃ v, DecAt w g k v cl ∧ w.ownsRow (g + 1) 5 1 v xs.length (xs.map (Value.int .u8)) ∧ (∀ c ∈ xs, 0 ≤ c ∧ c < 256) ∧ 0 ≤ k ∧ k ≤ 3
/-- What is told of what is held, and what is held then. -/
def TellR (k : Int) (cl : Bool) (xs : List Int) (k' : Int) (out rest : List Int) : Prop :=
  (k = 0 ∧ cl = false ∧ sureI xs = false ∧ k' = 0 ∧ out = [] ∧ rest = xs) ∨
  (k = 0 ∧ (cl = true ∨ sureI xs = true) ∧ k' = kindI xs ∧ Pour k' cl (xs.drop (markI xs).2.toNat) out rest) ∨
  (k ≠ 0 ∧ k' = k ∧ Pour k cl xs out rest)
/-- The text of octets. -/
def TextR (k : Int) (xs out : List Int) : Prop :=
  (k = 0 ∧ Pour (kindI xs) true (xs.drop (markI xs).2.toNat) out []) ∨ ((k = 1 ∨ k = 2 ∨ k = 3) ∧ Pour k true xs out []) ∨ ((k < 0 ∨ 3 < k) ∧ out = [])
theorem TextR.one {k : Int} {xs o o' : List Int} (h : TextR k xs o) (h' : TextR k xs o') : o = o' := by
  rcases h with ⟨h1, h2⟩ | ⟨h1, h2⟩ | ⟨h1, h2⟩ <;> rcases h' with ⟨h3, h4⟩ | ⟨h3, h4⟩ | ⟨h3, h4⟩ <;> first | omega | exact (h2.one h4).1 | exact h2.trans h4.symm
theorem TextR.byte {k : Int} {xs o : List Int} (h : TextR k xs o) : ∀ c ∈ o, 0 ≤ c ∧ c < 256 := by
  rcases h with ⟨h1, h2⟩ | ⟨h1, h2⟩ | ⟨h1, h2⟩
  · exact h2.byte
  · exact h2.byte
  · rw [h2]; simp
theorem TextR.size {k : Int} {xs o : List Int} (h : TextR k xs o) : o.length ≤ 4 * xs.length := by
  rcases h with ⟨h1, h2⟩ | ⟨h1, h2⟩ | ⟨h1, h2⟩
  · have := (h2.size (kindI_or xs)).1
    rw [List.length_drop] at this
    omega
  · exact (h2.size h1).1
  · rw [h2]; simp
theorem TellR.kind {k : Int} {cl : Bool} {xs out rest : List Int} {k' : Int} (h : TellR k cl xs k' out rest) (h0 : 0 ≤ k) (h3 : k ≤ 3) : 0 ≤ k' ∧ k' ≤ 3 := by
  rcases h with h | h | h
  · omega
  · have := kindI_or xs; omega
  · omega
theorem TellR.byte {k : Int} {cl : Bool} {xs out rest : List Int} {k' : Int} (h : TellR k cl xs k' out rest) (hb : ∀ c ∈ xs, 0 ≤ c ∧ c < 256) : (∀ c ∈ rest, 0 ≤ c ∧ c < 256) ∧ (∀ c ∈ out, 0 ≤ c ∧ c < 256) := by
  rcases h with ⟨_, _, _, _, h1, h2⟩ | ⟨_, _, _, h⟩ | ⟨_, _, h⟩
  · rw [h1, h2]; exact ⟨hb, by simp⟩
  · obtain ⟨d, hd⟩ := h.rest
    exact ⟨fun c hc => hb c (List.mem_of_mem_drop (List.mem_of_mem_drop (hd ▸ hc))), h.byte⟩
  · obtain ⟨d, hd⟩ := h.rest
    exact ⟨fun c hc => hb c (List.mem_of_mem_drop (hd ▸ hc)), h.byte⟩
theorem TellR.size {k : Int} {cl : Bool} {xs out rest : List Int} {k' : Int} (h : TellR k cl xs k' out rest) (h0 : 0 ≤ k) (h3 : k ≤ 3) : out.length ≤ 4 * xs.length ∧ rest.length ≤ xs.length := by
  rcases h with ⟨_, _, _, _, h1, h2⟩ | ⟨_, _, h1, h⟩ | ⟨_, _, h⟩
  · rw [h1, h2]; simp
  · have := h.size (by rw [h1]; exact kindI_or xs)
    rw [List.length_drop] at this
    omega
  · exact h.size (by omega)
/-- Written, then closed: the text. -/
theorem TellR.text {k : Int} {xs o r o2 r2 : List Int} {k' k2 : Int} (h : TellR k false xs k' o r) (h' : TellR k' true r k2 o2 r2) (h0 : 0 ≤ k) (h3 : k ≤ 3) : TextR k xs (o ++ o2) := by
  rcases h with ⟨h1, _, _, rfl, rfl, rfl⟩ | ⟨h1, _, h2, h⟩ | ⟨h1, rfl, h⟩
  · rcases h' with ⟨_, h, _⟩ | ⟨_, _, h2, h⟩ | ⟨h2, _⟩
    · cases h
    · subst h2
      have := h.all (kindI_or r)
      subst this
      exact .inl ⟨h1, h⟩
    · exact absurd rfl h2
  · subst h2
    have hk := kindI_or xs
    rcases h' with ⟨_, h', _⟩ | ⟨h2, _⟩ | ⟨_, rfl, h'⟩
    · cases h'
    · omega
    · have := h'.all hk
      subst this
      exact .inl ⟨h1, h.two h'⟩
  · have hk : k' = 1 ∨ k' = 2 ∨ k' = 3 := by omega
    rcases h' with ⟨_, h', _⟩ | ⟨h2, _⟩ | ⟨_, rfl, h'⟩
    · cases h'
    · omega
    · have := h'.all hk
      subst this
      exact .inr (.inl ⟨hk, h.two h'⟩)

theorem Marks.kept {w w' : World} (h : Marks w) {g : Nat} (hg : 0 < g) (hb : Below g w w') : Marks w' := by
  obtain ⟨h0, h1, h2, h3, h4, h5, h6⟩ := h
  have e : ∀ j, w'.cell? ⟨0, j, none⟩ = w.cell? ⟨0, j, none⟩ := fun j => hb.cell (p := ⟨0, j, none⟩) hg
  exact ⟨Nat.lt_of_lt_of_le h0 hb.size, by rw [e, h1], by rw [e, h2], by rw [e, h3], by rw [e, h4], by rw [e, h5], by rw [e, h6]⟩

/-- An own row's shape: where it lies, and that nil is empty. -/
theorem own_shape {w : World} {B : Nat} {v : Value} {xs : List Int} (h : w.ownsRow B 5 1 v xs.length (xs.map (Value.int .u8))) :
    ∃ A c, v = .slice A xs.length c ∧ RowI .u8 w A xs.length xs ∧ Above B A ∧ (A = none → xs.length = 0 ∧ c = 0) ∧ xs.length ≤ c ∧ c ≤ maxLen := by
  obtain ⟨A, c, hv, hr, h1, h2⟩ := row_of_own h
  refine ⟨A, c, hv, hr, ?_, ?_, h1, h2⟩
  · intro a ha
    rcases h.2 with ⟨h3, _⟩ | ⟨b, cap, cur, h3, hb, _⟩
    · rw [hv] at h3; injection h3 with h4; rw [h4] at ha; cases ha
    · rw [hv] at h3; injection h3 with h4; rw [h4] at ha; injection ha with ha; rw [← ha]; exact hb
  · intro ha
    rcases h.2 with ⟨h3, h4⟩ | ⟨b, cap, cur, h3, hb, _⟩
    · rw [hv] at h3; injection h3 with h5 h6 h7; exact ⟨h4, h7⟩
    · rw [hv, ha] at h3; injection h3 with h4; cases h4

/-- WHAT tell DOES. -/
theorem tell_any (g : Nat) (k : Int) (cl : Bool) (xs : List Int) (w : World) (hm : Marks w) (hd : Dec w g k cl xs) (hx : xs.length ≤ 2000) :
    Calls Tryd.prog 25 #[.pointer (some ⟨g, 0, none⟩)] w fun e w' => ∃ k' out rest, e = .returned (.string (strOfNums out)) ∧ TellR k cl xs k' out rest ∧ Dec w' g k' cl rest ∧ Below g w w' := by
  obtain ⟨v, hda, hown, hby, hk0, hk3⟩ := hd
  have hgl := hda.lt
  have hown0 := hown
  obtain ⟨A, c, rfl, hr, hab, hnil, hcap, hcm⟩ := own_shape hown
  have fin : ∀ (k' : Int) (out rest : List Int) (v' : Value) (w' : World), (TellR k cl xs k' out rest) → DecAt w' g k' v' cl → w'.ownsRow (g + 1) 5 1 v' rest.length (rest.map (Value.int .u8)) → Below g w w' →
      (TellR k cl xs k' out rest ∧ Dec w' g k' cl rest ∧ Below g w w') := fun k' out rest v' w' h1 h2 h3 h4 =>
    ⟨h1, ⟨v', h2, h3, (h1.byte hby).1, (h1.kind hk0 hk3).1, (h1.kind hk0 hk3).2⟩, h4⟩
  by_cases h0 : k = 0
  · subst h0
    by_cases hs : cl = true ∨ sureI xs = true
    · have hset := settle_do g A xs.length c xs cl w hm hda hr hab hby hcap hcm hs
      have hmb := markI_bounds xs
      have hlen : (xs.drop (markI xs).2.toNat).length = xs.length - (markI xs).2.toNat := List.length_drop ..
      have hset' : Calls Tryd.prog 27 #[.pointer (some ⟨g, 0, none⟩)] w fun e w1 => e = .returned (.tuple #[]) ∧
          ∃ A n c, DecAt w1 g (kindI xs) (.slice A n c) cl ∧ RowI .u8 w1 A n (xs.drop (markI xs).2.toNat) ∧ Above (g + 1) A ∧ (A = none → n = 0 ∧ c = 0) ∧ n ≤ c ∧ c ≤ maxLen ∧ Below g w w1 :=
        hset.mono fun e w1 ⟨he, A', q1, q2, q3, q4, q5⟩ => ⟨he, A', _, _, q1, q2, q3, (fun h => by have := hnil (q4 h); omega), by omega, by omega, q5⟩
      have hby' : ∀ c ∈ xs.drop (markI xs).2.toNat, 0 ≤ c ∧ c < 256 := fun c hc => hby c (List.mem_of_mem_drop hc)
      rcases kindI_or xs with h1 | h1
      · exact (tell_pour g (kindI xs) h1 cl _ w hby' (by omega) hset').mono fun e w' ⟨out, rest, v', he, hp, q1, q2, q3⟩ =>
          ⟨_, out, rest, he, fin _ _ _ _ _ (.inr (.inl ⟨rfl, hs, rfl, hp⟩)) q1 q2 q3⟩
      · exact (tell_unit g (kindI xs) h1 cl _ w hby' (by omega) hset').mono fun e w' ⟨out, rest, v', he, hp, q1, q2, q3⟩ =>
          ⟨_, out, rest, he, fin _ _ _ _ _ (.inr (.inl ⟨rfl, hs, rfl, hp⟩)) q1 q2 q3⟩
    · have hcl : cl = false := by cases cl with | false => rfl | true => exact absurd (.inl rfl) hs
      have hsu : sureI xs = false := by cases h : sureI xs with | false => rfl | true => exact absurd (.inr h) hs
      subst hcl
      exact (tell_wait g _ false w hda (settle_wait g A xs.length c xs w hm hda hr hby hcap hcm hsu)).mono fun e w' ⟨he, hb⟩ =>
        ⟨0, [], xs, he, fin _ _ _ _ _ (.inl ⟨rfl, rfl, hsu, rfl, rfl, rfl⟩) (hda.below hb hgl) (own_below hown0 hb) (Below.mono hb (Nat.le_of_lt hgl))⟩
  · have hset' : Calls Tryd.prog 27 #[.pointer (some ⟨g, 0, none⟩)] w fun e w1 => e = .returned (.tuple #[]) ∧
        ∃ A n c, DecAt w1 g k (.slice A n c) cl ∧ RowI .u8 w1 A n xs ∧ Above (g + 1) A ∧ (A = none → n = 0 ∧ c = 0) ∧ n ≤ c ∧ c ≤ maxLen ∧ Below g w w1 :=
      (settle_kind g k _ cl w hda h0).mono fun e w1 ⟨he, hw⟩ => ⟨he, A, _, c, by rw [hw]; exact hda, by rw [hw]; exact hr, hab, hnil, hcap, hcm, by rw [hw]; exact Below.refl _ _⟩
    by_cases h1 : k = 1
    · exact (tell_pour g k h1 cl xs w hby hx hset').mono fun e w' ⟨out, rest, v', he, hp, q1, q2, q3⟩ =>
        ⟨_, out, rest, he, fin _ _ _ _ _ (.inr (.inr ⟨h0, rfl, hp⟩)) q1 q2 q3⟩
    · exact (tell_unit g k (by omega) cl xs w hby hx hset').mono fun e w' ⟨out, rest, v', he, hp, q1, q2, q3⟩ =>
        ⟨_, out, rest, he, fin _ _ _ _ _ (.inr (.inr ⟨h0, rfl, hp⟩)) q1 q2 q3⟩
end Go.Proofs.YtoojfjealncddaaDoor
