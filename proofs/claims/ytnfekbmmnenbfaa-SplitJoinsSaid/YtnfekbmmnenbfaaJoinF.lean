/- Records, with what is between them, are the text. -/
import Derived.Test.YtnfekbmmnenbfaaLawSLong
namespace Go.Proofs.Ytnfekbmmnenbfaa
open Go Go.RowKit
set_option linter.unusedVariables false

/-- The record r, number k, begins at p; the next one would begin at p'. -/
def Step1 (xs : List Int) (k p : Nat) (r : RecL) (p' : Nat) : Prop :=
  r.num = k ∧ r.pos = p ∧ r.text = (xs.drop p).take r.text.length ∧ p + r.text.length ≤ xs.length ∧ (∀ c ∈ r.text, c ≠ 10) ∧
    ((p + r.text.length + 1 < xs.length ∧ xs.getD (p + r.text.length) 0 = 13 ∧ xs.getD (p + r.text.length + 1) 0 = 10 ∧ p' = p + r.text.length + 2) ∨
      (p + r.text.length < xs.length ∧ xs.getD (p + r.text.length) 0 = 10 ∧ p' = p + r.text.length + 1) ∨ (p + r.text.length = xs.length ∧ p' = xs.length))
def Steps (xs : List Int) : Nat → Nat → List RecL → Nat → Nat → Prop
  | k, p, [], k', p' => k' = k ∧ p' = p
  | k, p, r :: rs, k', p' => ∃ p1, Step1 xs k p r p1 ∧ Steps xs (k + 1) p1 rs k' p'
theorem Steps.snoc {xs : List Int} : ∀ {rs : List RecL} {k p k' p' : Nat}, Steps xs k p rs k' p' → ∀ {r : RecL} {p2 : Nat}, Step1 xs k' p' r p2 → Steps xs k p (rs ++ [r]) (k' + 1) p2
  | [], k, p, k', p', ⟨h1, h2⟩, r, p2, h => by
    subst h1; subst h2
    exact ⟨p2, h, rfl, rfl⟩
  | r0 :: rs, k, p, k', p', ⟨p1, h1, h2⟩, r, p2, h => ⟨p1, h1, Steps.snoc h2 h⟩

theorem joins_at (M : Nat) (xs : List Int) (hM : xs.length ≤ M) : ∀ i, i ≤ xs.length → Steps xs 0 0 (scanR M (xs.take i) scan0).recs (scanR M (xs.take i) scan0).recs.length (scanR M (xs.take i) scan0).pos ∧ ∀ c ∈ (scanR M (xs.take i) scan0).cur, c ≠ 10
  | 0, _ => ⟨⟨rfl, rfl⟩, by simp [scanR, scan0]⟩
  | i + 1, hi => by
    obtain ⟨h1, h2⟩ := joins_at M xs hM i (by omega)
    have hs := scan_free M xs hM i (by omega)
    have hi' : i < xs.length := by omega
    generalize scanR M (xs.take i) scan0 = st at h1 h2 hs
    by_cases hc : xs.getD i 0 = 10
    · have hto := hs.to_le
      have hn := hs.line hi' hc (by have := hs.2.2.2.1; omega)
      have hch := hs.chop
      rw [← hn.1]
      refine ⟨?_, by simp⟩
      show Steps xs 0 0 (st.recs ++ [_]) (st.recs ++ [_]).length (i + 1)
      rw [List.length_append]
      refine h1.snoc ?_
      have hl : ((xs.drop st.pos).take (toR xs st.pos i - st.pos)).length = toR xs st.pos i - st.pos := by
        rw [List.length_take, List.length_drop]; omega
      have hadd : st.pos + (toR xs st.pos i - st.pos) = toR xs st.pos i := by omega
      refine ⟨rfl, rfl, ?_, ?_, ?_, ?_⟩
      · show _ = (xs.drop st.pos).take ((xs.drop st.pos).take (toR xs st.pos i - st.pos)).length
        rw [hl]
      · show st.pos + ((xs.drop st.pos).take _).length ≤ _
        rw [hl]; omega
      · intro c hcm
        rw [← hch] at hcm
        unfold Go.Proofs.Ytnfekbmmnenbfaa.chop at hcm
        split at hcm
        · exact h2 c (List.dropLast_subset _ hcm)
        · exact h2 c hcm
      · show (st.pos + ((xs.drop st.pos).take _).length + 1 < _ ∧ xs.getD (st.pos + ((xs.drop st.pos).take _).length) 0 = 13 ∧ xs.getD (st.pos + ((xs.drop st.pos).take _).length + 1) 0 = 10 ∧ i + 1 = st.pos + ((xs.drop st.pos).take _).length + 2) ∨ (st.pos + ((xs.drop st.pos).take _).length < _ ∧ xs.getD (st.pos + ((xs.drop st.pos).take _).length) 0 = 10 ∧ i + 1 = st.pos + ((xs.drop st.pos).take _).length + 1) ∨ _
        rw [hl, hadd]
        by_cases hcr : st.pos < i ∧ xs.getD (i - 1) 0 = 13
        · have e : toR xs st.pos i = i - 1 := by unfold toR; rw [if_pos hcr]
          rw [e]
          refine .inl ⟨by omega, hcr.2, ?_, by omega⟩
          rw [show i - 1 + 1 = i by omega]
          exact hc
        · have e : toR xs st.pos i = i := by unfold toR; rw [if_neg hcr]
          rw [e]
          exact .inr (.inl ⟨hi', hc, rfl⟩)
    · have hn := hs.other hi' hc
      rw [← hn.1]
      refine ⟨h1, fun c hcm => ?_⟩
      rcases List.mem_append.1 hcm with hcm | hcm
      · exact h2 c hcm
      · rw [List.mem_singleton.1 hcm]; exact hc

/-- All of them. -/
theorem joins_all (M : Nat) (xs : List Int) (hM : xs.length ≤ M) : (allR M xs true).2.1 = 0 ∧ Steps xs 0 0 (allR M xs true).1 (allR M xs true).1.length xs.length := by
  have hs := scan_free M xs hM xs.length (Nat.le_refl _)
  obtain ⟨h1, h2⟩ := joins_at M xs hM xs.length (Nat.le_refl _)
  rw [List.take_length] at hs h1 h2
  have hcl := hs.cur_length
  have hple := hs.2.2.1
  have hle := chop_le (scanR M xs scan0).cur
  have hgM : Good M (scanR M xs scan0) := ⟨hs.2.1, by omega⟩
  have hcur : (scanR M xs scan0).cur = xs.drop (scanR M xs scan0).pos := by
    have := hs.2.2.2.2.1
    rw [List.take_length] at this
    exact this
  rw [allR_end hgM, if_neg (show ¬ M < (scanR M xs scan0).cur.length by omega)]
  generalize scanR M xs scan0 = st at h1 h2 hcl hcur hple
  refine ⟨rfl, ?_⟩
  by_cases h0 : 0 < st.cur.length
  · rw [if_pos (show 0 < st.cur.length ∧ st.cur.length ≤ M by omega)]
    show Steps xs 0 0 (st.recs ++ [_]) (st.recs ++ [_]).length _
    rw [List.length_append]
    refine h1.snoc ⟨rfl, rfl, ?_, ?_, h2, .inr (.inr ⟨?_, rfl⟩)⟩
    · show st.cur = (xs.drop st.pos).take st.cur.length
      rw [← hcur, List.take_length]
    · show st.pos + st.cur.length ≤ _
      omega
    · show st.pos + st.cur.length = _
      omega
  · rw [if_neg (show ¬ (0 < st.cur.length ∧ st.cur.length ≤ M) by omega)]
    show Steps xs 0 0 (st.recs ++ []) (st.recs ++ []).length _
    rw [List.append_nil]
    rw [show xs.length = st.pos by omega]
    exact h1
end Go.Proofs.Ytnfekbmmnenbfaa
