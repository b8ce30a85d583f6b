/- A smaller limit: the same records, or those ahead of the first one that is longer. -/
import Derived.Test.YtnfekbmmnenbfaaLawSAll
namespace Go.Proofs.Ytnfekbmmnenbfaa
open Go Go.RowKit
set_option linter.unusedVariables false

/-- Behind the same octets: the reading s with the limit m, the reading S with a limit that all keep. -/
def Rel (m : Nat) (s S : ScanS) : Prop :=
  (∀ r ∈ s.recs, r.text.length ≤ m) ∧ ((s = S ∧ s.over = false) ∨ (s.over = true ∧ s.recs.length < S.recs.length ∧ S.recs.take s.recs.length = s.recs ∧ m < (S.recs.getD s.recs.length recNone).text.length))
theorem Rel.zero (m : Nat) : Rel m scan0 scan0 := ⟨by simp [scan0], .inl ⟨rfl, rfl⟩⟩
theorem Rel.step {m M : Nat} {s S : ScanS} (h : Rel m s S) (hS : S.over = false) (hmM : m ≤ M) (hM : (chop S.cur).length ≤ M) (c : Int) : Rel m (stepR m s c) (stepR M S c) := by
  obtain ⟨h1, ⟨rfl, h2⟩ | ⟨h2, h3, h4, h5⟩⟩ := h
  · by_cases hc : c = 10
    · have e1 : stepR M s c = ⟨s.recs ++ [⟨s.recs.length, s.pos, chop s.cur⟩], s.pos + s.cur.length + 1, [], false⟩ := by
        unfold stepR
        rw [if_neg (by rw [h2]; decide), if_pos hc, if_pos hM]
      by_cases hm : (chop s.cur).length ≤ m
      · have e2 : stepR m s c = ⟨s.recs ++ [⟨s.recs.length, s.pos, chop s.cur⟩], s.pos + s.cur.length + 1, [], false⟩ := by
          unfold stepR
          rw [if_neg (by rw [h2]; decide), if_pos hc, if_pos hm]
        rw [e1, e2]
        refine ⟨fun r hr => ?_, .inl ⟨rfl, rfl⟩⟩
        rcases List.mem_append.1 hr with hr | hr
        · exact h1 r hr
        · rw [List.mem_singleton.1 hr]; exact hm
      · have e2 : stepR m s c = ⟨s.recs, s.pos, s.cur, true⟩ := by
          unfold stepR
          rw [if_neg (by rw [h2]; decide), if_pos hc, if_neg hm]
        rw [e1, e2]
        refine ⟨h1, .inr ⟨rfl, ?_, ?_, ?_⟩⟩
        · show s.recs.length < (s.recs ++ [_]).length
          rw [List.length_append]; exact Nat.lt_succ_self _
        · show (s.recs ++ [_]).take s.recs.length = s.recs
          rw [List.take_left']; rfl
        · show m < (((s.recs ++ [_]).getD s.recs.length recNone).text).length
          simp [List.getD]
          omega
    · have e : ∀ k, stepR k s c = ⟨s.recs, s.pos, s.cur ++ [c], false⟩ := by
        intro k
        unfold stepR
        rw [if_neg (by rw [h2]; decide), if_neg hc]
      rw [e, e]
      exact ⟨h1, .inl ⟨rfl, rfl⟩⟩
  · have e1 : stepR m s c = s := by unfold stepR; rw [if_pos h2]
    rw [e1]
    refine ⟨h1, .inr ⟨h2, ?_⟩⟩
    unfold stepR
    rw [if_neg (by rw [hS]; decide)]
    split
    · refine ⟨?_, ?_, ?_⟩
      · show _ < (S.recs ++ [_]).length
        rw [List.length_append]; exact Nat.lt_succ_of_lt h3
      · show (S.recs ++ [_]).take _ = _
        rw [List.take_append_of_le_length (Nat.le_of_lt h3), h4]
      · show m < (((S.recs ++ [_]).getD s.recs.length recNone).text).length
        rw [List.getD, List.getElem?_append_left h3, ← List.getD]
        exact h5
    · exact ⟨h3, h4, h5⟩
/-- With a limit that no text of these octets passes, all is kept. -/
theorem scan_free (M : Nat) (xs : List Int) (hM : xs.length ≤ M) : ∀ i, i ≤ xs.length → Sc M xs i (scanR M (xs.take i) scan0)
  | 0, _ => Sc.zero M xs
  | i + 1, hi => by
    have h := scan_free M xs hM i (by omega)
    have hi' : i < xs.length := by omega
    by_cases hc : xs.getD i 0 = 10
    · have h2 := h.line hi' hc (by have := h.to_le; have := h.2.2.2.1; omega)
      rw [h2.1] at h2
      exact h2
    · have h2 := h.other hi' hc
      rw [h2.1] at h2
      exact h2
theorem rel_all (m M : Nat) (xs : List Int) (hM : xs.length ≤ M) (hmM : m ≤ M) : ∀ i, i ≤ xs.length → Rel m (scanR m (xs.take i) scan0) (scanR M (xs.take i) scan0)
  | 0, _ => Rel.zero m
  | i + 1, hi => by
    have h := rel_all m M xs hM hmM i (by omega)
    have hs := scan_free M xs hM i (by omega)
    have hcl := hs.chop_length
    have hto := hs.to_le
    rw [take_snoc xs i (by omega), scanR_append, scanR_append]
    exact h.step hs.2.1 hmM (by omega) _

/-- The records with the limit m, against all of them. -/
theorem long_cases (m M : Nat) (xs : List Int) (hM : xs.length ≤ M) (hmM : m ≤ M) : (allR M xs true).2.1 = 0 ∧
    (((∀ r ∈ (allR M xs true).1, r.text.length ≤ m) ∧ (allR m xs true).2.1 = 0 ∧ (allR m xs true).1 = (allR M xs true).1) ∨
      ∃ j, j < (allR M xs true).1.length ∧ m < ((allR M xs true).1.getD j recNone).text.length ∧ (∀ i, i < j → ((allR M xs true).1.getD i recNone).text.length ≤ m) ∧ (allR m xs true).2.1 = 10 ∧ (allR m xs true).1 = (allR M xs true).1.take j) := by
  have hs := scan_free M xs hM xs.length (Nat.le_refl _)
  have hr := rel_all m M xs hM hmM xs.length (Nat.le_refl _)
  rw [List.take_length] at hs hr
  have hcl := hs.cur_length
  have hle := chop_le (scanR M xs scan0).cur
  have hgM : Good M (scanR M xs scan0) := ⟨hs.2.1, by omega⟩
  have hEM := allR_end hgM
  rw [if_neg (show ¬ M < (scanR M xs scan0).cur.length by omega)] at hEM
  obtain ⟨h1, ⟨he, ho⟩ | ⟨ho, h3, h4, h5⟩⟩ := hr
  · by_cases hg : Good m (scanR m xs scan0)
    · have hE := allR_end hg
      rw [he] at hE h1
      rw [hEM, hE]
      refine ⟨rfl, ?_⟩
      by_cases h0 : 0 < (scanR M xs scan0).cur.length
      · by_cases hm : m < (scanR M xs scan0).cur.length
        · rw [if_pos (show 0 < (scanR M xs scan0).cur.length ∧ (scanR M xs scan0).cur.length ≤ M by omega), if_neg (show ¬ (0 < (scanR M xs scan0).cur.length ∧ (scanR M xs scan0).cur.length ≤ m) by omega), if_pos hm]
          refine .inr ⟨(scanR M xs scan0).recs.length, by simp, by simp [List.getD]; exact hm, fun i hi => ?_, rfl, by simp⟩
          show (((scanR M xs scan0).recs ++ [_]).getD i recNone).text.length ≤ m
          rw [List.getD, List.getElem?_append_left hi, List.getElem?_eq_getElem hi]
          exact h1 _ (List.getElem_mem hi)
        · rw [if_pos (show 0 < (scanR M xs scan0).cur.length ∧ (scanR M xs scan0).cur.length ≤ M by omega), if_pos (show 0 < (scanR M xs scan0).cur.length ∧ (scanR M xs scan0).cur.length ≤ m by omega), if_neg hm]
          refine .inl ⟨fun r hr => ?_, rfl, rfl⟩
          rcases List.mem_append.1 hr with hr | hr
          · exact h1 r hr
          · rw [List.mem_singleton.1 hr]
            show (scanR M xs scan0).cur.length ≤ m
            omega
      · rw [if_neg (show ¬ (0 < (scanR M xs scan0).cur.length ∧ (scanR M xs scan0).cur.length ≤ M) by omega), if_neg (show ¬ (0 < (scanR M xs scan0).cur.length ∧ (scanR M xs scan0).cur.length ≤ m) by omega), if_neg (show ¬ m < (scanR M xs scan0).cur.length by omega)]
        exact .inl ⟨fun r hr => h1 r (by simpa using hr), rfl, rfl⟩
    · have hE := allR_bad hg true
      rw [he] at hE h1
      have hm : m < (scanR M xs scan0).cur.length := by
        rcases Nat.lt_or_ge m (scanR M xs scan0).cur.length with q | q
        · exact q
        · exact absurd ⟨ho, by rw [he]; omega⟩ hg
      rw [hEM, hE, if_pos (show 0 < (scanR M xs scan0).cur.length ∧ (scanR M xs scan0).cur.length ≤ M by omega)]
      refine ⟨rfl, .inr ⟨(scanR M xs scan0).recs.length, by simp, by simp [List.getD]; exact hm, fun i hi => ?_, rfl, by simp⟩⟩
      show (((scanR M xs scan0).recs ++ [_]).getD i recNone).text.length ≤ m
      rw [List.getD, List.getElem?_append_left hi, List.getElem?_eq_getElem hi]
      exact h1 _ (List.getElem_mem hi)
  · have hg : ¬ Good m (scanR m xs scan0) := fun q => by rw [q.1] at ho; cases ho
    rw [hEM, allR_bad hg true]
    refine ⟨rfl, .inr ⟨(scanR m xs scan0).recs.length, ?_, ?_, fun i hi => ?_, rfl, ?_⟩⟩
    · show _ < ((scanR M xs scan0).recs ++ _).length
      rw [List.length_append]; omega
    · show m < (((scanR M xs scan0).recs ++ _).getD _ recNone).text.length
      rw [List.getD, List.getElem?_append_left h3, ← List.getD]
      exact h5
    · show (((scanR M xs scan0).recs ++ _).getD i recNone).text.length ≤ m
      rw [List.getD, List.getElem?_append_left (by omega)]
      have e : (scanR M xs scan0).recs[i]? = (scanR m xs scan0).recs[i]? := by
        rw [← h4, List.getElem?_take_of_lt hi]
      rw [e, List.getElem?_eq_getElem hi]
      exact h1 _ (List.getElem_mem hi)
    · show (scanR m xs scan0).recs = ((scanR M xs scan0).recs ++ _).take _
      rw [List.take_append_of_le_length (Nat.le_of_lt h3), h4]
end Go.Proofs.Ytnfekbmmnenbfaa
