/- Sets in plain words: what clipping, joining, and walking the gaps come to. -/
import Derived.Test.YtiiclhkibpmgmaaSetL
namespace Go.Proofs.Ytiiclhkibpmgmaa
open Go Go.RowKit
set_option linter.unusedVariables false

/-- Where the next range may begin, behind those of s. -/
def endL : Int → List (Int × Int) → Int
  | lo, [] => lo
  | _, p :: s => endL (p.2 + 2) s
theorem endL_snoc (p : Int × Int) : ∀ (s : List (Int × Int)) (lo : Int), endL lo (s ++ [p]) = p.2 + 2
  | [], _ => rfl
  | _ :: s, _ => endL_snoc p s _
theorem canonF_snoc (p : Int × Int) : ∀ (s : List (Int × Int)) (lo : Int), CanonF lo (s ++ [p]) ↔ CanonF lo s ∧ endL lo s ≤ p.1 ∧ p.1 ≤ p.2 ∧ p.2 ≤ 1114111
  | [], lo => by simp [CanonF, endL]
  | q :: s, lo => by
    have ih := canonF_snoc p s (q.2 + 2)
    show (_ ∧ _ ∧ _ ∧ CanonF (q.2 + 2) (s ++ [p])) ↔ (_ ∧ _ ∧ _ ∧ CanonF (q.2 + 2) s) ∧ endL (q.2 + 2) s ≤ p.1 ∧ _
    rw [ih]
    constructor
    · rintro ⟨h1, h2, h3, h4, h5⟩
      exact ⟨⟨h1, h2, h3, h4⟩, h5⟩
    · rintro ⟨⟨h1, h2, h3, h4⟩, h5⟩
      exact ⟨h1, h2, h3, h4, h5⟩

/-- A range with what it has of the numbers that may be in a set. -/
def clip1 (p : Int × Int) : Int × Int := (max p.1 0, min p.2 1114111)
def clipL (s : List (Int × Int)) : List (Int × Int) := (s.map clip1).filter fun p => decide (p.1 ≤ p.2)
theorem clipL_length (s : List (Int × Int)) : (clipL s).length ≤ s.length := by
  unfold clipL
  exact Nat.le_trans (List.length_filter_le _ _) (by rw [List.length_map]; exact Nat.le_refl _)
theorem clipL_mem {s : List (Int × Int)} {p : Int × Int} (h : p ∈ clipL s) : 0 ≤ p.1 ∧ p.1 ≤ p.2 ∧ p.2 ≤ 1114111 := by
  unfold clipL at h
  rw [List.mem_filter, List.mem_map] at h
  obtain ⟨⟨q, _, rfl⟩, h⟩ := h
  have h1 := of_decide_eq_true h
  unfold clip1 at h1 ⊢
  dsimp only at h1 ⊢
  omega
theorem clipL_snoc (s : List (Int × Int)) (p : Int × Int) : clipL (s ++ [p]) = clipL s ++ (if max p.1 0 ≤ min p.2 1114111 then [(max p.1 0, min p.2 1114111)] else []) := by
  unfold clipL
  rw [List.map_append, List.filter_append]
  congr 1
  by_cases h : max p.1 0 ≤ min p.2 1114111
  · rw [if_pos h]; simp [clip1, h]
  · rw [if_neg h]; simp [clip1, h]
theorem clipL_has (s : List (Int × Int)) (r : Int) : hasL (clipL s) r = hasL s r := by
  apply Bool.eq_iff_iff.2
  rw [hasL_iff, hasL_iff]
  constructor
  · rintro ⟨p, hp, h1, h2, h3, h4⟩
    unfold clipL at hp
    rw [List.mem_filter, List.mem_map] at hp
    obtain ⟨⟨q, hq, rfl⟩, _⟩ := hp
    unfold clip1 at h1 h2
    dsimp only at h1 h2
    exact ⟨q, hq, by omega, by omega, h3, h4⟩
  · rintro ⟨p, hp, h1, h2, h3, h4⟩
    refine ⟨clip1 p, ?_, ?_, ?_, h3, h4⟩
    · unfold clipL
      rw [List.mem_filter]
      refine ⟨List.mem_map.2 ⟨p, hp, rfl⟩, ?_⟩
      unfold clip1
      exact decide_eq_true (by dsimp only; omega)
    · unfold clip1; dsimp only; omega
    · unfold clip1; dsimp only; omega
theorem hasL_perm {a b : List (Int × Int)} (h : a.Perm b) (r : Int) : hasL a r = hasL b r := by
  apply Bool.eq_iff_iff.2
  rw [hasL_iff, hasL_iff]
  constructor
  · rintro ⟨p, hp, h1⟩; exact ⟨p, h.mem_iff.1 hp, h1⟩
  · rintro ⟨p, hp, h1⟩; exact ⟨p, h.mem_iff.2 hp, h1⟩

/-- What was gone through of the sorted ranges k, made a set: u; the last of u begins nowhere behind the ranges that are left. -/
def Half (t : List (Int × Int)) (k : Nat) (u : List (Int × Int)) : Prop :=
  Canon u ∧ (∀ r, hasL u r = hasL (t.take k) r) ∧ (∀ q, u.getLast? = some q → ∀ j, k ≤ j → j < t.length → q.1 ≤ (t.getD j (0, 0)).1) ∧ u.length ≤ k

theorem half_zero (t : List (Int × Int)) : Half t 0 [] := ⟨trivial, fun r => rfl, (fun q h => by cases h), Nat.le_refl _⟩
section
variable {t u : List (Int × Int)} {k : Nat}
theorem take_snoc (hk : k < t.length) : t.take (k + 1) = t.take k ++ [t.getD k (0, 0)] := by
  rw [List.take_succ_eq_append_getElem hk]
  simp [List.getD, List.getElem?_eq_getElem hk]
theorem getD_in (j : Nat) (hj : j < t.length) : t.getD j (0, 0) = t[j] := by simp [List.getD, List.getElem?_eq_getElem hj]
theorem getD_le (hs : t.Pairwise fun a b => a.1 ≤ b.1) (j : Nat) (hkj : k ≤ j) (hj : j < t.length) : (t.getD k (0, 0)).1 ≤ (t.getD j (0, 0)).1 := by
  rcases Nat.lt_or_ge k j with h | h
  · rw [getD_in k (by omega), getD_in j hj]
    exact List.pairwise_iff_getElem.1 hs k j (by omega) hj h
  · have : k = j := by omega
    rw [this]
    exact Int.le_refl _
/-- The next range lies apart. -/
theorem half_push (h : Half t k u) (hk : k < t.length) (hs : t.Pairwise fun a b => a.1 ≤ b.1) (hw : ∀ p ∈ t, 0 ≤ p.1 ∧ p.1 ≤ p.2 ∧ p.2 ≤ 1114111) (hap : ∀ q, u.getLast? = some q → q.2 + 1 < (t.getD k (0, 0)).1) : Half t (k + 1) (u ++ [t.getD k (0, 0)]) := by
  obtain ⟨h1, h2, h3, h4⟩ := h
  have hm : t.getD k (0, 0) ∈ t := by rw [getD_in k hk]; exact List.getElem_mem _
  have hp := hw _ hm
  refine ⟨?_, fun r => ?_, fun q hq j hkj hj => ?_, by rw [List.length_append]; simp; omega⟩
  · refine (canonF_snoc _ u 0).2 ⟨h1, ?_, hp.2⟩
    rcases List.eq_nil_or_concat u with rfl | ⟨v, q, rfl⟩
    · exact hp.1
    · rw [List.concat_eq_append] at hap ⊢
      rw [endL_snoc]
      have := hap q (by simp)
      omega
  · rw [take_snoc hk, hasL_append, hasL_append, h2]
  · have : q = t.getD k (0, 0) := by simpa using hq.symm
    rw [this]
    exact getD_le hs j (by omega) hj
/-- The next range touches the last one, or begins within it. -/
theorem half_join {v : List (Int × Int)} {q : Int × Int} (h : Half t k (v ++ [q])) (hk : k < t.length) (hw : ∀ p ∈ t, 0 ≤ p.1 ∧ p.1 ≤ p.2 ∧ p.2 ≤ 1114111) (ht : (t.getD k (0, 0)).1 ≤ q.2 + 1) : Half t (k + 1) (v ++ [(q.1, max q.2 (t.getD k (0, 0)).2)]) := by
  obtain ⟨h1, h2, h3, h4⟩ := h
  have hm : t.getD k (0, 0) ∈ t := by rw [getD_in k hk]; exact List.getElem_mem _
  have hp := hw _ hm
  have hq := h3 q (by simp) k (Nat.le_refl _) hk
  obtain ⟨c1, c2, c3, c4⟩ := (canonF_snoc q v 0).1 h1
  have hts : ∀ r, hasL (t.take (k + 1)) r = (hasL (t.take k) r || hasL [t.getD k (0, 0)] r) := fun r => by rw [take_snoc hk, hasL_append]
  obtain ⟨p, hpe⟩ : ∃ p, p = t.getD k (0, 0) := ⟨_, rfl⟩
  rw [← hpe] at hts hp hq ht ⊢
  clear hpe hm
  refine ⟨?_, fun r => ?_, fun q' hq' j hkj hj => ?_, by rw [List.length_append] at h4 ⊢; simp at h4 ⊢; omega⟩
  · refine (canonF_snoc _ v 0).2 ⟨c1, c2, ?_, ?_⟩ <;> dsimp only <;> omega
  · have e := h2 r
    rw [hts, ← e, hasL_append, hasL_append, Bool.or_assoc]
    congr 1
    rw [hasL_cons, hasL_cons, hasL_cons, hasL_nil, Bool.or_false, Bool.or_false, Bool.or_false, ← Bool.decide_or]
    apply decide_eq_decide.2
    dsimp only
    omega
  · have e : q' = (q.1, max q.2 p.2) := by simpa using hq'.symm
    rw [e]
    exact h3 q (by simp) j (by omega) hj
end
end Go.Proofs.Ytiiclhkibpmgmaa
