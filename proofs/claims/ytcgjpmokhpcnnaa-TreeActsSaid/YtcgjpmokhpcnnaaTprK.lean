/- What a walk along the nodes that are to be turned leaves, in plain words. -/
import Derived.Test.YtcgjpmokhpcnnaaTreP
namespace Go.Proofs.Ytcgjpmokhpcnnaa
open Go Go.RowKit
set_option linter.unusedVariables false
set_option maxRecDepth 20000

/-- The causes, where one node is turned. -/
def turn1 (cause : Int) (ca : List Int) (x : Int) : List Int := if ca.getD x.toNat 0 = 0 then ca.set x.toNat cause else ca
def turnC (cause : Int) : List Int → List Int → List Int
  | [], ca => ca
  | x :: r, ca => turnC cause r (turn1 cause ca x)
def turnN (cause : Int) : List Int → List Int → Nat
  | [], _ => 0
  | x :: r, ca => (if ca.getD x.toNat 0 = 0 then 1 else 0) + turnN cause r (turn1 cause ca x)
theorem turnC_cons (cause x : Int) (r ca : List Int) : turnC cause (x :: r) ca = turnC cause r (turn1 cause ca x) := rfl
theorem turnN_cons (cause x : Int) (r ca : List Int) : turnN cause (x :: r) ca = (if ca.getD x.toNat 0 = 0 then 1 else 0) + turnN cause r (turn1 cause ca x) := rfl
theorem turn1_length (cause : Int) (ca : List Int) (x : Int) : (turn1 cause ca x).length = ca.length := by
  unfold turn1; split <;> simp
theorem turn1_get {cause : Int} {ca : List Int} {x : Int} (hx : 0 ≤ x) {k : Nat} (hk : k < ca.length) : (turn1 cause ca x).getD k 0 = if (k : Int) = x ∧ ca.getD k 0 = 0 then cause else ca.getD k 0 := by
  unfold turn1
  by_cases h : (k : Int) = x
  · subst h
    rw [Int.toNat_natCast]
    by_cases h0 : ca.getD k 0 = 0
    · rw [if_pos h0, if_pos ⟨rfl, h0⟩]
      simp [List.getD, hk]
    · rw [if_neg h0, if_neg (fun h => h0 h.2)]
  · have hne : ¬ ((k : Int) = x ∧ ca.getD k 0 = 0) := fun hh => h hh.1
    rw [if_neg hne]
    split
    · have : ¬ x.toNat = k := by omega
      simp [List.getD, List.getElem?_set_ne this]
    · rfl
theorem turn_spec {cause : Int} : ∀ (xs ca : List Int), xs.Nodup → (∀ x ∈ xs, 0 ≤ x ∧ x.toNat < ca.length) →
    (turnC cause xs ca).length = ca.length ∧ (∀ k : Nat, k < ca.length → (turnC cause xs ca).getD k 0 = if (k : Int) ∈ xs ∧ ca.getD k 0 = 0 then cause else ca.getD k 0) ∧ turnN cause xs ca = xs.countP (fun x => ca.getD x.toNat 0 == 0)
  | [], ca, _, _ => ⟨rfl, fun k _ => by simp [turnC], by simp [turnN]⟩
  | x :: r, ca, hn, hr => by
    obtain ⟨hnx, hnr⟩ := List.nodup_cons.1 hn
    have hx := hr x (by simp)
    obtain ⟨h1, h2, h3⟩ := turn_spec (cause := cause) r (turn1 cause ca x) hnr (fun y hy => by rw [turn1_length]; exact hr y (by simp [hy]))
    rw [turn1_length] at h1 h2
    refine ⟨h1, fun k hk => ?_, ?_⟩
    · unfold turnC
      rw [h2 k hk, turn1_get hx.1 hk]
      by_cases h : (k : Int) = x
      · subst h
        simp [hnx]
      · simp [h]
    · unfold turnN
      rw [h3, List.countP_cons, Nat.add_comm]
      congr 1
      · refine List.countP_congr fun y hy => ?_
        have hy' := hr y (by simp [hy])
        rw [turn1_get hx.1 hy'.2]
        have : ¬ ((y.toNat : Nat) : Int) = x := by
          intro e
          have : y = x := by omega
          exact hnx (this ▸ hy)
        rw [if_neg (fun hh => this hh.1)]
      · by_cases h0 : ca.getD x.toNat 0 = 0 <;> simp only [h0, if_true, if_false, beq_iff_eq] <;> simp
theorem countP_two {α : Type} (a b : α → Bool) : ∀ l : List α, (∀ x ∈ l, ¬ (a x = true ∧ b x = true)) → l.countP (fun x => a x || b x) = l.countP a + l.countP b
  | [], _ => by simp
  | x :: l, h => by
    rw [List.countP_cons, List.countP_cons, List.countP_cons, countP_two a b l (fun y hy => h y (by simp [hy]))]
    have := h x (by simp)
    rcases ha : a x with _ | _ <;> rcases hb : b x with _ | _ <;> simp_all <;> omega
theorem countP_at (j : Nat) (c : Bool) : ∀ m : Nat, (List.range m).countP (fun k => decide (k = j) && c) = if j < m ∧ c = true then 1 else 0
  | 0 => by simp
  | m + 1 => by
    rw [List.range_succ, List.countP_append, countP_at j c m]
    by_cases h : m = j
    · subst h
      rcases c with _ | _ <;> simp
    · rcases c with _ | _
      · simp
      · have : (j < m + 1) ↔ j < m := by omega
        simp [h, this]
section
variable {up ca : List Int} {j : Nat} {cause : Int}
/-- All that is to be turned: what is below, and the node. -/
def allL (up : List Int) (j : Nat) : List Int := belL up (j : Int) up.length ++ [(j : Int)]
theorem mem_bel (hj : j < up.length) (k : Nat) : (k : Int) ∈ belL up (j : Int) up.length ↔ k < up.length ∧ undB up (k : Int) (j : Int) = true := by
  unfold belL
  have hb : isB up (j : Int) = true := by simp [isB, hj]
  constructor
  · intro h
    obtain ⟨q, hq, hqk⟩ := List.mem_map.1 h
    have : q = k := by omega
    subst this
    obtain ⟨h1, h2⟩ := List.mem_filter.1 hq
    rw [hb, Bool.true_and] at h2
    exact ⟨List.mem_range.1 h1, h2⟩
  · rintro ⟨h1, h2⟩
    exact List.mem_map.2 ⟨k, List.mem_filter.2 ⟨List.mem_range.2 h1, by rw [hb, h2]; rfl⟩, rfl⟩
theorem bel_bounds {n : Int} {m : Nat} {x : Int} (hx : x ∈ belL up n m) : 0 ≤ x ∧ x.toNat < m := by
  unfold belL at hx
  obtain ⟨q, hq, rfl⟩ := List.mem_map.1 hx
  have := List.mem_range.1 (List.mem_filter.1 hq).1
  omega
theorem allL_nodup (hw : WfUp up) (hj : j < up.length) : (allL up j).Nodup := by
  unfold allL
  refine List.nodup_append.2 ⟨?_, by simp, ?_⟩
  · unfold belL List.Nodup
    rw [List.pairwise_map]
    have h := (List.nodup_range (n := up.length)).filter fun k : Nat => isB up (j : Int) && undB up (k : Int) (j : Int)
    exact List.Pairwise.imp (fun hab e => hab (by omega)) h
  · intro a ha b hb e
    rw [List.mem_singleton] at hb
    subst hb
    subst e
    have := ((mem_bel hj j).1 ha).2
    have := undB_lt hw (j : Int) j (j : Int) (by omega) (by omega) (by omega) this
    omega
theorem turn_all (hw : WfUp up) (hc : ca.length = up.length) (hj : j < up.length) :
    turnC cause (allL up j) ca = canC up ca (j : Int) cause up.length ∧ turnN cause (allL up j) ca = canN up ca (j : Int) up.length := by
  obtain ⟨h1, h2, h3⟩ := turn_spec (cause := cause) (allL up j) ca (allL_nodup hw hj) (fun x hx => by
    unfold allL at hx
    rcases List.mem_append.1 hx with hx | hx
    · have := bel_bounds hx; omega
    · rw [List.mem_singleton] at hx; omega)
  have hmem : ∀ k : Nat, k < up.length → ((k : Int) ∈ allL up j ↔ ((k : Int) == (j : Int) || undB up (k : Int) (j : Int)) = true) := fun k hk => by
    unfold allL
    rw [List.mem_append, mem_bel hj, List.mem_singleton, Bool.or_eq_true, beq_iff_eq]
    constructor
    · rintro (h | h)
      · exact .inr h.2
      · exact .inl h
    · rintro (h | h)
      · exact .inr h
      · exact .inl ⟨hk, h⟩
  constructor
  · apply List.ext_getElem?
    intro k
    rcases Nat.lt_or_ge k ca.length with hk | hk
    · rw [canC_at hk]
      have h4 := h2 k hk
      rw [List.getD, List.getElem?_eq_getElem (by rw [h1]; exact hk), Option.getD_some] at h4
      rw [List.getElem?_eq_getElem (by rw [h1]; exact hk), h4]
      congr 1
      unfold cutsB
      have := hmem k (by omega)
      by_cases hz : ca.getD k 0 = 0
      · by_cases hm : (k : Int) ∈ allL up j
        · rw [if_pos ⟨hm, hz⟩, if_pos ⟨by omega, by rw [this.1 hm, hz]; rfl⟩]
        · rw [if_neg (fun h => hm h.1), if_neg (fun h => hm (this.2 (by have := h.2; rw [Bool.and_eq_true] at this; exact this.1)))]
      · rw [if_neg (fun h => hz h.2), if_neg (fun h => hz (by have := h.2; rw [Bool.and_eq_true, beq_iff_eq] at this; exact this.2))]
    · rw [List.getElem?_eq_none (by rw [h1]; exact hk), List.getElem?_eq_none (by rw [canC_length]; exact hk)]
  · rw [h3]
    unfold allL canN belL
    have hb : isB up (j : Int) = true := by simp [isB, hj]
    rw [List.countP_append, List.countP_map, List.countP_filter]
    have e1 : (List.range up.length).countP (cutsB up ca (j : Int)) = (List.range up.length).countP (fun k => (decide (k = j) && (ca.getD j 0 == 0)) || ((ca.getD k 0 == 0) && (isB up (j : Int) && undB up (k : Int) (j : Int)))) := List.countP_congr fun k hk => by
      unfold cutsB
      rw [hb, Bool.true_and]
      by_cases h : k = j
      · subst h
        rcases ca.getD k 0 == 0 <;> simp
      · have h2 : ((k : Int) == (j : Int)) = false := by simp; omega
        simp [h, h2, Bool.and_comm]
    rw [e1, countP_two _ _ _ (fun k hk => by
      rintro ⟨a1, a2⟩
      simp only [Bool.and_eq_true, decide_eq_true_eq] at a1 a2
      have hkj := a1.1
      subst hkj
      have := undB_lt hw (k : Int) k (k : Int) (by omega) (by omega) (by omega) a2.2.2
      omega), countP_at, Nat.add_comm]
    congr 1
    rcases hq : ca.getD j 0 == 0 with _ | _ <;> simp_all
end
end Go.Proofs.Ytcgjpmokhpcnnaa
