/- Sets in plain words: what clipping, joining, and walking the gaps come to. -/
import Derived.Test.YtegcebgoiocakaaDoorA03
import Derived.Lib.ItoaNum
namespace Go.Proofs.YtegcebgoiocakaaDoor
open Go Go.RowKit
set_option linter.unusedVariables false

/-- Where the next range may begin, behind those of s. -/
def endL : Int → List (Int × Int) → Int
  | lo, [] => lo
  | _, p :: s => endL (p.2 + 2) s
theorem endL_snoc (p : Int × Int) : ∀ (s : List (Int × Int)) (lo : Int), endL lo (s ++ [p]) = p.2 + 2
  | [], _ => rfl
  | _ :: s, _ => endL_snoc p s _
theorem canonF_snoc (p : Int × Int) : ∀ (s : List (Int × Int)) (lo : Int), CanonF lo (s ++ [p]) ↔ CanonF lo s ∧ endL lo s ≤ p.1 ∧ p.1 ≤ p.2 ∧ p.2 ≤ 1114111
  | [], lo => by simp [CanonF, endL]
  | q :: s, lo => by
    have ih := canonF_snoc p s (q.2 + 2)
    show (_ ∧ _ ∧ _ ∧ CanonF (q.2 + 2) (s ++ [p])) ↔ (_ ∧ _ ∧ _ ∧ CanonF (q.2 + 2) s) ∧ endL (q.2 + 2) s ≤ p.1 ∧ _
    rw [ih]
    constructor
    · rintro ⟨h1, h2, h3, h4, h5⟩
      exact ⟨⟨h1, h2, h3, h4⟩, h5⟩
    · rintro ⟨⟨h1, h2, h3, h4⟩, h5⟩
      exact ⟨h1, h2, h3, h4, h5⟩

/-- A range with what it has of the numbers that may be in a set. -/
def clip1 (p : Int × Int) : Int × Int := (max p.1 0, min p.2 1114111)
def clipL (s : List (Int × Int)) : List (Int × Int) := (s.map clip1).filter fun p => decide (p.1 ≤ p.2)
theorem clipL_length (s : List (Int × Int)) : (clipL s).length ≤ s.length := by
  unfold clipL
  exact Nat.le_trans (List.length_filter_le _ _) (by rw [List.length_map]; exact Nat.le_refl _)
theorem clipL_mem {s : List (Int × Int)} {p : Int × Int} (h : p ∈ clipL s) : 0 ≤ p.1 ∧ p.1 ≤ p.2 ∧ p.2 ≤ 1114111 := by
  unfold clipL at h
  rw [List.mem_filter, List.mem_map] at h
  obtain ⟨⟨q, _, rfl⟩, h⟩ := h
  have h1 := of_decide_eq_true h
  unfold clip1 at h1 ⊢
  dsimp only at h1 ⊢
  omega
theorem clipL_snoc (s : List (Int × Int)) (p : Int × Int) : clipL (s ++ [p]) = clipL s ++ (if max p.1 0 ≤ min p.2 1114111 then [(max p.1 0, min p.2 1114111)] else []) := by
  unfold clipL
  rw [List.map_append, List.filter_append]
  congr 1
  by_cases h : max p.1 0 ≤ min p.2 1114111
  · rw [if_pos h]; simp [clip1, h]
  · rw [if_neg h]; simp [clip1, h]
theorem clipL_has (s : List (Int × Int)) (r : Int) : hasL (clipL s) r = hasL s r := by
  apply Bool.eq_iff_iff.2
  rw [hasL_iff, hasL_iff]
  constructor
  · rintro ⟨p, hp, h1, h2, h3, h4⟩
    unfold clipL at hp
    rw [List.mem_filter, List.mem_map] at hp
    obtain ⟨⟨q, hq, rfl⟩, _⟩ := hp
    unfold clip1 at h1 h2
    dsimp only at h1 h2
    exact ⟨q, hq, by omega, by omega, h3, h4⟩
  · rintro ⟨p, hp, h1, h2, h3, h4⟩
    refine ⟨clip1 p, ?_, ?_, ?_, h3, h4⟩
    · unfold clipL
      rw [List.mem_filter]
      refine ⟨List.mem_map.2 ⟨p, hp, rfl⟩, ?_⟩
      unfold clip1
      exact decide_eq_true (by dsimp only; omega)
    · unfold clip1; dsimp only; omega
    · unfold clip1; dsimp only; omega
theorem hasL_perm {a b : List (Int × Int)} (h : a.Perm b) (r : Int) : hasL a r = hasL b r := by
  apply Bool.eq_iff_iff.2
  rw [hasL_iff, hasL_iff]
  constructor
  · rintro ⟨p, hp, h1⟩; exact ⟨p, h.mem_iff.1 hp, h1⟩
  · rintro ⟨p, hp, h1⟩; exact ⟨p, h.mem_iff.2 hp, h1⟩

/-- What was gone through of the sorted ranges k, made a set: u; the last of u begins nowhere behind the ranges that are left. -/
def Half (t : List (Int × Int)) (k : Nat) (u : List (Int × Int)) : Prop :=
  Canon u ∧ (∀ r, hasL u r = hasL (t.take k) r) ∧ (∀ q, u.getLast? = some q → ∀ j, k ≤ j → j < t.length → q.1 ≤ (t.getD j (0, 0)).1) ∧ u.length ≤ k

theorem half_zero (t : List (Int × Int)) : Half t 0 [] := ⟨trivial, fun r => rfl, (fun q h => by cases h), Nat.le_refl _⟩
section
variable {t u : List (Int × Int)} {k : Nat}
theorem take_snoc (hk : k < t.length) : t.take (k + 1) = t.take k ++ [t.getD k (0, 0)] := by
  rw [List.take_succ_eq_append_getElem hk]
  simp [List.getD, List.getElem?_eq_getElem hk]
theorem getD_in (j : Nat) (hj : j < t.length) : t.getD j (0, 0) = t[j] := by simp [List.getD, List.getElem?_eq_getElem hj]
theorem getD_le (hs : t.Pairwise fun a b => a.1 ≤ b.1) (j : Nat) (hkj : k ≤ j) (hj : j < t.length) : (t.getD k (0, 0)).1 ≤ (t.getD j (0, 0)).1 := by
  rcases Nat.lt_or_ge k j with h | h
  · rw [getD_in k (by omega), getD_in j hj]
    exact List.pairwise_iff_getElem.1 hs k j (by omega) hj h
  · have : k = j := by omega
    rw [this]
    exact Int.le_refl _
/-- The next range lies apart. -/
theorem half_push (h : Half t k u) (hk : k < t.length) (hs : t.Pairwise fun a b => a.1 ≤ b.1) (hw : ∀ p ∈ t, 0 ≤ p.1 ∧ p.1 ≤ p.2 ∧ p.2 ≤ 1114111) (hap : ∀ q, u.getLast? = some q → q.2 + 1 < (t.getD k (0, 0)).1) : Half t (k + 1) (u ++ [t.getD k (0, 0)]) := by
  obtain ⟨h1, h2, h3, h4⟩ := h
  have hm : t.getD k (0, 0) ∈ t := by rw [getD_in k hk]; exact List.getElem_mem _
  have hp := hw _ hm
  refine ⟨?_, fun r => ?_, fun q hq j hkj hj => ?_, by rw [List.length_append]; simp; omega⟩
  · refine (canonF_snoc _ u 0).2 ⟨h1, ?_, hp.2⟩
    rcases List.eq_nil_or_concat u with rfl | ⟨v, q, rfl⟩
    · exact hp.1
    · rw [List.concat_eq_append] at hap ⊢
      rw [endL_snoc]
      have := hap q (by simp)
      omega
  · rw [take_snoc hk, hasL_append, hasL_append, h2]
  · have : q = t.getD k (0, 0) := by simpa using hq.symm
    rw [this]
    exact getD_le hs j (by omega) hj
/-- The next range touches the last one, or begins within it. -/
theorem half_join {v : List (Int × Int)} {q : Int × Int} (h : Half t k (v ++ [q])) (hk : k < t.length) (hw : ∀ p ∈ t, 0 ≤ p.1 ∧ p.1 ≤ p.2 ∧ p.2 ≤ 1114111) (ht : (t.getD k (0, 0)).1 ≤ q.2 + 1) : Half t (k + 1) (v ++ [(q.1, max q.2 (t.getD k (0, 0)).2)]) := by
  obtain ⟨h1, h2, h3, h4⟩ := h
  have hm : t.getD k (0, 0) ∈ t := by rw [getD_in k hk]; exact List.getElem_mem _
  have hp := hw _ hm
  have hq := h3 q (by simp) k (Nat.le_refl _) hk
  obtain ⟨c1, c2, c3, c4⟩ := (canonF_snoc q v 0).1 h1
  have hts : ∀ r, hasL (t.take (k + 1)) r = (hasL (t.take k) r || hasL [t.getD k (0, 0)] r) := fun r => by rw [take_snoc hk, hasL_append]
  obtain ⟨p, hpe⟩ : ∃ p, p = t.getD k (0, 0) := ⟨_, rfl⟩
  rw [← hpe] at hts hp hq ht ⊢
  clear hpe hm
  refine ⟨?_, fun r => ?_, fun q' hq' j hkj hj => ?_, by rw [List.length_append] at h4 ⊢; simp at h4 ⊢; omega⟩
  · refine (canonF_snoc _ v 0).2 ⟨c1, c2, ?_, ?_⟩ <;> dsimp only <;> omega
  · have e := h2 r
    rw [hts, ← e, hasL_append, hasL_append, Bool.or_assoc]
    congr 1
    rw [hasL_cons, hasL_cons, hasL_cons, hasL_nil, Bool.or_false, Bool.or_false, Bool.or_false, ← Bool.decide_or]
    apply decide_eq_decide.2
    dsimp only
    omega
  · have e : q' = (q.1, max q.2 p.2) := by simpa using hq'.symm
    rw [e]
    exact h3 q (by simp) j (by omega) hj
end
end Go.Proofs.YtegcebgoiocakaaDoor
/- The document's Ends: just which whole numbers, in a row that is new. -/
namespace Go.Proofs.YtegcebgoiocakaaDoor
open Go Go.RowKit
set_option linter.unusedVariables false
set_option maxRecDepth 20000

def clampI (z : Int) : Int := if z < -2 then -2 else if 1114113 < z then 1114113 else z
/-- The numbers beside z, the first j of them. -/
def nearT (z : Int) : Nat → List Int
  | 0 => []
  | j + 1 => nearT z j ++ (if 0 ≤ clampI z + ((j : Int) - 1) ∧ clampI z + ((j : Int) - 1) ≤ 1114111 then [clampI z + ((j : Int) - 1)] else [])
/-- Beside both ends, the first t of them. -/
def bothT (p : Int × Int) : Nat → List Int
  | 0 => []
  | 1 => nearT p.1 3
  | _ => nearT p.1 3 ++ nearT p.2 3
def endsL (s : List (Int × Int)) : List Int := [0, 1114111] ++ s.flatMap fun p => bothT p 2
theorem endsL_snoc (s : List (Int × Int)) (p : Int × Int) : endsL (s ++ [p]) = endsL s ++ bothT p 2 := by
  unfold endsL
  rw [List.flatMap_append, ← List.append_assoc]
  simp
theorem nearT_yes {z : Int} {j : Nat} (h : 0 ≤ clampI z + ((j : Int) - 1) ∧ clampI z + ((j : Int) - 1) ≤ 1114111) : nearT z (j + 1) = nearT z j ++ [clampI z + ((j : Int) - 1)] := by rw [nearT, if_pos h]
theorem nearT_no {z : Int} {j : Nat} (h : ¬ (0 ≤ clampI z + ((j : Int) - 1) ∧ clampI z + ((j : Int) - 1) ≤ 1114111)) : nearT z (j + 1) = nearT z j := by rw [nearT, if_neg h, List.append_nil]

end Go.Proofs.YtegcebgoiocakaaDoor
/- Rows of whole numbers: cut, and one appended to another that the call owns. -/
namespace Go.Proofs.YtegcebgoiocakaaDoor
open Go Go.RowKit
set_option linter.unusedVariables false
set_option maxRecDepth 20000

theorem rowI_upto {k : IntKind} {w : World} {A : Option Addr} {n : Nat} {xs : List Int} (h : RowI k w A n xs) {m : Nat} (hm : m ≤ n) : RowI k w A m (xs.take m) := by
  refine ⟨by rw [List.length_take, h.1]; omega, fun h0 => ?_⟩
  obtain ⟨b, o, hA, hlt, hc⟩ := h.2 (by omega)
  refine ⟨b, o, hA, hlt, fun j hj => ?_⟩
  rw [hc j (by omega)]
  simp [List.getD, hj]
theorem rowI_from {k : IntKind} {w : World} {A : Option Addr} {n : Nat} {xs : List Int} (h : RowI k w A n xs) {m : Nat} (hm : m ≤ n) : RowI k w (Option.map (fun x => x.add m) A) (n - m) (xs.drop m) := by
  refine ⟨by rw [List.length_drop, h.1], fun h0 => ?_⟩
  obtain ⟨b, o, rfl, hlt, hc⟩ := h.2 (by omega)
  refine ⟨b, o + m, by simp [Addr.add], hlt, fun j hj => ?_⟩
  rw [show o + m + j = o + (m + j) by omega, hc (m + j) (by omega)]
  simp [List.getD]
theorem rowI_keep {k : IntKind} {w w' : World} {A : Option Addr} {n : Nat} {xs : List Int} (h : RowI k w A n xs) (hk : ∀ b o, A = some ⟨b, o, none⟩ → b < w.heap.size → w'.heap[b]? = w.heap[b]?) : RowI k w' A n xs := by
  refine ⟨h.1, fun h0 => ?_⟩
  obtain ⟨b, o, hA, hlt, hc⟩ := h.2 h0
  have hh := hk b o hA hlt
  have hlt' : b < w'.heap.size := (Array.getElem?_eq_some_iff.1 (hh.trans (Array.getElem?_eq_getElem hlt))).1
  refine ⟨b, o, hA, hlt', fun j hj => ?_⟩
  rw [← hc j hj]
  simp only [World.cell?, hh]
/-- append of a row of whole numbers to one that the call owns, and what stays. -/
theorem appI_at {W w : World} {P : Option Addr} {q pc : Nat} {xs : List Int} (hown : w.ownsRow W.heap.size 3 1 (.slice P q pc) q (xs.map (.int .i64))) {A : Option Addr} {m c : Nat} {ys : List Int} (hr : RowI .i64 w A m ys) (hA : A = none → m = 0 ∧ c = 0) (hq : q ≤ 100000) (hm : m ≤ 100000) (hb : Below W.heap.size W w) :
    ∃ P' pc' w', (Builtin.append_ #[34, 34] 34 #[.slice P q pc, .slice A m c]).run Tryd.prog w = .ok (.slice P' (q + m) pc') w' ∧
      w'.ownsRow W.heap.size 3 1 (.slice P' (q + m) pc') (q + m) ((xs ++ ys).map (.int .i64)) ∧ Below W.heap.size W w' ∧
      ∀ g, g < w.heap.size → (Value.slice P q pc).ownBlock ≠ some g → (Value.slice P' (q + m) pc').ownBlock ≠ some g ∧ w'.heap[g]? = w.heap[g]? := by
  obtain ⟨i0, hi, hz0, hz1, hz2⟩ := info_parts info_intG
  rw [List.map_append]
  rcases A with _ | ad
  · obtain ⟨rfl, rfl⟩ := hA rfl
    have hy : ys = [] := List.eq_nil_of_length_eq_zero hr.1
    subst hy
    rw [List.map_nil, List.append_nil]
    exact ⟨P, pc, w, run_append_owned_none (P := Tryd.prog) w W.heap.size 34 34 3 i0 1 Tryd.underlying34 hi _ q _ hown, hown, hb, fun g _ hne => ⟨hne, rfl⟩⟩
  · have hcells : ∀ j u, (ys.map (Value.int .i64))[j]? = some u → w.cell? (ad.add j) = some u := by
      intro j u hu
      rw [List.getElem?_map] at hu
      obtain ⟨y, hy, rfl⟩ := Option.map_eq_some_iff.1 hu
      have hj : j < m := by have := (List.getElem?_eq_some_iff.1 hy).1; rw [hr.1] at this; exact this
      obtain ⟨b, o, hA, _, hc⟩ := hr.2 (by omega)
      injection hA with hA
      subst hA
      rw [show (⟨b, o, none⟩ : Addr).add j = ⟨b, o + j, none⟩ by unfold Addr.add; split <;> simp_all, hc j hj]
      simp [List.getD, hy]
    obtain ⟨V', w', h1, h2, h3, _, h4⟩ := run_append_own_at (P := Tryd.prog) w W.heap.size 34 34 3 i0 (.int .i64 0) 1 8 Tryd.underlying34 hi hz0 hz1 hz2 rfl (by decide) _ q _ hown ad m c (ys.map (.int .i64)) (by rw [List.length_map, hr.1, Nat.mul_one]) hcells
      (by intro u hu; obtain ⟨y, _, rfl⟩ := List.mem_map.1 hu; rfl) (by unfold maxLen; omega) (by omega) hb.size
    have hb' : Below W.heap.size W w' := hb.grown h3 hb.size (by intro k hk; exact (row_lt hown hk).1)
    have key : ∀ g, g < w.heap.size → (Value.slice P q pc).ownBlock ≠ some g → V'.ownBlock ≠ some g ∧ w'.heap[g]? = w.heap[g]? := by
      intro g hg hne
      refine ⟨fun e => ?_, h3.block g hg fun e => hne e.symm⟩
      rcases h4 with h4 | h4
      · exact hne (h4 ▸ e)
      · rw [h4] at e
        injection e with e
        omega
    rcases h2.2 with ⟨rfl, h0⟩ | ⟨g, cap, cur, rfl, _⟩
    · rw [h0] at h2 ⊢
      exact ⟨none, 0, w', h1, h2, hb', key⟩
    · exact ⟨_, _, w', h1, h2, hb', key⟩
theorem ownI_nil (w : World) (B : Nat) : w.ownsRow B 3 1 (.slice none 0 0) 0 (([] : List Int).map (.int .i64)) := World.ownsRow_nil _ _ _ _
theorem ownI_row {w : World} {B : Nat} {P : Option Addr} {q pc : Nat} {xs : List Int} (h : w.ownsRow B 3 1 (.slice P q pc) q (xs.map (.int .i64))) : RowI .i64 w P q xs ∧ q ≤ pc ∧ pc ≤ maxLen ∧ (P = none → q = 0 ∧ pc = 0) ∧ ∀ b o, P = some ⟨b, o, none⟩ → (Value.slice P q pc).ownBlock = some b := by
  obtain ⟨A, c, e, h1, h2, h3⟩ := row_of_own h
  injection e with e1 e2 e3
  subst e1; subst e3
  refine ⟨h1, h2, h3, fun hP => ?_, fun b o hP => ?_⟩
  · subst hP
    rcases h.2 with ⟨e, h0⟩ | ⟨g, cap, cur, e, _⟩
    · injection e with _ _ e3
      exact ⟨h0, e3⟩
    · injection e with e1 _ _
      cases e1
  · subst hP
    rcases h.2 with ⟨e, h0⟩ | ⟨g, cap, cur, e, _⟩
    · injection e with e1 _ _
      cases e1
    · injection e with e1 _ _
      injection e1 with e1
      injection e1 with e1 _ _
      subst e1
      rfl
theorem ownI_kept {w w' : World} {B : Nat} {v : Value} {n : Nat} {xs : List Value} (h : w.ownsRow B 3 1 v n xs) (hb : Below w.heap.size w w') : w'.ownsRow B 3 1 v n xs := own_kept h hb
end Go.Proofs.YtegcebgoiocakaaDoor
/- Trees in plain words: rows of nodes, how great they are, how they are shown. -/
namespace Go.Proofs.YtegcebgoiocakaaDoor
open Go Go.RowKit
set_option linter.unusedVariables false

/-- A row of nodes: the first one's fields, its kids, and the nodes behind it. -/
inductive Wood where
  | nil
  | cons (op : Int) (set : List (Int × Int)) (mn mx : Int) (kids next : Wood)

namespace Wood
def len : Wood → Nat
  | nil => 0
  | cons _ _ _ _ _ x => x.len + 1
/-- How many nodes, the kids' too. -/
def size : Wood → Nat
  | nil => 0
  | cons _ _ _ _ k x => 1 + k.size + x.size
def app : Wood → Wood → Wood
  | nil, b => b
  | cons o s a z k x, b => cons o s a z k (x.app b)
/-- The j-th node alone. -/
def nth : Wood → Nat → Wood
  | nil, _ => nil
  | cons o s a z k _, 0 => cons o s a z k nil
  | cons _ _ _ _ _ x, j + 1 => x.nth j
/-- The first k nodes. -/
def take : Wood → Nat → Wood
  | nil, _ => nil
  | _, 0 => nil
  | cons o s a z k x, j + 1 => cons o s a z k (x.take j)
def same : Wood → Wood → Bool
  | nil, nil => true
  | cons o s a z k x, cons o' s' a' z' k' x' => (o == o' && (a == a' && (z == z' && (s == s' && (k.same k' && x.same x')))))
  | _, _ => false
/-- One node's depth below it. -/
def deep : Wood → Nat
  | nil => 0
  | cons _ _ _ _ k x => max (k.deep + 1) x.deep
/-- The greatest number of kids or ranges that a node has. -/
def wide : Wood → Nat
  | nil => 0
  | cons _ s _ _ k x => max (max k.len s.length) (max k.wide x.wide)

theorem same_iff : ∀ a b : Wood, a.same b = true ↔ a = b
  | nil, nil => by simp [same]
  | nil, cons .. => by simp [same]
  | cons .., nil => by simp [same]
  | cons o s a z k x, cons o' s' a' z' k' x' => by
    rw [same, Bool.and_eq_true, Bool.and_eq_true, Bool.and_eq_true, Bool.and_eq_true, Bool.and_eq_true, same_iff k k', same_iff x x']
    simp only [beq_iff_eq, cons.injEq]
    constructor
    · rintro ⟨h1, h2, h3, h4, h5, h6⟩; exact ⟨h1, h4, h2, h3, h5, h6⟩
    · rintro ⟨h1, h4, h2, h3, h5, h6⟩; exact ⟨h1, h2, h3, h4, h5, h6⟩
theorem same_refl (a : Wood) : a.same a = true := (same_iff a a).2 rfl
theorem same_len {a b : Wood} (h : a.len ≠ b.len) : a.same b = false := by
  cases hx : a.same b with
  | false => rfl
  | true => rw [(same_iff a b).1 hx] at h; exact absurd rfl h
theorem nth_len : ∀ (a : Wood) (j : Nat), j < a.len → (a.nth j).len = 1
  | nil, _, h => by simp [len] at h
  | cons .., 0, _ => rfl
  | cons _ _ _ _ _ x, j + 1, h => nth_len x j (by simp only [len] at h; omega)
theorem same_nth : ∀ (a b : Wood), a.len = b.len → (a.same b = true ↔ ∀ j, j < a.len → (a.nth j).same (b.nth j) = true)
  | nil, nil, _ => by simp [same, len]
  | nil, cons .., h => by simp [len] at h
  | cons .., nil, h => by simp [len] at h
  | cons o s a z k x, cons o' s' a' z' k' x', h => by
    have ih := same_nth x x' (by simp only [len] at h; omega)
    constructor
    · intro hs j hj
      rw [(same_iff _ _).1 hs]
      exact same_refl _
    · intro hj
      have h0 := hj 0 (by simp [len])
      have h1 := ih.2 fun j hx => hj (j + 1) (by simp only [len]; omega)
      rw [same_iff] at h0 h1 ⊢
      simp only [nth, cons.injEq] at h0
      obtain ⟨e1, e2, e3, e4, e5, _⟩ := h0
      rw [e1, e2, e3, e4, e5, h1]
theorem take_len : ∀ (a : Wood) (j : Nat), j ≤ a.len → (a.take j).len = j
  | nil, 0, _ => rfl
  | nil, _ + 1, h => by simp [len] at h
  | cons .., 0, _ => rfl
  | cons _ _ _ _ _ x, j + 1, h => by simp only [take, len]; rw [take_len x j (by simp only [len] at h; omega)]
theorem take_all : ∀ (a : Wood), a.take a.len = a
  | nil => rfl
  | cons _ _ _ _ _ x => by simp only [len, take]; rw [take_all x]
theorem take_zero : ∀ (a : Wood), a.take 0 = nil
  | nil => rfl
  | cons .. => rfl
theorem take_succ : ∀ (a : Wood) (j : Nat), j < a.len → a.take (j + 1) = (a.take j).app (a.nth j)
  | nil, _, h => by simp [len] at h
  | cons _ _ _ _ _ x, 0, _ => by simp only [take, app, nth, take_zero]
  | cons _ _ _ _ _ x, j + 1, h => by simp only [take, app, nth]; rw [← take_succ x j (by simp only [len] at h; omega)]
theorem size_app : ∀ a b : Wood, (a.app b).size = a.size + b.size
  | nil, b => by simp [app, size]
  | cons _ _ _ _ k x, b => by simp only [app, size]; rw [size_app x b]; omega
theorem len_app : ∀ a b : Wood, (a.app b).len = a.len + b.len
  | nil, b => by simp [app, len]
  | cons _ _ _ _ k x, b => by simp only [app, len]; rw [len_app x b]; omega
theorem app_nil : ∀ a : Wood, a.app nil = a
  | nil => rfl
  | cons _ _ _ _ k x => by simp only [app]; rw [app_nil x]
theorem app_assoc : ∀ a b c : Wood, (a.app b).app c = a.app (b.app c)
  | nil, _, _ => rfl
  | cons _ _ _ _ _ x, b, c => by simp only [app]; rw [app_assoc x b c]
theorem one_of_len : ∀ {a : Wood}, a.len = 1 → ∃ o s x z k, a = cons o s x z k nil
  | nil, h => by simp [len] at h
  | cons o s x z k nil, _ => ⟨o, s, x, z, k, rfl⟩
  | cons _ _ _ _ _ (cons ..), h => by simp [len] at h
end Wood

/-! ### How they are shown -/
def digB (n : Int) : ByteArray := ⟨(Lib.itoa n).toArray⟩
def strB (l : List UInt8) : ByteArray := ⟨l.toArray⟩
/-- One behind the other, with a text between. -/
def joinB (sep : ByteArray) : List ByteArray → ByteArray
  | [] => ByteArray.empty
  | [x] => x
  | x :: y :: l => x ++ (sep ++ joinB sep (y :: l))
theorem ba_assoc (a b c : ByteArray) : a ++ b ++ c = a ++ (b ++ c) := ByteArray.append_assoc
theorem ba_nil (a : ByteArray) : a ++ ByteArray.empty = a := ByteArray.append_empty
theorem nil_ba (a : ByteArray) : ByteArray.empty ++ a = a := ByteArray.empty_append
theorem joinB_snoc (sep y : ByteArray) : ∀ l : List ByteArray, joinB sep (l ++ [y]) = if l = [] then y else joinB sep l ++ sep ++ y
  | [] => rfl
  | [x] => by simp [joinB, ba_assoc]
  | x :: z :: l => by
    have ih := joinB_snoc sep y (z :: l)
    rw [if_neg (by simp)] at ih ⊢
    show x ++ (sep ++ joinB sep ((z :: l) ++ [y])) = _
    rw [ih]
    simp only [joinB, ba_assoc]
def rngB (p : Int × Int) : ByteArray := if p.2 = p.1 then digB p.1 else digB p.1 ++ (strB [45] ++ digB p.2)
def setB (s : List (Int × Int)) : ByteArray := joinB (strB [32]) (s.map rngB)
theorem setB_snoc (s : List (Int × Int)) (p : Int × Int) : setB (s ++ [p]) = if s = [] then rngB p else setB s ++ strB [32] ++ rngB p := by
  unfold setB
  rw [List.map_append, List.map_cons, List.map_nil, joinB_snoc]
  simp
/-- A node by its Op, with its kids' text. -/
def nodeB (op : Int) (s : List (Int × Int)) (mn mx : Int) (kids : ByteArray) : ByteArray :=
  if op = 0 then strB [101, 109, 112, 116, 121]
  else if op = 1 then strB [99, 104, 97, 114, 123] ++ setB s ++ strB [125]
  else if op = 2 then strB [98, 101, 103, 105, 110]
  else if op = 3 then strB [101, 110, 100]
  else if op = 4 then strB [99, 97, 116, 40] ++ kids ++ strB [41]
  else if op = 5 then strB [97, 108, 116, 40] ++ kids ++ strB [41]
  else if op = 6 then strB [114, 101, 112, 123] ++ digB mn ++ strB [32] ++ digB mx ++ strB [125, 40] ++ kids ++ strB [41]
  else strB [63]
def showW : Wood → List ByteArray
  | .nil => []
  | .cons op s mn mx k x => nodeB op s mn mx (joinB (strB [44]) (showW k)) :: showW x
def kidsB (k : Wood) : ByteArray := joinB (strB [44]) (showW k)
theorem showW_app : ∀ a b : Wood, showW (a.app b) = showW a ++ showW b
  | .nil, _ => rfl
  | .cons _ _ _ _ _ x, b => by simp only [Wood.app, showW]; rw [showW_app x b]; rfl
theorem showW_len : ∀ a : Wood, (showW a).length = a.len
  | .nil => rfl
  | .cons _ _ _ _ _ x => by simp only [showW, Wood.len, List.length_cons]; rw [showW_len x]
/-- One node's text. -/
def oneB (a : Wood) : ByteArray := kidsB a
theorem kidsB_take (a : Wood) (j : Nat) (h : j < a.len) : kidsB (a.take (j + 1)) = if j = 0 then oneB (a.nth j) else kidsB (a.take j) ++ strB [44] ++ oneB (a.nth j) := by
  have h1 := Wood.nth_len a j h
  obtain ⟨o, s, x, z, k, e⟩ := Wood.one_of_len h1
  unfold kidsB oneB
  rw [Wood.take_succ a j h, showW_app, e]
  simp only [showW]
  rw [joinB_snoc]
  have hl := showW_len (a.take j)
  rw [Wood.take_len a j (by omega)] at hl
  by_cases hj : j = 0
  · rw [if_pos hj, if_pos (List.eq_nil_of_length_eq_zero (by omega))]
    simp [kidsB, showW, joinB]
  · rw [if_neg hj, if_neg (by intro e2; rw [e2] at hl; simp at hl; omega)]
    simp [kidsB, showW, joinB]
end Go.Proofs.YtegcebgoiocakaaDoor
