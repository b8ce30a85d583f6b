/- Rows of values that the call owns; pieces: rows of octets that the call owns, and their list. -/
import Derived.Test.YtnfekbmmnenbfaaKit
namespace Go.Proofs.Ytnfekbmmnenbfaa
open Go Go.RowKit
set_option linter.unusedVariables false

section
variable {w w' : World} {B : Nat} {e : TypeId} {v : Value} {n : Nat} {xs : List Value}
theorem own_kept (h : w.ownsRow B e 1 v n xs) (hb : Below w.heap.size w w') : w'.ownsRow B e 1 v n xs := by
  refine ⟨h.1, ?_⟩
  rcases h.2 with h2 | ⟨g, cap, cur, hv, hbg, hg, hr⟩
  · exact .inl h2
  · exact .inr ⟨g, cap, cur, hv, hbg, (hb.block g (Array.getElem?_eq_some_iff.1 hg).1).trans hg, hr⟩
theorem own_mono1 (h : w.ownsRow B e 1 v n xs) {B' : Nat} (hb : B' ≤ B) : w.ownsRow B' e 1 v n xs := by
  refine ⟨h.1, ?_⟩
  rcases h.2 with h2 | ⟨g, cap, cur, hv, hbg, hg⟩
  · exact .inl h2
  · exact .inr ⟨g, cap, cur, hv, Nat.le_trans hb hbg, hg⟩
theorem own_alloc (h : w.ownsRow B e 1 v n xs) (o : Obj) : (w.alloc o).ownsRow B e 1 v n xs :=
  own_kept h ((Below.refl _ _).alloc (Nat.le_refl _) o)
/-- What the call owns stays where a row of another type grows. -/
theorem own_other {B' : Nat} {e' : TypeId} {V : Value} {m : Nat} {ys : List Value} (h : w.ownsRow B e 1 v n xs) (h' : w.ownsRow B' e' 1 V m ys) (hne : e ≠ e') (hg : w.grownBy w' V.ownBlock) : w'.ownsRow B e 1 v n xs := by
  refine ⟨h.1, ?_⟩
  rcases h.2 with h2 | ⟨g, cap, cur, hv, hbg, hw, hr⟩
  · exact .inl h2
  · refine .inr ⟨g, cap, cur, hv, hbg, ?_, hr⟩
    have hlt := (Array.getElem?_eq_some_iff.1 hw).1
    obtain ⟨_, _, _, _, hk⟩ := hg
    rw [hk g hlt ?_]
    · exact hw
    · intro hc
      rcases h'.2 with ⟨rfl, _⟩ | ⟨g', cap', cur', rfl, _, hw', _⟩
      · cases hc
      · simp [Value.ownBlock] at hc
        subst hc
        rw [hw] at hw'
        injection hw' with hw'
        injection hw' with _ ht _
        exact hne ht
/-- Its cells. -/
theorem own_cells (h : w.ownsRow B e 1 v n xs) :
    ∃ A c, v = .slice A n c ∧ n ≤ c ∧ c ≤ maxLen ∧ (A = none → n = 0 ∧ c = 0) ∧ (∀ a, A = some a → ∃ g, a = ⟨g, 0, none⟩ ∧ B ≤ g ∧ g < w.heap.size ∧ (∀ j u, xs[j]? = some u → w.cell? ⟨g, j, none⟩ = some u) ∧ ∀ j, w.frozen? ⟨g, j, none⟩ = false) := by
  rcases h.2 with ⟨rfl, rfl⟩ | ⟨g, cap, cur, rfl, hB, hg, hnc, hcm, hcs, ht⟩
  · exact ⟨none, 0, rfl, Nat.le_refl _, Nat.zero_le _, fun _ => ⟨rfl, rfl⟩, fun a ha => by cases ha⟩
  · refine ⟨_, cap, rfl, hnc, hcm, (fun hA => by cases hA), fun a ha => ?_⟩
    injection ha with ha
    refine ⟨g, ha.symm, hB, (Array.getElem?_eq_some_iff.1 hg).1, fun j u hj => ?_, fun j => by simp [World.frozen?, hg]⟩
    have hjn : j < n := by
      have := h.1
      rcases Nat.lt_or_ge j xs.length with h1 | h1
      · omega
      · rw [List.getElem?_eq_none h1] at hj; cases hj
    rw [cell_of_row w g j cur e (0, 0) hg]
    have h1 : (cur.toList.take (n * 1))[j]? = xs[j]? := by rw [ht]
    rw [List.getElem?_take_of_lt (by omega), Array.getElem?_toList] at h1
    rw [h1, hj]
end

theorem info_bs : (Try.prog.info? 42).map (fun i => (i.zero, i.size, i.bytes)) = some (some (.slice none 0 0), 1, 24) := by kernel_rfl
theorem info_str : (Try.prog.info? 9).map (fun i => (i.zero, i.size, i.bytes)) = some (some (.string ⟨#[]⟩), 1, 16) := by kernel_rfl

/-- append of one value to a row that the call owns: the value lies in a block of its own, just made. -/
theorem push_run (t e : TypeId) (z : Value) (bytes : Nat) (ht : Try.prog.underlying t = some (.slice e)) (hinfo : (Try.prog.info? e).map (fun i => (i.zero, i.size, i.bytes)) = some (some z, 1, bytes)) (hzs : z.cells.size = 1)
    (w : World) (base : Nat) (v : Value) (n : Nat) (xs : List Value) (hown : w.ownsRow base e 1 v n xs) (x : Value) (hx : x.oneCell' = true) (hsz : (n + 1) * bytes ≤ 140737488355328) (h63 : n + 1 ≤ maxLen) (hbase : base ≤ w.heap.size) :
    ∃ v' w', (Builtin.append_ #[t, t] t #[v, .slice (some ⟨w.heap.size, 0, none⟩) 1 1]).run Try.prog (w.alloc (.cells #[x] e)) = .ok v' w' ∧ w'.ownsRow base e 1 v' (n + 1) (xs ++ [x]) ∧ (w.alloc (.cells #[x] e)).grownBy w' v.ownBlock := by
  obtain ⟨i0, hi, hz0, hz1, hz2⟩ := info_parts hinfo
  obtain ⟨v', w', h1, h2, h3, _⟩ := run_append_own (P := Try.prog) (w.alloc (.cells #[x] e)) base t t e i0 z 1 bytes ht hi hz0 hz1 hz2 hzs (by decide) v n xs (own_alloc hown _) ⟨w.heap.size, 0, none⟩ 1 1 [x] rfl
    (by
      intro j u hu
      rcases j with _ | j
      · injection hu with hu
        subst hu
        rw [show (⟨w.heap.size, 0, none⟩ : Addr).add 0 = ⟨w.heap.size, 0, none⟩ by rfl, cell_of_row (w.alloc (.cells #[x] e)) w.heap.size 0 #[x] e (0, 0) (heap_alloc_new w _)]
        rfl
      · simp at hu) (by simpa using hx) h63 hsz (by simp; omega)
  exact ⟨v', w', h1, h2, h3⟩

/-- Pieces that the call owns: each value is a slice whose octets are the call's own. -/
def Pieces (w : World) (B : Nat) (vs : List Value) (ps : List (List Int)) : Prop :=
  vs.length = ps.length ∧ ∀ (i : Nat) (v : Value) (p : List Int), vs[i]? = some v → ps[i]? = some p → w.ownsRow B 5 1 v p.length (p.map (.int .u8))
section
variable {w w' : World} {B : Nat} {vs : List Value} {ps : List (List Int)}
theorem Pieces.nil : Pieces w B [] [] := ⟨rfl, fun i v p h => by simp at h⟩
theorem Pieces.kept (h : Pieces w B vs ps) (hb : Below w.heap.size w w') : Pieces w' B vs ps := ⟨h.1, fun i v p h1 h2 => own_kept (h.2 i v p h1 h2) hb⟩
theorem Pieces.mono (h : Pieces w B vs ps) {B' : Nat} (hb : B' ≤ B) : Pieces w B' vs ps := ⟨h.1, fun i v p h1 h2 => own_mono1 (h.2 i v p h1 h2) hb⟩
theorem Pieces.other {B' : Nat} {e' : TypeId} {V : Value} {m : Nat} {ys : List Value} (h : Pieces w B vs ps) (h' : w.ownsRow B' e' 1 V m ys) (hne : 5 ≠ e') (hg : w.grownBy w' V.ownBlock) : Pieces w' B vs ps :=
  ⟨h.1, fun i v p h1 h2 => own_other (h.2 i v p h1 h2) h' hne hg⟩
theorem Pieces.push (h : Pieces w B vs ps) {v : Value} {p : List Int} (hv : w.ownsRow B 5 1 v p.length (p.map (.int .u8))) : Pieces w B (vs ++ [v]) (ps ++ [p]) := by
  refine ⟨by simp [h.1], fun i v' p' h1 h2 => ?_⟩
  have hl := h.1
  rcases Nat.lt_or_ge i vs.length with hi | hi
  · rw [List.getElem?_append_left hi] at h1
    rw [List.getElem?_append_left (by omega)] at h2
    exact h.2 i v' p' h1 h2
  · rw [List.getElem?_append_right hi] at h1
    rw [List.getElem?_append_right (by omega)] at h2
    have hi0 : i - vs.length = 0 := by
      rcases Nat.eq_zero_or_pos (i - vs.length) with h0 | h0
      · exact h0
      · rw [List.getElem?_eq_none (by simp; omega)] at h1; cases h1
    rw [hi0] at h1
    rw [show i - ps.length = 0 by omega] at h2
    simp at h1 h2
    subst h1; subst h2
    exact hv
end

/-- The slice of slices at A with n elements: its element j is a slice that reads as the list j of ps. -/
def RowB (w : World) (A : Option Addr) (n : Nat) (ps : List (List Int)) : Prop :=
  ps.length = n ∧ (0 < n → ∃ b o, A = some ⟨b, o, none⟩ ∧ b < w.heap.size ∧ ∀ j, j < n → ∃ D d, w.cell? ⟨b, o + j, none⟩ = some (.slice D (ps.getD j []).length d) ∧ RowI .u8 w D (ps.getD j []).length (ps.getD j []) ∧ (D = none → (ps.getD j []).length = 0 ∧ d = 0))
theorem RowB.below {w w' : World} {A : Option Addr} {n : Nat} {ps : List (List Int)} (h : RowB w A n ps) {B : Nat} (hb : Below B w w') (hB : w.heap.size ≤ B) : RowB w' A n ps := by
  refine ⟨h.1, fun hn => ?_⟩
  obtain ⟨b, o, hA, hlt, hc⟩ := h.2 hn
  refine ⟨b, o, hA, Nat.lt_of_lt_of_le hlt hb.size, fun j hj => ?_⟩
  obtain ⟨D, d, h1, h2, h3⟩ := hc j hj
  exact ⟨D, d, (hb.cell (p := ⟨b, o + j, none⟩) (show b < B by omega)).trans h1, h2.below hb hB, h3⟩
theorem RowB.drewN {w : World} {A : Option Addr} {n : Nat} {ps : List (List Int)} (h : RowB w A n ps) (q : Nat) : RowB (w.drewN q) A n ps := h

theorem rowB_of_own {w : World} {B B' : Nat} {V : Value} {n : Nat} {vs : List Value} {ps : List (List Int)} (h : w.ownsRow B 42 1 V n vs) (hp : Pieces w B' vs ps) :
    ∃ A c, V = .slice A n c ∧ RowB w A n ps ∧ n ≤ c ∧ c ≤ maxLen ∧ (A = none → n = 0 ∧ c = 0) ∧ ∀ a, A = some a → B ≤ a.block := by
  obtain ⟨A, c, hV, h1, h2, h3, h4⟩ := own_cells h
  have hl := h.1
  refine ⟨A, c, hV, ⟨by have := hp.1; omega, fun hn => ?_⟩, h1, h2, h3, fun a ha => ?_⟩
  · rcases A with _ | a
    · have := (h3 rfl).1; omega
    · obtain ⟨g, rfl, hB, hlt, hc, _⟩ := h4 a rfl
      refine ⟨g, 0, rfl, hlt, fun j hj => ?_⟩
      have hj1 : j < vs.length := by omega
      have hj2 : j < ps.length := by have := hp.1; omega
      have ho := hp.2 j vs[j] ps[j] (List.getElem?_eq_getElem hj1) (List.getElem?_eq_getElem hj2)
      have hgd : ps.getD j [] = ps[j] := by simp [List.getD, List.getElem?_eq_getElem hj2]
      rw [hgd]
      obtain ⟨D, d, hv, q1, q2, q3, q4⟩ := own_cells ho
      obtain ⟨D', d', hv', r1, _, _⟩ := row_of_own ho
      rw [hv] at hv'
      injection hv' with e1 e2 e3
      subst e1; subst e3
      refine ⟨D, d, ?_, r1, q3⟩
      rw [Nat.zero_add, ← hv]
      exact hc j _ (List.getElem?_eq_getElem hj1)
  · obtain ⟨g, rfl, hB, _⟩ := h4 a ha
    exact hB

/-- The slice of texts at A with n elements reads as ss. -/
def RowS (w : World) (A : Option Addr) (n : Nat) (ss : List ByteArray) : Prop :=
  ss.length = n ∧ (0 < n → ∃ b o, A = some ⟨b, o, none⟩ ∧ b < w.heap.size ∧ ∀ j, j < n → w.cell? ⟨b, o + j, none⟩ = some (.string (ss.getD j ⟨#[]⟩)))
theorem RowS.below {w w' : World} {A : Option Addr} {n : Nat} {ss : List ByteArray} (h : RowS w A n ss) {B : Nat} (hb : Below B w w') (hB : w.heap.size ≤ B) : RowS w' A n ss := by
  refine ⟨h.1, fun hn => ?_⟩
  obtain ⟨b, o, hA, hlt, hc⟩ := h.2 hn
  exact ⟨b, o, hA, Nat.lt_of_lt_of_le hlt hb.size, fun j hj => (hb.cell (p := ⟨b, o + j, none⟩) (show b < B by omega)).trans (hc j hj)⟩
theorem rowS_of_own {w : World} {B : Nat} {V : Value} {n : Nat} {ss : List ByteArray} (h : w.ownsRow B 9 1 V n (ss.map .string)) :
    ∃ A c, V = .slice A n c ∧ RowS w A n ss := by
  obtain ⟨A, c, hV, h1, h2, h3, h4⟩ := own_cells h
  have hl := h.1
  refine ⟨A, c, hV, ⟨by simpa using hl, fun hn => ?_⟩⟩
  rcases A with _ | a
  · have := (h3 rfl).1; omega
  · obtain ⟨g, rfl, hB, hlt, hc, _⟩ := h4 a rfl
    refine ⟨g, 0, rfl, hlt, fun j hj => ?_⟩
    have hj1 : j < ss.length := by simp at hl; omega
    rw [Nat.zero_add]
    refine hc j _ ?_
    simp [List.getD, List.getElem?_eq_getElem hj1]
end Go.Proofs.Ytnfekbmmnenbfaa
