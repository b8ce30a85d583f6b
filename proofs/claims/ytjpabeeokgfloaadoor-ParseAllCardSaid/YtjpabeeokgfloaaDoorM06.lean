/- The document's way to make a set between the ends of ranges: the second part, range by range. -/
import Derived.Test.YtjpabeeokgfloaaDoorM04
import Derived.Test.YtjpabeeokgfloaaDoorM05
namespace Go.Proofs.YtjpabeeokgfloaaDoor
open Go Go.RowKit
set_option linter.unusedVariables false

theorem asc_lt {l : List Int} (h : Asc l) (i j : Nat) (hij : i < j) (hj : j < l.length) : l.getD i 0 < l.getD j 0 := by
  have := List.pairwise_iff_getElem.1 h i j (by omega) hj hij
  simpa [List.getD, List.getElem?_eq_getElem hj, List.getElem?_eq_getElem (show i < l.length by omega)] using this
theorem mem_getD {l : List Int} {r : Int} (h : r ∈ l) : ∃ i, i < l.length ∧ l.getD i 0 = r := by
  obtain ⟨i, hi, e⟩ := List.getElem_of_mem h
  exact ⟨i, hi, by simpa [List.getD, List.getElem?_eq_getElem hi] using e⟩
theorem getD_mem' {l : List Int} {i : Nat} (h : i < l.length) : l.getD i 0 ∈ l := by
  simp [List.getD, List.getElem?_eq_getElem h]
/-- Neighbours of the ends in order. -/
theorem asc_gap {l : List Int} (h : Asc l) {i : Nat} (hi : i + 1 < l.length) {r : Int} (hr : r ∈ l) : r ≤ l.getD i 0 ∨ l.getD (i + 1) 0 ≤ r := by
  obtain ⟨j, hj, rfl⟩ := mem_getD hr
  rcases Nat.lt_or_ge i j with h1 | h1
  · right
    rcases Nat.lt_or_ge (i + 1) j with h2 | h2
    · exact Int.le_of_lt (asc_lt h _ _ h2 hj)
    · rw [show j = i + 1 by omega]; exact Int.le_refl _
  · left
    rcases Nat.lt_or_ge j i with h2 | h2
    · exact Int.le_of_lt (asc_lt h _ _ h2 (by omega))
    · rw [show j = i by omega]; exact Int.le_refl _

section
variable {rs : List (Int × Int)} {neg : Bool}
/-- The ends in order: from 0 to 10ffff. -/
theorem ends_first (rs : List (Int × Int)) : 0 < (sortE (endsL rs)).length ∧ (sortE (endsL rs)).getD 0 0 = 0 ∧ (sortE (endsL rs)).getD ((sortE (endsL rs)).length - 1) 0 = 1114111 := by
  obtain ⟨l, hl⟩ : ∃ l, l = sortE (endsL rs) := ⟨_, rfl⟩
  have ha : Asc l := hl ▸ sortE_asc _
  have hm : ∀ r, r ∈ l ↔ r ∈ endsL rs := fun r => hl ▸ sortE_mem _ r
  rw [← hl]
  have h0 : (0 : Int) ∈ l := (hm 0).2 (by simp [endsL])
  have h1 : (1114111 : Int) ∈ l := (hm _).2 (by simp [endsL])
  obtain ⟨i, hi, e⟩ := mem_getD h0
  obtain ⟨j, hj, e'⟩ := mem_getD h1
  refine ⟨by omega, ?_, ?_⟩
  · rcases Nat.eq_zero_or_pos i with h | h
    · rw [h] at e; exact e
    · have := asc_lt ha 0 i h hi
      have := endsL_in ((hm _).1 (getD_mem' (show 0 < l.length by omega)))
      omega
  · rcases Nat.lt_or_ge j (l.length - 1) with h | h
    · have := asc_lt ha j (l.length - 1) h (by omega)
      have := endsL_in ((hm _).1 (getD_mem' (show l.length - 1 < l.length by omega)))
      omega
    · rw [show l.length - 1 = j by omega, e']

/-- What was gone through: the ends up to a. -/
def Mid (f : Int → Bool) (a : Int) (out : List (Int × Int)) : Prop :=
  Canon out ∧ (∀ r, hasL out r = (decide (0 ≤ r ∧ r ≤ a) && f r)) ∧ endL 0 out ≤ a + 2 ∧ (f a = true → ∃ v q, out = v ++ [q] ∧ q.2 = a) ∧ (f a = false → endL 0 out ≤ a + 1)
variable {f : Int → Bool} {a b : Int} {out : List (Int × Int)}
/-- Between neighbours: they follow each other, or all between are like both. -/
def Near (f : Int → Bool) (a b : Int) : Prop := b = a + 1 ∨ (a + 1 < b ∧ ∀ r, a ≤ r → r ≤ b → f r = f a)
theorem mid_first (h : f 0 = false) : Mid f 0 [] := by
  refine ⟨trivial, fun r => ?_, by unfold endL; omega, (fun h' => by rw [h] at h'; cases h'), fun _ => by unfold endL; omega⟩
  rw [hasL_nil]
  by_cases hr : 0 ≤ r ∧ r ≤ 0
  · have : r = 0 := by omega
    rw [this, h, Bool.and_false]
  · rw [decide_eq_false hr, Bool.false_and]
theorem mid_first_one (h : f 0 = true) : Mid f 0 [(0, 0)] := by
  refine ⟨⟨by decide, by decide, by decide, trivial⟩, fun r => ?_, by simp [endL], fun _ => ⟨[], (0, 0), rfl, rfl⟩, fun h' => by rw [h] at h'; cases h'⟩
  rw [hasL_cons, hasL_nil, Bool.or_false]
  by_cases hr : 0 ≤ r ∧ r ≤ 0
  · have : r = 0 := by omega
    rw [this, h]
    decide
  · rw [decide_eq_false hr, Bool.false_and]
    exact decide_eq_false (by dsimp only; omega)
theorem mid_skip (h : Mid f a out) (ha : 0 ≤ a) (hn : Near f a b) (hb : f b = false) : Mid f b out := by
  obtain ⟨h1, h2, h3, h4, h5⟩ := h
  have hab : a < b := by rcases hn with rfl | ⟨h, _⟩ <;> omega
  refine ⟨h1, fun r => ?_, by omega, (fun h' => by rw [hb] at h'; cases h'), fun _ => by omega⟩
  rw [h2 r]
  by_cases hr : a < r ∧ r ≤ b
  · have : f r = false := by
      rcases hn with hn | ⟨_, hn⟩
      · rw [show r = b by omega]; exact hb
      · rw [hn r (by omega) hr.2, ← hn b (by omega) (Int.le_refl _)]; exact hb
    rw [this, Bool.and_false, Bool.and_false]
  · congr 1
    apply decide_eq_decide.2
    omega
theorem mid_join {v : List (Int × Int)} {q : Int × Int} (h : Mid f a (v ++ [q])) (ha : 0 ≤ a) (hb1 : b ≤ 1114111) (hn : Near f a b) (hfa : f a = true) (hb : f b = true) : Mid f b (v ++ [(q.1, b)]) := by
  obtain ⟨h1, h2, h3, h4, h5⟩ := h
  have hab : a < b := by rcases hn with rfl | ⟨h, _⟩ <;> omega
  obtain ⟨v', q', e, hq⟩ := h4 hfa
  obtain ⟨rfl, e2⟩ := List.append_inj' e rfl
  injection e2 with e2 _
  subst e2
  obtain ⟨c1, c2, c3, c4⟩ := (canonF_snoc q v 0).1 h1
  refine ⟨(canonF_snoc _ v 0).2 ⟨c1, c2, by dsimp only; omega, by dsimp only; omega⟩, fun r => ?_, by rw [endL_snoc]; dsimp only; omega, fun _ => ⟨v, (q.1, b), rfl, rfl⟩, fun h' => by rw [hb] at h'; cases h'⟩
  have e := h2 r
  rw [hasL_append, hasL_cons, hasL_nil, Bool.or_false] at e ⊢
  have hv : hasL v r = true → r < q.1 := fun hv => by
    rcases Int.lt_or_le r q.1 with h | h
    · exact h
    · have hge : ∀ (s : List (Int × Int)) (lo : Int), CanonF lo s → hasL s r = true → r + 2 ≤ endL lo s := by
        intro s
        induction s with
        | nil => intro lo _ h; cases h
        | cons p s ih =>
          intro lo hc hh
          obtain ⟨x1, x2, x3, x4⟩ := hc
          rw [hasL_cons, Bool.or_eq_true, decide_eq_true_eq] at hh
          have hmono : ∀ (s : List (Int × Int)) (lo : Int), CanonF lo s → lo ≤ endL lo s := by
            intro s
            induction s with
            | nil => intro lo _; exact Int.le_refl _
            | cons p s ih => intro lo ⟨y1, y2, y3, y4⟩; have := ih _ y4; show lo ≤ endL (p.2 + 2) s; omega
          show r + 2 ≤ endL (p.2 + 2) s
          rcases hh with hh | hh
          · have := hmono s _ x4; omega
          · exact ih _ x4 hh
      have := hge v 0 c1 hv
      omega
  by_cases hr : a < r ∧ r ≤ b
  · have hf : f r = true := by
      rcases hn with hn | ⟨_, hn⟩
      · rw [show r = b by omega]; exact hb
      · rw [hn r (by omega) hr.2]; exact hfa
    rw [hf, decide_eq_true (show 0 ≤ r ∧ r ≤ b by omega), decide_eq_true (by dsimp only; omega), Bool.or_true]
    rfl
  · rw [show decide (0 ≤ r ∧ r ≤ b) = decide (0 ≤ r ∧ r ≤ a) from decide_eq_decide.2 (by omega), ← e]
    congr 1
    apply decide_eq_decide.2
    dsimp only
    omega
theorem mid_push (h : Mid f a out) (ha : 0 ≤ a) (hb1 : b ≤ 1114111) (hn : Near f a b) (hfa : f a = false) (hb : f b = true) : Mid f b (out ++ [(b, b)]) := by
  obtain ⟨h1, h2, h3, h4, h5⟩ := h
  have hba : b = a + 1 := by
    rcases hn with hn | ⟨h, hn⟩
    · exact hn
    · rw [hn b (by omega) (Int.le_refl _), hfa] at hb; cases hb
  have h6 := h5 hfa
  refine ⟨(canonF_snoc _ out 0).2 ⟨h1, by dsimp only; omega, by dsimp only; omega, by dsimp only; omega⟩, fun r => ?_, by rw [endL_snoc]; dsimp only; omega, fun _ => ⟨out, (b, b), rfl, rfl⟩, fun h' => by rw [hb] at h'; cases h'⟩
  rw [hasL_append, h2 r, hasL_cons, hasL_nil, Bool.or_false]
  by_cases hr : r = b
  · rw [hr, hb, decide_eq_true (show 0 ≤ b ∧ b ≤ b by omega), Bool.and_true, Bool.and_true]
    rw [decide_eq_true (show b ≤ b ∧ b ≤ b ∧ 0 ≤ b ∧ b ≤ 1114111 by omega), Bool.or_true]
  · rw [decide_eq_false (show ¬ ((b, b).1 ≤ r ∧ r ≤ (b, b).2 ∧ 0 ≤ r ∧ r ≤ 1114111) by dsimp only; omega), Bool.or_false]
    congr 1
    apply decide_eq_decide.2
    omega
theorem mid_last (h : Mid f 1114111 out) : out = setOf f := setOf_one h.1 h.2.1
end
end Go.Proofs.YtjpabeeokgfloaaDoor
/- Rows of whole numbers: cut, and one appended to another that the call owns. -/
namespace Go.Proofs.YtjpabeeokgfloaaDoor
open Go Go.RowKit
set_option linter.unusedVariables false
set_option maxRecDepth 20000

theorem rowI_upto {k : IntKind} {w : World} {A : Option Addr} {n : Nat} {xs : List Int} (h : RowI k w A n xs) {m : Nat} (hm : m ≤ n) : RowI k w A m (xs.take m) := by
  refine ⟨by rw [List.length_take, h.1]; omega, fun h0 => ?_⟩
  obtain ⟨b, o, hA, hlt, hc⟩ := h.2 (by omega)
  refine ⟨b, o, hA, hlt, fun j hj => ?_⟩
  rw [hc j (by omega)]
  simp [List.getD, hj]
theorem rowI_from {k : IntKind} {w : World} {A : Option Addr} {n : Nat} {xs : List Int} (h : RowI k w A n xs) {m : Nat} (hm : m ≤ n) : RowI k w (Option.map (fun x => x.add m) A) (n - m) (xs.drop m) := by
  refine ⟨by rw [List.length_drop, h.1], fun h0 => ?_⟩
  obtain ⟨b, o, rfl, hlt, hc⟩ := h.2 (by omega)
  refine ⟨b, o + m, by simp [Addr.add], hlt, fun j hj => ?_⟩
  rw [show o + m + j = o + (m + j) by omega, hc (m + j) (by omega)]
  simp [List.getD]
theorem rowI_keep {k : IntKind} {w w' : World} {A : Option Addr} {n : Nat} {xs : List Int} (h : RowI k w A n xs) (hk : ∀ b o, A = some ⟨b, o, none⟩ → b < w.heap.size → w'.heap[b]? = w.heap[b]?) : RowI k w' A n xs := by
  refine ⟨h.1, fun h0 => ?_⟩
  obtain ⟨b, o, hA, hlt, hc⟩ := h.2 h0
  have hh := hk b o hA hlt
  have hlt' : b < w'.heap.size := (Array.getElem?_eq_some_iff.1 (hh.trans (Array.getElem?_eq_getElem hlt))).1
  refine ⟨b, o, hA, hlt', fun j hj => ?_⟩
  rw [← hc j hj]
  simp only [World.cell?, hh]
/-- append of a row of whole numbers to one that the call owns, and what stays. -/
theorem appI_at {W w : World} {P : Option Addr} {q pc : Nat} {xs : List Int} (hown : w.ownsRow W.heap.size 3 1 (.slice P q pc) q (xs.map (.int .i64))) {A : Option Addr} {m c : Nat} {ys : List Int} (hr : RowI .i64 w A m ys) (hA : A = none → m = 0 ∧ c = 0) (hq : q ≤ 100000) (hm : m ≤ 100000) (hb : Below W.heap.size W w) :
    ∃ P' pc' w', (Builtin.append_ #[37, 37] 37 #[.slice P q pc, .slice A m c]).run Tryd.prog w = .ok (.slice P' (q + m) pc') w' ∧
      w'.ownsRow W.heap.size 3 1 (.slice P' (q + m) pc') (q + m) ((xs ++ ys).map (.int .i64)) ∧ Below W.heap.size W w' ∧
      ∀ g, g < w.heap.size → (Value.slice P q pc).ownBlock ≠ some g → (Value.slice P' (q + m) pc').ownBlock ≠ some g ∧ w'.heap[g]? = w.heap[g]? := by
  obtain ⟨i0, hi, hz0, hz1, hz2⟩ := info_parts info_intG
  rw [List.map_append]
  rcases A with _ | ad
  · obtain ⟨rfl, rfl⟩ := hA rfl
    have hy : ys = [] := List.eq_nil_of_length_eq_zero hr.1
    subst hy
    rw [List.map_nil, List.append_nil]
    exact ⟨P, pc, w, run_append_owned_none (P := Tryd.prog) w W.heap.size 37 37 3 i0 1 Tryd.underlying37 hi _ q _ hown, hown, hb, fun g _ hne => ⟨hne, rfl⟩⟩
  · have hcells : ∀ j u, (ys.map (Value.int .i64))[j]? = some u → w.cell? (ad.add j) = some u := by
      intro j u hu
      rw [List.getElem?_map] at hu
      obtain ⟨y, hy, rfl⟩ := Option.map_eq_some_iff.1 hu
      have hj : j < m := by have := (List.getElem?_eq_some_iff.1 hy).1; rw [hr.1] at this; exact this
      obtain ⟨b, o, hA, _, hc⟩ := hr.2 (by omega)
      injection hA with hA
      subst hA
      rw [show (⟨b, o, none⟩ : Addr).add j = ⟨b, o + j, none⟩ by unfold Addr.add; split <;> simp_all, hc j hj]
      simp [List.getD, hy]
    obtain ⟨V', w', h1, h2, h3, _, h4⟩ := run_append_own_at (P := Tryd.prog) w W.heap.size 37 37 3 i0 (.int .i64 0) 1 8 Tryd.underlying37 hi hz0 hz1 hz2 rfl (by decide) _ q _ hown ad m c (ys.map (.int .i64)) (by rw [List.length_map, hr.1, Nat.mul_one]) hcells
      (by intro u hu; obtain ⟨y, _, rfl⟩ := List.mem_map.1 hu; rfl) (by unfold maxLen; omega) (by omega) hb.size
    have hb' : Below W.heap.size W w' := hb.grown h3 hb.size (by intro k hk; exact (row_lt hown hk).1)
    have key : ∀ g, g < w.heap.size → (Value.slice P q pc).ownBlock ≠ some g → V'.ownBlock ≠ some g ∧ w'.heap[g]? = w.heap[g]? := by
      intro g hg hne
      refine ⟨fun e => ?_, h3.block g hg fun e => hne e.symm⟩
      rcases h4 with h4 | h4
      · exact hne (h4 ▸ e)
      · rw [h4] at e
        injection e with e
        omega
    rcases h2.2 with ⟨rfl, h0⟩ | ⟨g, cap, cur, rfl, _⟩
    · rw [h0] at h2 ⊢
      exact ⟨none, 0, w', h1, h2, hb', key⟩
    · exact ⟨_, _, w', h1, h2, hb', key⟩
theorem ownI_nil (w : World) (B : Nat) : w.ownsRow B 3 1 (.slice none 0 0) 0 (([] : List Int).map (.int .i64)) := World.ownsRow_nil _ _ _ _
theorem ownI_row {w : World} {B : Nat} {P : Option Addr} {q pc : Nat} {xs : List Int} (h : w.ownsRow B 3 1 (.slice P q pc) q (xs.map (.int .i64))) : RowI .i64 w P q xs ∧ q ≤ pc ∧ pc ≤ maxLen ∧ (P = none → q = 0 ∧ pc = 0) ∧ ∀ b o, P = some ⟨b, o, none⟩ → (Value.slice P q pc).ownBlock = some b := by
  obtain ⟨A, c, e, h1, h2, h3⟩ := row_of_own h
  injection e with e1 e2 e3
  subst e1; subst e3
  refine ⟨h1, h2, h3, fun hP => ?_, fun b o hP => ?_⟩
  · subst hP
    rcases h.2 with ⟨e, h0⟩ | ⟨g, cap, cur, e, _⟩
    · injection e with _ _ e3
      exact ⟨h0, e3⟩
    · injection e with e1 _ _
      cases e1
  · subst hP
    rcases h.2 with ⟨e, h0⟩ | ⟨g, cap, cur, e, _⟩
    · injection e with e1 _ _
      cases e1
    · injection e with e1 _ _
      injection e1 with e1
      injection e1 with e1 _ _
      subst e1
      rfl
theorem ownI_kept {w w' : World} {B : Nat} {v : Value} {n : Nat} {xs : List Value} (h : w.ownsRow B 3 1 v n xs) (hb : Below w.heap.size w w') : w'.ownsRow B 3 1 v n xs := own_kept h hb
end Go.Proofs.YtjpabeeokgfloaaDoor
/- Rows of ranges that the call owns: append of ranges, a store into the last one. -/
namespace Go.Proofs.YtjpabeeokgfloaaDoor
open Go Go.RowKit
set_option linter.unusedVariables false
set_option maxRecDepth 20000

/-- append of ranges to a row of the call's own. -/
theorem app_inG' {W w : World} {P : Option Addr} {q pc : Nat} {xs : List (Int × Int)} (h : w.ownsRow W.heap.size 62 2 (.slice P q pc) q (cellsG xs)) {A : Option Addr} {n c : Nat} {s : List (Int × Int)} (hr : RowG w A n s) (hA : A = none → n = 0 ∧ c = 0) (hq : q ≤ 3000000) (hn : n ≤ 3000000) (hb : Below W.heap.size W w) :
    ∃ P' pc' w', (Builtin.append_ #[23, 23] 23 #[.slice P q pc, .slice A n c]).run Tryd.prog w = .ok (.slice P' (q + n) pc') w' ∧ w'.ownsRow W.heap.size 62 2 (.slice P' (q + n) pc') (q + n) (cellsG (xs ++ s)) ∧ Below W.heap.size W w' ∧ ∀ g, g < w.heap.size → (Value.slice P q pc).ownBlock ≠ some g → w'.heap[g]? = w.heap[g]? := by
  obtain ⟨i0, hi, hz0, hz1, hz2⟩ := info_parts info_rng
  have hl := hr.1
  rw [cellsG_append]
  rcases A with _ | ad
  · obtain ⟨rfl, rfl⟩ := hA rfl
    have hs : s = [] := List.eq_nil_of_length_eq_zero hl
    subst hs
    rw [show cellsG [] = [] from rfl, List.append_nil]
    exact ⟨P, pc, w, run_append_owned_none (P := Tryd.prog) w W.heap.size 23 23 62 i0 2 Tryd.underlying23 hi _ q _ h, h, hb, fun _ _ _ => rfl⟩
  · have hcells : ∀ j u, (cellsG s)[j]? = some u → w.cell? (ad.add j) = some u := by
      intro j u hu
      have hj : j < n * 2 := by
        have := cellsG_length s
        rcases Nat.lt_or_ge j (cellsG s).length with h1 | h1
        · omega
        · rw [List.getElem?_eq_none h1] at hu; cases hu
      obtain ⟨b, o, hA, _, hc⟩ := hr.2 (by omega)
      injection hA with hA
      subst hA
      have hadd : (⟨b, o, none⟩ : Addr).add j = ⟨b, o + j, none⟩ := by unfold Addr.add; split <;> simp_all
      obtain ⟨e0, e1⟩ := cellsG_at s (j / 2) (by omega)
      obtain ⟨c0, c1⟩ := hc (j / 2) (by omega)
      rw [hadd]
      rcases Nat.mod_two_eq_zero_or_one j with hm | hm
      · have e : j = j / 2 * 2 := by omega
        rw [e] at hu ⊢
        rw [e0] at hu
        rw [c0, hu]
      · have e : j = j / 2 * 2 + 1 := by omega
        rw [e] at hu ⊢
        rw [e1] at hu
        rw [← Nat.add_assoc, c1, hu]
    obtain ⟨V', w', h1, h2, h3, _⟩ := run_append_own (P := Tryd.prog) w W.heap.size 23 23 62 i0 _ 2 16 Tryd.underlying23 hi hz0 hz1 hz2 rfl (by decide) _ q _ h ad n c (cellsG s) (by rw [cellsG_length, hl]) hcells
      (by intro u hu; obtain ⟨p, _, hp⟩ := List.mem_flatMap.1 hu; simp at hp; rcases hp with rfl | rfl <;> rfl) (by unfold maxLen; omega) (by omega) hb.size
    have hb' : Below W.heap.size W w' := hb.grown h3 hb.size (by intro k hk; exact (row_lt h hk).1)
    have hk' : ∀ g, g < w.heap.size → (Value.slice P q pc).ownBlock ≠ some g → w'.heap[g]? = w.heap[g]? := fun g hg hne => h3.block g hg fun e => hne e.symm
    rcases h2.2 with ⟨rfl, h0⟩ | ⟨b, cap, cu, rfl, _⟩
    · rw [h0] at h2 ⊢
      exact ⟨none, 0, w', h1, h2, hb', hk'⟩
    · exact ⟨_, _, w', h1, h2, hb', hk'⟩
/-- .. without what stays. -/
theorem app_inG {W w : World} {P : Option Addr} {q pc : Nat} {xs : List (Int × Int)} (h : w.ownsRow W.heap.size 62 2 (.slice P q pc) q (cellsG xs)) {A : Option Addr} {n c : Nat} {s : List (Int × Int)} (hr : RowG w A n s) (hA : A = none → n = 0 ∧ c = 0) (hq : q ≤ 3000000) (hn : n ≤ 3000000) (hb : Below W.heap.size W w) :
    ∃ P' pc' w', (Builtin.append_ #[23, 23] 23 #[.slice P q pc, .slice A n c]).run Tryd.prog w = .ok (.slice P' (q + n) pc') w' ∧ w'.ownsRow W.heap.size 62 2 (.slice P' (q + n) pc') (q + n) (cellsG (xs ++ s)) ∧ Below W.heap.size W w' := by
  obtain ⟨P', pc', w', h1, h2, h3, _⟩ := app_inG' h hr hA hq hn hb
  exact ⟨P', pc', w', h1, h2, h3⟩
/-- Ranges that lie in a block just made. -/
theorem rowG_made (w : World) (s : List (Int × Int)) : RowG (w.alloc (.cells (cellsG s).toArray 62)) (some ⟨w.heap.size, 0, none⟩) s.length s := by
  refine ⟨rfl, fun hn => ⟨w.heap.size, 0, rfl, by simp, fun j hj => ?_⟩⟩
  obtain ⟨e1, e2⟩ := cellsG_at s j hj
  refine ⟨?_, ?_⟩
  · rw [cell_of_row _ w.heap.size (0 + j * 2) _ 62 (0, 0) (heap_alloc_new w _), ← e1, Nat.zero_add]; simp
  · rw [cell_of_row _ w.heap.size (0 + j * 2 + 1) _ 62 (0, 0) (heap_alloc_new w _), ← e2, Nat.zero_add]; simp
theorem ownG_alloc {w : World} {B : Nat} {v : Value} {n : Nat} {xs : List Value} (h : w.ownsRow B 62 2 v n xs) (o : Obj) : (w.alloc o).ownsRow B 62 2 v n xs :=
  row_keep h fun k hk _ => Below.heap_alloc w o k hk
theorem ownG_kept {w w' : World} {B : Nat} {v : Value} {n : Nat} {xs : List Value} (h : w.ownsRow B 62 2 v n xs) (hb : Below w.heap.size w w') : w'.ownsRow B 62 2 v n xs :=
  row_keep h fun k hk _ => hb.block k hk
/-- append of ranges that are listed. -/
theorem push_rngs {W w : World} {P : Option Addr} {q pc : Nat} {xs : List (Int × Int)} (h : w.ownsRow W.heap.size 62 2 (.slice P q pc) q (cellsG xs)) (s : List (Int × Int)) (hq : q ≤ 3000000) (hn : s.length ≤ 3000000) (hb : Below W.heap.size W w) :
    ∃ P' pc' w', (Builtin.append_ #[23, 23] 23 #[.slice P q pc, .slice (some ⟨w.heap.size, 0, none⟩) s.length s.length]).run Tryd.prog (w.alloc (.cells (cellsG s).toArray 62)) = .ok (.slice P' (q + s.length) pc') w' ∧ w'.ownsRow W.heap.size 62 2 (.slice P' (q + s.length) pc') (q + s.length) (cellsG (xs ++ s)) ∧ Below W.heap.size W w' :=
  app_inG (ownG_alloc h _) (rowG_made w s) (fun e => by cases e) hq hn (hb.alloc hb.size _)
/-- .. and what stays. -/
theorem push_keep {W w : World} {P : Option Addr} {q pc : Nat} {xs : List (Int × Int)} (h : w.ownsRow W.heap.size 62 2 (.slice P q pc) q (cellsG xs)) (s : List (Int × Int)) (hq : q ≤ 3000000) (hn : s.length ≤ 3000000) (hb : Below W.heap.size W w) :
    ∃ P' pc' w', (Builtin.append_ #[23, 23] 23 #[.slice P q pc, .slice (some ⟨w.heap.size, 0, none⟩) s.length s.length]).run Tryd.prog (w.alloc (.cells (cellsG s).toArray 62)) = .ok (.slice P' (q + s.length) pc') w' ∧ w'.ownsRow W.heap.size 62 2 (.slice P' (q + s.length) pc') (q + s.length) (cellsG (xs ++ s)) ∧ Below W.heap.size W w' ∧ ∀ g, g < w.heap.size → (Value.slice P q pc).ownBlock ≠ some g → w'.heap[g]? = w.heap[g]? := by
  obtain ⟨P', pc', w', h1, h2, h3, h4⟩ := app_inG' (ownG_alloc h (.cells (cellsG s).toArray 62)) (rowG_made w s) (fun e => by cases e) hq hn (hb.alloc hb.size _)
  exact ⟨P', pc', w', h1, h2, h3, fun g hg hne => (h4 g (by simp; omega) hne).trans (Below.heap_alloc w _ g hg)⟩
theorem nilG (w : World) (B : Nat) : w.ownsRow B 62 2 (.slice none 0 0) 0 (cellsG []) := World.ownsRow_nil _ _ _ _

/-- The last one's end is set. -/
theorem cellsG_last (v : List (Int × Int)) (q : Int × Int) (y : Int) : (cellsG (v ++ [q])).set (v.length * 2 + 1) (.int .i64 y) = cellsG (v ++ [(q.1, y)]) := by
  rw [cellsG_append, cellsG_append, List.set_append_right _ _ (by rw [cellsG_length]; omega), cellsG_length, show v.length * 2 + 1 - v.length * 2 = 1 by omega]
  rfl
theorem last_own {W w : World} {P : Option Addr} {n pc : Nat} {v : List (Int × Int)} {q : Int × Int} (h : w.ownsRow W.heap.size 62 2 (.slice P n pc) n (cellsG (v ++ [q]))) (hb : Below W.heap.size W w) :
    ∃ g, P = some ⟨g, 0, none⟩ ∧ n = v.length + 1 ∧ W.heap.size ≤ g ∧ g < w.heap.size ∧ n ≤ pc ∧ pc ≤ maxLen ∧ w.cell? ⟨g, v.length * 2, none⟩ = some (.int .i64 q.1) ∧ w.cell? ⟨g, v.length * 2 + 1, none⟩ = some (.int .i64 q.2) ∧ w.frozen? ⟨g, v.length * 2 + 1, none⟩ = false ∧
      ∀ y, (w.setCell ⟨g, v.length * 2 + 1, none⟩ (.int .i64 y)).ownsRow W.heap.size 62 2 (.slice P n pc) n (cellsG (v ++ [(q.1, y)])) ∧ Below W.heap.size W (w.setCell ⟨g, v.length * 2 + 1, none⟩ (.int .i64 y)) := by
  have hl := h.1
  rw [cellsG_length, List.length_append] at hl
  simp only [List.length_cons, List.length_nil] at hl
  rcases h.2 with ⟨e, h0⟩ | ⟨g, cap, cur, e, hB, hg, hnc, hcm, hcs, ht⟩
  · omega
  · injection e with e1 _ e3
    subst e1; subst e3
    obtain ⟨x1, x2⟩ := cellsG_at (v ++ [q]) v.length (by simp)
    have hd : (v ++ [q]).getD v.length (0, 0) = q := by simp [List.getD]
    rw [hd] at x1 x2
    have hc : ∀ j, j < n * 2 → w.cell? ⟨g, j, none⟩ = (cellsG (v ++ [q]))[j]? := fun j hj => by
      rw [cell_of_row w g j cur 62 (0, 0) hg, ← ht, List.getElem?_take_of_lt hj, Array.getElem?_toList]
    refine ⟨g, rfl, by omega, hB, (Array.getElem?_eq_some_iff.1 hg).1, hnc, hcm, by rw [hc _ (by omega), x1], by rw [hc _ (by omega), x2], by simp [World.frozen?, hg], fun y => ?_⟩
    obtain ⟨s1, s2⟩ := h.stored (v.length * 2 + 1) (.int .i64 y)
    rw [cellsG_last] at s1
    exact ⟨s1, hb.grown s2 hb.size (by intro k hk; injection hk with hk; omega)⟩
end Go.Proofs.YtjpabeeokgfloaaDoor
/- Rows of whole numbers: one behind the other, and read. -/
namespace Go.Proofs.YtjpabeeokgfloaaDoor
open Go Go.RowKit
set_option linter.unusedVariables false

/-- append of a row of whole numbers to a row of the call's own. -/
theorem rowsI_append {W w : World} {B2 : Nat} {P P2 : Option Addr} {q pc q2 pc2 : Nat} {xs ys : List Int} (h : w.ownsRow W.heap.size 3 1 (.slice P q pc) q (xs.map (.int .i64))) (h2 : w.ownsRow B2 3 1 (.slice P2 q2 pc2) q2 (ys.map (.int .i64))) (hq : q ≤ 100000) (hq2 : q2 ≤ 100000) (hb : Below W.heap.size W w) :
    ∃ P' pc' w', (Builtin.append_ #[37, 37] 37 #[.slice P q pc, .slice P2 q2 pc2]).run Tryd.prog w = .ok (.slice P' (q + q2) pc') w' ∧
      w'.ownsRow W.heap.size 3 1 (.slice P' (q + q2) pc') (q + q2) ((xs ++ ys).map (.int .i64)) ∧ Below W.heap.size W w' := by
  obtain ⟨i0, hi, hz0, hz1, hz2⟩ := info_parts info_intG
  rw [List.map_append]
  rcases h2.2 with ⟨e1, e2⟩ | ⟨g2, cap2, cu2, e1, hb2, hg2, hn2, hm2, hc2, ht2⟩
  · injection e1 with e3 e4 e5
    subst e3; subst e4; subst e5
    have e6 : ys.map (Value.int .i64) = [] := List.eq_nil_of_length_eq_zero (by simpa using h2.1)
    rw [e6, List.append_nil]
    exact ⟨P, pc, w, run_append_owned_none (P := Tryd.prog) w W.heap.size 37 37 3 i0 1 Tryd.underlying37 hi _ q _ h, h, hb⟩
  · injection e1 with e3 e4 e5
    subst e3
    obtain ⟨V', w', r1, r2, r3, _⟩ := run_append_own (P := Tryd.prog) w W.heap.size 37 37 3 i0 _ 1 8 Tryd.underlying37 hi hz0 hz1 hz2 rfl (by decide) _ q _ h ⟨g2, 0, none⟩ q2 pc2 (ys.map (.int .i64)) (by simpa using h2.1)
      (h2.cells (g := g2) rfl) (by intro u hu; obtain ⟨x, _, rfl⟩ := List.mem_map.1 hu; rfl) (by unfold maxLen; omega) (by omega) hb.size
    have hb' : Below W.heap.size W w' := hb.grown r3 hb.size (by intro k hk; exact (row_lt h hk).1)
    rcases r2.2 with ⟨rfl, h0⟩ | ⟨b, cap, cu, rfl, _⟩
    · rw [h0] at r2 ⊢
      exact ⟨none, 0, w', r1, r2, hb'⟩
    · exact ⟨_, _, w', r1, r2, hb'⟩
/-- An element of it. -/
theorem cellI {w : World} {B q pc : Nat} {P : Option Addr} {xs : List Int} (h : w.ownsRow B 3 1 (.slice P q pc) q (xs.map (.int .i64))) {i : Nat} (hi : i < q) : ∃ g, P = some ⟨g, 0, none⟩ ∧ w.cell? ⟨g, i, none⟩ = some (.int .i64 (xs.getD i 0)) := by
  have hl : xs.length = q := by simpa using h.1
  rcases h.2 with ⟨e, h0⟩ | ⟨g, cap, cu, e, _⟩
  · omega
  · injection e with e1 _ _
    subst e1
    refine ⟨g, rfl, ?_⟩
    rw [h.cellAt i (by omega), List.getElem?_map, List.getElem?_eq_getElem (by omega)]
    simp [List.getD, List.getElem?_eq_getElem (show i < xs.length by omega)]
end Go.Proofs.YtjpabeeokgfloaaDoor
