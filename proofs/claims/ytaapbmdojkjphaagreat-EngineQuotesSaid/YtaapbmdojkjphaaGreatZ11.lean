/- Texts. -/
import Derived.Test.YtaapbmdojkjphaaGreatZ01
import Derived.Test.YtaapbmdojkjphaaGreatZ02
import Derived.Test.YtaapbmdojkjphaaGreatZ03
import Derived.Test.YtaapbmdojkjphaaGreatZ04
import Derived.Test.YtaapbmdojkjphaaGreatZ10
namespace Go.Proofs.YtaapbmdojkjphaaGreat
open Go Go.RowKit
set_option linter.unusedVariables false
set_option maxRecDepth 20000
def ptsL : Nat → List Int → Option (List Int)
  | _, [] => some []
  | 0, _ :: _ => none
  | f + 1, x :: l => if (getI (x :: l)).2 = szI (getI (x :: l)).1 then (ptsL f ((x :: l).drop (getI (x :: l)).2.toNat)).map fun r => (getI (x :: l)).1 :: r else none
theorem ptsL_fuel : ∀ (f : Nat) (l : List Int), l.length ≤ f → ptsL f l = ptsL l.length l
  | 0, [], _ => rfl
  | 0, _ :: _, h => by simp at h
  | f + 1, [], _ => rfl
  | f + 1, x :: l, h => by
    rw [List.length_cons, ptsL, ptsL]
    have hb := getI_bounds (l := x :: l) (by simp)
    have hd : ((x :: l).drop (getI (x :: l)).2.toNat).length ≤ l.length := by
      rw [List.length_drop, List.length_cons]; omega
    rw [List.length_cons] at h
    rw [ptsL_fuel f _ (by omega), ptsL_fuel l.length _ hd]
def pointsL (l : List Int) : Option (List Int) := ptsL l.length l
theorem pointsL_nil : pointsL [] = some [] := rfl
theorem pointsL_cons {l : List Int} (h : l ≠ []) : pointsL l = if (getI l).2 = szI (getI l).1 then (pointsL (l.drop (getI l).2.toNat)).map fun r => (getI l).1 :: r else none := by
  rcases l with _ | ⟨x, l⟩
  · exact absurd rfl h
  · have hb := getI_bounds (l := x :: l) (by simp)
    have hd : ((x :: l).drop (getI (x :: l)).2.toNat).length ≤ l.length := by
      rw [List.length_drop, List.length_cons]; omega
    unfold pointsL
    rw [List.length_cons, ptsL, ptsL_fuel _ _ hd]
theorem ptsL_is : ∀ (f : Nat) (l xs : List Int), ptsL f l = some xs → ∀ x ∈ xs, isI x = true
  | _, [], xs, h, x, hx => by
    rw [ptsL] at h
    · injection h with h; subst h; simp at hx
  | 0, _ :: _, xs, h, x, hx => by cases h
  | f + 1, y :: l, xs, h, x, hx => by
    rw [ptsL] at h
    split at h
    · obtain ⟨r, hr, rfl⟩ := Option.map_eq_some_iff.1 h
      rcases List.mem_cons.1 hx with rfl | hx
      · exact getI_is _
      · exact ptsL_is f _ r hr x hx
    · cases h
theorem pointsL_is {l xs : List Int} (h : pointsL l = some xs) : ∀ x ∈ xs, 0 ≤ x ∧ x ≤ 1114111 := fun x hx => isI_cases (ptsL_is _ _ _ h x hx)
theorem pointsL_len : ∀ (N : Nat) (l xs : List Int), l.length ≤ N → pointsL l = some xs → xs.length ≤ l.length
  | N, [], xs, _, h => by
    rw [pointsL_nil] at h; injection h with h; subst h; simp
  | 0, _ :: _, _, hN, _ => by simp at hN
  | N + 1, x :: l, xs, hN, h => by
    have hb := getI_bounds (l := x :: l) (by simp)
    rw [pointsL_cons (by simp)] at h
    split at h
    · obtain ⟨r, hr, rfl⟩ := Option.map_eq_some_iff.1 h
      rw [List.length_cons] at hN
      have h2 : ((x :: l).drop (getI (x :: l)).2.toNat).length + 1 ≤ (x :: l).length := by rw [List.length_drop, List.length_cons]; omega
      have := pointsL_len N _ r (by rw [List.length_cons] at h2; omega) hr
      rw [List.length_cons]; omega
    · cases h
def DecV (s : ByteArray) (w : World) (e : Ending) (w' : World) : Prop :=
  Below w.heap.size w w' ∧ ((e = .returned (.tuple #[.slice none 0 0, .bool false]) ∧ pointsL (nums s) = none) ∨
  ∃ P q pc xs, e = .returned (.tuple #[.slice P q pc, .bool true]) ∧ pointsL (nums s) = some xs ∧ w'.ownsRow w.heap.size 3 1 (.slice P q pc) q (xs.map (.int .i64)))
end Go.Proofs.YtaapbmdojkjphaaGreat
namespace Go.Proofs.YtaapbmdojkjphaaGreat
open Go Go.RowKit
set_option linter.unusedVariables false
def isOpen (t : TokL) : Bool := t.kind == 1 && t.r == 40
def isShut (t : TokL) : Bool := t.kind == 1 && t.r == 41
def closeL : Nat → List TokL → Option Nat
  | _, [] => none
  | c, t :: l =>
    if isOpen t = true then (closeL (c + 1) l).map (· + 1)
    else if isShut t = true then (match c with | 0 => some 0 | c + 1 => (closeL c l).map (· + 1))
    else (closeL c l).map (· + 1)
theorem closeL_cons (c : Nat) (t : TokL) (l : List TokL) : closeL c (t :: l) = if isOpen t = true then (closeL (c + 1) l).map (· + 1) else if isShut t = true then (match c with | 0 => some 0 | c + 1 => (closeL c l).map (· + 1)) else (closeL c l).map (· + 1) := by
  cases c <;> rfl
def TokOk (t : TokL) : Prop := t.kind = 0 ∨ t.kind = 2 ∨ (t.kind = 1 ∧ (t.r = 124 ∨ t.r = 94 ∨ t.r = 36 ∨ t.r = 40 ∨ t.r = 41))
theorem closeL_lt : ∀ (l : List TokL) (c j : Nat), closeL c l = some j → j < l.length
  | [], _, _, h => by cases h
  | t :: l, c, j, h => by
    rw [closeL_cons] at h
    rw [List.length_cons]
    split at h
    · obtain ⟨i, hi, rfl⟩ := Option.map_eq_some_iff.1 h
      have := closeL_lt l _ i hi
      omega
    · split at h
      · rcases c with _ | c
        · injection h with h; omega
        · obtain ⟨i, hi, rfl⟩ := Option.map_eq_some_iff.1 h
          have := closeL_lt l _ i hi
          omega
      · obtain ⟨i, hi, rfl⟩ := Option.map_eq_some_iff.1 h
        have := closeL_lt l _ i hi
        omega
section
variable {D : Nat} {t : TokL} {l : List TokL} {st : List (Wood × Wood)} {a p : Wood} {lo : Bool}
theorem run_char (h : t.kind = 0) : runT D (t :: l) st a p lo = runT D l st a (p.app (leaf 1 t.set)) true := by
  cases st <;> simp [runT, h]
theorem run_count (h : t.kind = 2) : runT D (t :: l) st a p lo = if lo = true then runT D l st a (repLast t.mn t.mx p) false else none := by
  cases st <;> simp [runT, h]
theorem run_bar (h : t.kind = 1) (hr : t.r = 124) : runT D (t :: l) st a p lo = runT D l st (a.app (oneN 4 p)) .nil false := by
  cases st <;> simp [runT, h, hr]
theorem run_begin (h : t.kind = 1) (hr : t.r = 94) : runT D (t :: l) st a p lo = runT D l st a (p.app (leaf 2 [])) false := by
  cases st <;> simp [runT, h, hr]
theorem run_end (h : t.kind = 1) (hr : t.r = 36) : runT D (t :: l) st a p lo = runT D l st a (p.app (leaf 3 [])) false := by
  cases st <;> simp [runT, h, hr]
theorem run_shut_nil (h : t.kind = 1) (hr : t.r = 41) : runT D (t :: l) [] a p lo = none := by
  simp [runT, h, hr]
theorem run_shut (a' p' : Wood) (h : t.kind = 1) (hr : t.r = 41) : runT D (t :: l) ((a', p') :: st) a p lo = runT D l st a' (p'.app (finN a p)) true := by
  simp [runT, h, hr]
theorem run_paren (h : t.kind = 1) (hr : t.r = 40) : runT D (t :: l) st a p lo = if D + st.length < 10 then runT D l ((a, p) :: st) .nil .nil false else none := by
  cases st <;> simp [runT, h, hr]
theorem open_no (h : t.kind ≠ 1 ∨ t.r ≠ 40) : isOpen t = false := by
  unfold isOpen
  rcases h with h | h
  · simp [h]
  · simp [h]
theorem shut_no (h : t.kind ≠ 1 ∨ t.r ≠ 41) : isShut t = false := by
  unfold isShut
  rcases h with h | h
  · simp [h]
  · simp [h]
theorem close_other (c : Nat) (h1 : isOpen t = false) (h2 : isShut t = false) : closeL c (t :: l) = (closeL c l).map (· + 1) := by
  rw [closeL_cons, h1, h2]
  rfl
theorem close_open (c : Nat) (h : t.kind = 1) (hr : t.r = 40) : closeL c (t :: l) = (closeL (c + 1) l).map (· + 1) := by
  rw [closeL_cons]
  simp [isOpen, h, hr]
theorem close_shut (c : Nat) (h : t.kind = 1) (hr : t.r = 41) : closeL c (t :: l) = (match c with | 0 => some 0 | c + 1 => (closeL c l).map (· + 1)) := by
  rw [closeL_cons]
  simp [isOpen, isShut, h, hr]
end
theorem run_close (D : Nat) (a p : Wood) (st : List (Wood × Wood)) : ∀ (l : List TokL), (∀ t ∈ l, TokOk t) → ∀ (st' : List (Wood × Wood)) (x y : Wood) (lo : Bool) (j : Nat), closeL st'.length l = some j →
    runT D l (st' ++ (a, p) :: st) x y lo = (runT (D + 1 + st.length) (l.take j) st' x y lo).bind fun n => runT D (l.drop (j + 1)) st a (p.app n) true
  | [], _, _, _, _, _, _, h => by cases h
  | t :: l, hok, st', x, y, lo, j, h => by
    have hl : ∀ t ∈ l, TokOk t := fun t ht => hok t (List.mem_cons_of_mem _ ht)
    rcases hok t (by simp) with h0 | h2 | ⟨h1, hr | hr | hr | hr | hr⟩
    · rw [close_other _ (open_no (by omega)) (shut_no (by omega))] at h
      obtain ⟨i, hi, rfl⟩ := Option.map_eq_some_iff.1 h
      rw [List.take_succ_cons, run_char h0, run_char h0, run_close D a p st l hl st' _ _ _ i hi, List.drop_succ_cons]
    · rw [close_other _ (open_no (by omega)) (shut_no (by omega))] at h
      obtain ⟨i, hi, rfl⟩ := Option.map_eq_some_iff.1 h
      rw [List.take_succ_cons, run_count h2, run_count h2, List.drop_succ_cons]
      cases lo with
      | false => rfl
      | true => rw [if_pos rfl, if_pos rfl, run_close D a p st l hl st' _ _ _ i hi]
    · rw [close_other _ (open_no (by omega)) (shut_no (by omega))] at h
      obtain ⟨i, hi, rfl⟩ := Option.map_eq_some_iff.1 h
      rw [List.take_succ_cons, run_bar h1 hr, run_bar h1 hr, run_close D a p st l hl st' _ _ _ i hi, List.drop_succ_cons]
    · rw [close_other _ (open_no (by omega)) (shut_no (by omega))] at h
      obtain ⟨i, hi, rfl⟩ := Option.map_eq_some_iff.1 h
      rw [List.take_succ_cons, run_begin h1 hr, run_begin h1 hr, run_close D a p st l hl st' _ _ _ i hi, List.drop_succ_cons]
    · rw [close_other _ (open_no (by omega)) (shut_no (by omega))] at h
      obtain ⟨i, hi, rfl⟩ := Option.map_eq_some_iff.1 h
      rw [List.take_succ_cons, run_end h1 hr, run_end h1 hr, run_close D a p st l hl st' _ _ _ i hi, List.drop_succ_cons]
    · rw [close_open _ h1 hr] at h
      obtain ⟨i, hi, rfl⟩ := Option.map_eq_some_iff.1 h
      rw [List.take_succ_cons, run_paren h1 hr, run_paren h1 hr, List.drop_succ_cons, List.length_append, List.length_cons]
      by_cases hd : D + 1 + st.length + st'.length < 10
      · rw [if_pos hd, if_pos (by omega), ← List.cons_append, run_close D a p st l hl ((x, y) :: st') _ _ _ i (by simpa using hi)]
      · rw [if_neg hd, if_neg (by omega)]
        rfl
    · rw [close_shut _ h1 hr] at h
      rcases st' with _ | ⟨⟨u, v⟩, st'⟩
      · injection h with h
        subst h
        rw [List.nil_append, run_shut _ _ h1 hr]
        rfl
      · obtain ⟨i, hi, rfl⟩ := Option.map_eq_some_iff.1 h
        rw [List.take_succ_cons, List.cons_append, run_shut _ _ h1 hr, run_shut _ _ h1 hr, List.drop_succ_cons, run_close D a p st l hl st' _ _ _ i hi]
theorem run_open (D : Nat) (a p : Wood) (st : List (Wood × Wood)) : ∀ (l : List TokL), (∀ t ∈ l, TokOk t) → ∀ (st' : List (Wood × Wood)) (x y : Wood) (lo : Bool), closeL st'.length l = none →
    runT D l (st' ++ (a, p) :: st) x y lo = none
  | [], _, st', _, _, _, _ => by rcases st' with _ | ⟨q, st'⟩ <;> rfl
  | t :: l, hok, st', x, y, lo, h => by
    have hl : ∀ t ∈ l, TokOk t := fun t ht => hok t (List.mem_cons_of_mem _ ht)
    rcases hok t (by simp) with h0 | h2 | ⟨h1, hr | hr | hr | hr | hr⟩
    · rw [close_other _ (open_no (by omega)) (shut_no (by omega)), Option.map_eq_none_iff] at h
      rw [run_char h0, run_open D a p st l hl st' _ _ _ h]
    · rw [close_other _ (open_no (by omega)) (shut_no (by omega)), Option.map_eq_none_iff] at h
      rw [run_count h2, run_open D a p st l hl st' _ _ _ h]
      split <;> rfl
    · rw [close_other _ (open_no (by omega)) (shut_no (by omega)), Option.map_eq_none_iff] at h
      rw [run_bar h1 hr, run_open D a p st l hl st' _ _ _ h]
    · rw [close_other _ (open_no (by omega)) (shut_no (by omega)), Option.map_eq_none_iff] at h
      rw [run_begin h1 hr, run_open D a p st l hl st' _ _ _ h]
    · rw [close_other _ (open_no (by omega)) (shut_no (by omega)), Option.map_eq_none_iff] at h
      rw [run_end h1 hr, run_open D a p st l hl st' _ _ _ h]
    · rw [close_open _ h1 hr, Option.map_eq_none_iff] at h
      rw [run_paren h1 hr]
      split
      · rw [← List.cons_append]
        exact run_open D a p st l hl ((x, y) :: st') _ _ _ (by simpa using h)
      · rfl
    · rw [close_shut _ h1 hr] at h
      rcases st' with _ | ⟨⟨u, v⟩, st'⟩
      · cases h
      · simp only [List.length_cons, Option.map_eq_none_iff] at h
        rw [List.cons_append, run_shut _ _ h1 hr]
        exact run_open D a p st l hl st' _ _ _ h
end Go.Proofs.YtaapbmdojkjphaaGreat
namespace Go.Proofs.YtaapbmdojkjphaaGreat
open Go Go.RowKit
set_option linter.unusedVariables false
theorem ptL_lt {l : List Int} {s : List (Int × Int)} {is : Bool} {r : List Int} (h : ptL l = some (s, is, r)) : r.length < l.length := by
  rcases l with _ | ⟨x, l⟩
  · cases h
  unfold ptL at h
  dsimp only at h
  split at h
  · cases h
  split at h
  · rcases l with _ | ⟨e, l⟩
    · cases h
    · dsimp only at h
      obtain ⟨p, _, h⟩ := Option.map_eq_some_iff.1 h
      injection h with _ h; injection h with _ h; subst h
      simp only [List.length_cons]; omega
  · injection h with h; injection h with _ h; injection h with _ h; subst h
    simp
theorem partL_lt {l : List Int} {s : List (Int × Int)} {r : List Int} (h : partL l = some (s, r)) : r.length < l.length := by
  unfold partL at h
  split at h
  · cases h
  · rename_i s1 is l1 h1
    have q1 := ptL_lt h1
    split at h
    · rename_i l2
      split at h
      · split at h
        · rename_i t l3 h3
          have q3 := ptL_lt h3
          split at h
          · cases h
          · injection h with h; injection h with _ h; subst h
            simp only [List.length_cons] at q1; omega
        · cases h
      · injection h with h; injection h with _ h; subst h; exact q1
    · injection h with h; injection h with _ h; subst h; exact q1
theorem partsL_lt : ∀ (f : Nat) (l : List Int) (xs : List (Int × Int)) (more : Bool) (s : List (Int × Int)) (r : List Int), partsL f l xs more = some (s, r) → r.length < l.length
  | 0, _, _, _, _, _, h => by cases h
  | f + 1, l, xs, more, s, r, h => by
    rw [partsL.eq_def] at h
    dsimp only at h
    split at h
    · injection h with h; injection h with _ h; subst h; simp
    · split at h
      · cases h
      · rename_i s1 l1 h1
        have := partL_lt h1
        have := partsL_lt f _ _ _ _ _ h
        omega
theorem classL_lt {l : List Int} {s : List (Int × Int)} {r : List Int} (h : classL l = some (s, r)) : r.length < l.length := by
  unfold classL at h
  split at h
  · obtain ⟨⟨a, b⟩, h1, h⟩ := Option.map_eq_some_iff.1 h
    injection h with _ h; subst h
    have := partsL_lt _ _ _ _ _ _ h1
    simp only [List.length_cons]; omega
  · obtain ⟨⟨a, b⟩, h1, h⟩ := Option.map_eq_some_iff.1 h
    injection h with _ h; subst h
    exact partsL_lt _ _ _ _ _ _ h1
theorem numL_lt {l : List Int} {a : Int} {r : List Int} (h : numL l = some (a, r)) : r.length < l.length := by
  unfold numL at h
  split at h
  · split at h
    · split at h
      · split at h
        · cases h
        · injection h with h; injection h with _ h; subst h; simp only [List.length_cons]; omega
      · injection h with h; injection h with _ h; subst h; simp
    · cases h
  · split at h
    · injection h with h; injection h with _ h; subst h; simp
    · cases h
  · cases h
theorem braceL_lt {l : List Int} {t : TokL} {r : List Int} (h : braceL l = some (t, r)) : r.length < l.length := by
  unfold braceL at h
  split at h
  · rename_i l' h1
    have := numL_lt h1
    injection h with h; injection h with _ h; subst h; simp only [List.length_cons] at this; omega
  · rename_i l' h1
    have := numL_lt h1
    injection h with h; injection h with _ h; subst h; simp only [List.length_cons] at this; omega
  · rename_i l' _ h1
    have := numL_lt h1
    split at h
    · rename_i l'' h2
      have := numL_lt h2
      split at h
      · cases h
      · injection h with h; injection h with _ h; subst h; simp only [List.length_cons] at *; omega
    · cases h
  · cases h
theorem tokL_lt {l : List Int} {t : TokL} {r : List Int} (h : tokL l = some (t, r)) : r.length < l.length := by
  rcases l with _ | ⟨x, l⟩
  · cases h
  unfold tokL at h
  dsimp only at h
  rw [List.length_cons]
  split at h
  · injection h with h; injection h with _ h; subst h; omega
  split at h
  · injection h with h; injection h with _ h; subst h; omega
  split at h
  · injection h with h; injection h with _ h; subst h; omega
  split at h
  · injection h with h; injection h with _ h; subst h; omega
  split at h
  · have := braceL_lt h; omega
  split at h
  · injection h with h; injection h with _ h; subst h; omega
  split at h
  · obtain ⟨⟨a, b⟩, h1, h⟩ := Option.map_eq_some_iff.1 h
    injection h with _ h; subst h
    have := classL_lt h1; simp only; omega
  split at h
  · rcases l with _ | ⟨e, l⟩
    · cases h
    · obtain ⟨p, _, h⟩ := Option.map_eq_some_iff.1 h
      injection h with _ h; subst h; simp only [List.length_cons]; omega
  split at h
  · cases h
  · injection h with h; injection h with _ h; subst h; omega
theorem toksL_fuel : ∀ (f : Nat) (l : List Int), l.length ≤ f → toksL f l = toksL l.length l
  | 0, [], _ => rfl
  | 0, _ :: _, h => by simp at h
  | f + 1, [], _ => rfl
  | f + 1, r :: l, h => by
    rw [List.length_cons, toksL, toksL]
    rcases ht : tokL (r :: l) with _ | ⟨t, l'⟩
    · rfl
    · have := tokL_lt ht
      rw [List.length_cons] at this h
      dsimp only
      rw [toksL_fuel f l' (by omega), toksL_fuel l.length l' (by omega)]
def runL (l : List Int) (st : List (Wood × Wood)) (a p : Wood) (lo : Bool) : Option Wood := (toksL l.length l).bind fun ts => runT 0 ts st a p lo
section
variable {l l' : List Int} {t : TokL} {st : List (Wood × Wood)} {a p : Wood} {lo : Bool}
theorem runL_nil : runL [] st a p lo = if st = [] then some (finN a p) else none := by
  rcases st with _ | ⟨x, st⟩ <;> simp [runL, toksL, runT]
theorem toksL_none {r : Int} (h : tokL (r :: l) = none) : toksL (r :: l).length (r :: l) = none := by rw [List.length_cons, toksL, h]
theorem toksL_some {r : Int} (h : tokL (r :: l) = some (t, l')) : toksL (r :: l).length (r :: l) = (toksL l'.length l').map fun ts => t :: ts := by
  have := tokL_lt h
  rw [List.length_cons] at this
  rw [List.length_cons, toksL, h]
  dsimp only
  rw [toksL_fuel _ _ (by omega)]
theorem runL_none (h : tokL l = none) (hl : l ≠ []) : runL l st a p lo = none := by
  rcases l with _ | ⟨r, l⟩
  · exact absurd rfl hl
  · unfold runL; rw [toksL_none h]; rfl
theorem runL_some (h : tokL l = some (t, l')) : runL l st a p lo = (toksL l'.length l').bind fun ts => runT 0 (t :: ts) st a p lo := by
  rcases l with _ | ⟨r, l⟩
  · cases h
  · unfold runL
    rw [toksL_some h]
    rcases toksL l'.length l' with _ | ts <;> rfl
theorem runL_char (h : tokL l = some (t, l')) (hk : t.kind = 0) : runL l st a p lo = runL l' st a (p.app (leaf 1 t.set)) true := by
  rw [runL_some h]; simp only [run_char hk]; rfl
theorem runL_count (h : tokL l = some (t, l')) (hk : t.kind = 2) : runL l st a p lo = if lo = true then runL l' st a (repLast t.mn t.mx p) false else none := by
  rw [runL_some h]; simp only [run_count hk]
  cases lo with
  | true => rfl
  | false => rcases toksL l'.length l' with _ | ts <;> rfl
theorem runL_bar (h : tokL l = some (t, l')) (hk : t.kind = 1) (hr : t.r = 124) : runL l st a p lo = runL l' st (a.app (oneN 4 p)) .nil false := by
  rw [runL_some h]; simp only [run_bar hk hr]; rfl
theorem runL_begin (h : tokL l = some (t, l')) (hk : t.kind = 1) (hr : t.r = 94) : runL l st a p lo = runL l' st a (p.app (leaf 2 [])) false := by
  rw [runL_some h]; simp only [run_begin hk hr]; rfl
theorem runL_end (h : tokL l = some (t, l')) (hk : t.kind = 1) (hr : t.r = 36) : runL l st a p lo = runL l' st a (p.app (leaf 3 [])) false := by
  rw [runL_some h]; simp only [run_end hk hr]; rfl
theorem runL_paren (h : tokL l = some (t, l')) (hk : t.kind = 1) (hr : t.r = 40) : runL l st a p lo = if st.length < 10 then runL l' ((a, p) :: st) .nil .nil false else none := by
  rw [runL_some h]; simp only [run_paren hk hr, Nat.zero_add]
  by_cases hd : st.length < 10
  · simp only [if_pos hd]; rfl
  · simp only [if_neg hd]; rcases toksL l'.length l' with _ | ts <;> rfl
theorem runL_shut (h : tokL l = some (t, l')) (hk : t.kind = 1) (hr : t.r = 41) : runL l st a p lo = match st with
    | [] => none
    | (a', p') :: st' => runL l' st' a' (p'.app (finN a p)) true := by
  rw [runL_some h]
  rcases st with _ | ⟨⟨a', p'⟩, st⟩
  · simp only [run_shut_nil hk hr]; rcases toksL l'.length l' with _ | ts <;> rfl
  · simp only [run_shut _ _ hk hr]; rfl
end
theorem tok_bar (l : List Int) : tokL (124 :: l) = some (tokS 124, l) := rfl
theorem tok_open (l : List Int) : tokL (40 :: l) = some (tokS 40, l) := rfl
theorem tok_shut (l : List Int) : tokL (41 :: l) = some (tokS 41, l) := rfl
theorem tok_begin (l : List Int) : tokL (94 :: l) = some (tokS 94, l) := rfl
theorem tok_end (l : List Int) : tokL (36 :: l) = some (tokS 36, l) := rfl
theorem tok_star (l : List Int) : tokL (42 :: l) = some (tokN 0 (-1), l) := rfl
theorem tok_plus (l : List Int) : tokL (43 :: l) = some (tokN 1 (-1), l) := rfl
theorem tok_quest (l : List Int) : tokL (63 :: l) = some (tokN 0 1, l) := rfl
theorem tok_brace (l : List Int) : tokL (123 :: l) = braceL l := rfl
theorem tok_dot (l : List Int) : tokL (46 :: l) = some (tokC [(0, 9), (11, 1114111)], l) := rfl
theorem tok_class (l : List Int) : tokL (91 :: l) = (classL l).map fun p => (tokC p.1, p.2) := rfl
theorem tok_back (e : Int) (l : List Int) : tokL (92 :: e :: l) = (escL e).map fun p => (tokC p.1, l) := rfl
theorem tok_shutb (l : List Int) : tokL (93 :: l) = none := rfl
theorem tok_shutc (l : List Int) : tokL (125 :: l) = none := rfl
def signB (r : Int) : Bool := decide (r ∈ [46, 94, 36, 124, 40, 41, 91, 93, 123, 125, 42, 43, 63, 92])
theorem tok_plain {r : Int} (l : List Int) (h : signB r = false) : tokL (r :: l) = some (tokC [(r, r)], l) := by
  unfold signB at h
  rw [decide_eq_false_iff_not] at h
  simp only [List.mem_cons, List.not_mem_nil, or_false, not_or] at h
  unfold tokL
  dsimp only
  rw [if_neg (by omega), if_neg (by omega), if_neg (by omega), if_neg (by omega), if_neg (by omega), if_neg (by omega), if_neg (by omega), if_neg (by omega), if_neg (by omega)]
def countB (r : Int) : Bool := decide (r = 42 ∨ r = 43 ∨ r = 63 ∨ r = 123)
theorem braceL_kind {l l' : List Int} {t : TokL} (h : braceL l = some (t, l')) : t.kind = 2 := by
  unfold braceL at h
  split at h
  · injection h with h; injection h with h _; subst h; rfl
  · injection h with h; injection h with h _; subst h; rfl
  · split at h
    · split at h
      · cases h
      · injection h with h; injection h with h _; subst h; rfl
    · cases h
  · cases h
theorem tok_kind {r : Int} {l l' : List Int} {t : TokL} (h : tokL (r :: l) = some (t, l')) : t.kind = 2 ↔ countB r = true := by
  unfold countB
  rw [decide_eq_true_iff]
  unfold tokL at h
  dsimp only at h
  split at h
  · injection h with h; injection h with h _; subst h; simp only [tokS]; omega
  split at h
  · injection h with h; injection h with h _; subst h; exact ⟨fun _ => by omega, fun _ => rfl⟩
  split at h
  · injection h with h; injection h with h _; subst h; exact ⟨fun _ => by omega, fun _ => rfl⟩
  split at h
  · injection h with h; injection h with h _; subst h; exact ⟨fun _ => by omega, fun _ => rfl⟩
  split at h
  · have := braceL_kind h; omega
  split at h
  · injection h with h; injection h with h _; subst h; simp only [tokC]; omega
  split at h
  · obtain ⟨⟨a, b⟩, h1, h⟩ := Option.map_eq_some_iff.1 h
    injection h with h _; subst h; simp only [tokC]; omega
  split at h
  · rcases l with _ | ⟨e, l⟩
    · cases h
    · obtain ⟨p, _, h⟩ := Option.map_eq_some_iff.1 h
      injection h with h _; subst h; simp only [tokC]; omega
  split at h
  · cases h
  · injection h with h; injection h with h _; subst h; simp only [tokC]; omega
theorem runT_loose {D : Nat} {t : TokL} {ts : List TokL} {st : List (Wood × Wood)} {a p : Wood} {lo lo' : Bool} (h : t.kind ≠ 2) : runT D (t :: ts) st a p lo = runT D (t :: ts) st a p lo' := by
  cases st <;> simp [runT, h]
theorem runL_loose {l : List Int} {st : List (Wood × Wood)} {a p : Wood} {lo lo' : Bool} (h : countB (l.headD (-1)) = false) : runL l st a p lo = runL l st a p lo' := by
  rcases l with _ | ⟨r, l⟩
  · rw [runL_nil, runL_nil]
  · rcases ht : tokL (r :: l) with _ | ⟨t, l'⟩
    · rw [runL_none ht (by simp), runL_none ht (by simp)]
    · have hk : t.kind ≠ 2 := fun e => by
        have := (tok_kind ht).1 e
        rw [List.headD_cons] at h
        rw [h] at this
        cases this
      rw [runL_some ht, runL_some ht]
      simp only [runT_loose (lo := lo) (lo' := lo') hk]
theorem runL_count_no {l : List Int} {st : List (Wood × Wood)} {a p : Wood} (h : countB (l.headD (-1)) = true) : runL l st a p false = none := by
  rcases l with _ | ⟨r, l⟩
  · exact absurd h (by decide)
  · rcases ht : tokL (r :: l) with _ | ⟨t, l'⟩
    · rw [runL_none ht (by simp)]
    · rw [runL_count ht ((tok_kind ht).2 h)]
      rfl
theorem repLast_app (mn mx : Int) (n : Wood) (hn : n.len = 1) : ∀ p : Wood, repLast mn mx (p.app n) = p.app (.cons 6 [] mn mx n .nil)
  | .nil => by
    obtain ⟨o, s, x, z, k, rfl⟩ := Wood.one_of_len hn
    rfl
  | .cons o s x z k .nil => by
    obtain ⟨o', s', x', z', k', rfl⟩ := Wood.one_of_len hn
    rfl
  | .cons o s x z k (.cons o2 s2 x2 z2 k2 y) => by
    have ih := repLast_app mn mx n hn (.cons o2 s2 x2 z2 k2 y)
    simp only [Wood.app, repLast] at ih ⊢
    rw [ih]
def shutL (l : List Int) (st : List (Wood × Wood)) (n : Wood) : Option Wood :=
  match l, st with
  | [], [] => some n
  | 41 :: l', (a, p) :: st' => runL l' st' a (p.app n) true
  | _, _ => none
theorem shut_end {l : List Int} {st : List (Wood × Wood)} {a p : Wood} {lo : Bool} (h : l = [] ∨ ∃ l', l = 41 :: l') : runL l st a p lo = shutL l st (finN a p) := by
  rcases h with rfl | ⟨l', rfl⟩
  · rw [runL_nil]
    rcases st with _ | ⟨⟨x, y⟩, st⟩ <;> rfl
  · rw [runL_shut (tok_shut l') rfl rfl]
    rcases st with _ | ⟨⟨x, y⟩, st⟩ <;> rfl
end Go.Proofs.YtaapbmdojkjphaaGreat
namespace Go.Proofs.YtaapbmdojkjphaaGreat
open Go Go.RowKit
def parseT (s : ByteArray) : Option Wood := (pointsL (nums s)).bind treeL
end Go.Proofs.YtaapbmdojkjphaaGreat
namespace Go.Proofs.YtaapbmdojkjphaaGreat
open Go Go.RowKit
set_option linter.unusedVariables false
abbrev Pre := ByteArray × Bool
def rowP : ByteArray → List Pre → Pre
  | acc, [] => (acc, true)
  | acc, (s, b) :: t => if 200 < (acc ++ s).size then ((acc ++ s).extract 0 200, false) else if b = true then rowP (acc ++ s) t else (acc ++ s, false)
def likeL : List Int → List Int → Nat
  | x :: a, y :: b => if x = y then likeL a b + 1 else 0
  | _, _ => 0
def likeB (s t : ByteArray) : Nat := likeL (nums s) (nums t)
def altG : Pre → List Pre → Pre
  | p, [] => p
  | p, q :: t => let n := likeB p.1 q.1; altG (p.1.extract 0 n, ((p.2 && q.2) && n == p.1.size) && n == q.1.size) t
def altP : List Pre → Pre
  | [] => (ByteArray.empty, true)
  | q :: t => altG (q.1, true) (q :: t)
def charP : List (Int × Int) → Pre
  | [(a, b)] => if a = b ∧ isI a = true then (strOfNums (putI a), true) else (ByteArray.empty, false)
  | _ => (ByteArray.empty, false)
def repP (mn mx : Int) (kp : List Pre) : Pre :=
  ((rowP ByteArray.empty (List.replicate (min mn 201).toNat (rowP ByteArray.empty kp))).1, ((rowP ByteArray.empty kp).2 && (rowP ByteArray.empty (List.replicate (min mn 201).toNat (rowP ByteArray.empty kp))).2) && mx == max mn 0)
def nodeP (op : Int) (s : List (Int × Int)) (mn mx : Int) (kp : List Pre) : Pre :=
  if op = 0 then (ByteArray.empty, true) else if op = 1 then charP s else if op = 4 then rowP ByteArray.empty kp else if op = 5 then altP kp else if op = 6 then repP mn mx kp else (ByteArray.empty, false)
def prefs : Wood → List Pre
  | .nil => []
  | .cons op s mn mx k x => nodeP op s mn mx (prefs k) :: prefs x
theorem prefs_len : ∀ T : Wood, (prefs T).length = T.len
  | .nil => rfl
  | .cons op s mn mx k x => by rw [prefs, List.length_cons, prefs_len x, Wood.len]
theorem prefs_nth : ∀ (T : Wood) (j : Nat), j < T.len → prefs (T.nth j) = [(prefs T)[j]?.getD (ByteArray.empty, false)]
  | .nil, _, h => by simp [Wood.len] at h
  | .cons op s mn mx k x, 0, _ => rfl
  | .cons op s mn mx k x, j + 1, h => by
    rw [Wood.nth, prefs_nth x j (by simp only [Wood.len] at h; omega)]
    rfl
theorem likeL_le : ∀ a b : List Int, likeL a b ≤ a.length ∧ likeL a b ≤ b.length
  | [], _ => by simp [likeL]
  | _ :: _, [] => by simp [likeL]
  | x :: a, y :: b => by
    have := likeL_le a b
    rw [likeL]
    simp only [List.length_cons]
    split <;> omega
theorem likeL_is : ∀ (a b : List Int) (n : Nat), n ≤ a.length → n ≤ b.length → (∀ i, i < n → a[i]? = b[i]?) → (n = a.length ∨ n = b.length ∨ a[n]? ≠ b[n]?) → likeL a b = n
  | [], b, n, h1, _, _, _ => by simp at h1; subst h1; cases b <;> rfl
  | x :: a, [], n, _, h2, _, _ => by simp at h2; subst h2; rfl
  | x :: a, y :: b, 0, _, _, _, h => by
    have hxy : x ≠ y := by
      rcases h with h | h | h
      · simp at h
      · simp at h
      · intro e; subst e; simp at h
    rw [likeL, if_neg hxy]
  | x :: a, y :: b, n + 1, h1, h2, h3, h4 => by
    have h0 := h3 0 (by omega)
    simp at h0
    subst h0
    rw [likeL, if_pos rfl, likeL_is a b n (by simpa using h1) (by simpa using h2) (fun i hi => by simpa using h3 (i + 1) (by omega)) (by simpa using h4)]
theorem likeB_le (s t : ByteArray) : likeB s t ≤ s.size ∧ likeB s t ≤ t.size := by
  have := likeL_le (nums s) (nums t)
  rwa [nums_length, nums_length] at this
theorem rowP_size : ∀ (l : List Pre) (acc : ByteArray), acc.size ≤ 200 → (rowP acc l).1.size ≤ 200
  | [], acc, h => h
  | (s, b) :: t, acc, h => by
    rw [rowP]
    by_cases h1 : 200 < (acc ++ s).size
    · rw [if_pos h1]; simp only [ByteArray.size_extract]; omega
    · rw [if_neg h1]
      cases b
      · simpa using h1
      · rw [if_pos rfl]; exact rowP_size t _ (by omega)
theorem altG_size : ∀ (l : List Pre) (p : Pre), p.1.size ≤ 200 → (altG p l).1.size ≤ 200
  | [], p, h => h
  | q :: t, p, h => by rw [altG]; exact altG_size t _ (by simp only [ByteArray.size_extract]; omega)
theorem putI_short (r : Int) : (putI r).length ≤ 4 := by
  unfold putI
  repeat' split
  all_goals simp
theorem strN_size (l : List Int) : (strOfNums l).size = l.length := by
  show (strOfNums l).data.size = _
  rw [← Array.length_toList, strOfNums_data, List.length_map]
theorem charP_size (s : List (Int × Int)) : (charP s).1.size ≤ 200 := by
  unfold charP
  split
  · rename_i a b
    split
    · show (strOfNums (putI a)).size ≤ 200
      rw [strN_size]
      have := putI_short a
      omega
    · simp
  · simp
theorem prefs_size : ∀ T : Wood, ∀ p ∈ prefs T, p.1.size ≤ 200
  | .nil, p, h => by simp [prefs] at h
  | .cons op s mn mx k x, p, h => by
    rw [prefs, List.mem_cons] at h
    rcases h with rfl | h
    · unfold nodeP
      split; · simp
      split; · exact charP_size s
      split; · exact rowP_size _ _ (by simp)
      split
      · have hk := prefs_size k
        match hp : prefs k with
        | [] => simp [altP]
        | q :: t => rw [altP]; exact altG_size _ _ (hk q (by rw [hp]; simp))
      split; · exact rowP_size _ _ (by simp)
      simp
    · exact prefs_size x p h
end Go.Proofs.YtaapbmdojkjphaaGreat
namespace Go.Proofs.YtaapbmdojkjphaaGreat
open Go Go.RowKit
set_option linter.unusedVariables false
def Points (l : List Int) : Prop := ∀ c ∈ l, isI c = true
theorem Points.tail {c : Int} {l : List Int} (h : Points (c :: l)) : Points l := fun x hx => h x (List.mem_cons_of_mem _ hx)
theorem Points.head {c : Int} {l : List Int} (h : Points (c :: l)) : isI c = true := h c (List.mem_cons_self ..)
def quoteC (r : Int) : List Int := if r ∈ signL then [92, r] else if r = 10 then [92, 110] else if r = 13 then [92, 114] else if r = 9 then [92, 116] else [r]
def quoteL (l : List Int) : List Int := l.flatMap quoteC
theorem points_put : ∀ (xs : List Int), Points xs → pointsL (putAll xs) = some xs
  | [], _ => rfl
  | c :: l, h => by
    have hc := h.head
    have hl := putI_len c
    have hg := get_put hc (putAll l)
    have he : putAll (c :: l) = putI c ++ putAll l := rfl
    have hs : szI c = ((putI c).length : Int) := szI_len hc
    rw [he, pointsL_cons (by intro e; have := congrArg List.length e; rw [List.length_append, List.length_nil] at this; omega), hg]
    simp only
    rw [if_pos hs.symm, Int.toNat_natCast, List.drop_left, points_put l h.tail]
    rfl
theorem quoteC_points {r : Int} (h : isI r = true) : Points (quoteC r) := by
  intro x hx
  unfold quoteC at hx
  split at hx
  · simp at hx; rcases hx with rfl | rfl
    · decide
    · exact h
  · split at hx
    · simp at hx; rcases hx with rfl | rfl <;> decide
    · split at hx
      · simp at hx; rcases hx with rfl | rfl <;> decide
      · split at hx
        · simp at hx; rcases hx with rfl | rfl <;> decide
        · simp at hx; subst hx; exact h
theorem quoteL_points {l : List Int} (h : Points l) : Points (quoteL l) := fun x hx => by
  obtain ⟨c, hc, hx⟩ := List.mem_flatMap.1 hx
  exact quoteC_points (h c hc) x hx
theorem tok_quote (r : Int) (l : List Int) : tokL (quoteC r ++ l) = some (tokC [(r, r)], l) := by
  unfold quoteC
  by_cases hs : r ∈ signL
  · rw [if_pos hs]
    have he : escL r = some ([(r, r)], true) := by
      unfold escL
      have : ¬ (r = 100 ∨ r = 119 ∨ r = 115) ∧ ¬ (r = 68 ∨ r = 87 ∨ r = 83) ∧ ¬ r = 110 ∧ ¬ r = 114 ∧ ¬ r = 116 := by
        simp only [signL, List.mem_cons, List.not_mem_nil, or_false] at hs
        omega
      rw [if_neg this.1, if_neg this.2.1, if_neg this.2.2.1, if_neg this.2.2.2.1, if_neg this.2.2.2.2, if_pos hs]
    show (escL r).map _ = _
    rw [he]
    rfl
  · rw [if_neg hs]
    by_cases h1 : r = 10
    · subst h1; rfl
    rw [if_neg h1]
    by_cases h2 : r = 13
    · subst h2; rfl
    rw [if_neg h2]
    by_cases h3 : r = 9
    · subst h3; rfl
    rw [if_neg h3]
    simp only [signL, List.mem_cons, List.not_mem_nil, or_false, not_or] at hs
    show tokL (r :: l) = _
    rw [tokL.eq_def]
    dsimp only
    rw [if_neg (by omega), if_neg (by omega), if_neg (by omega), if_neg (by omega), if_neg (by omega), if_neg (by omega), if_neg (by omega), if_neg (by omega), if_neg (by omega)]
theorem quoteC_len (r : Int) : 1 ≤ (quoteC r).length ∧ (quoteC r).length ≤ 2 := by unfold quoteC; (repeat' split) <;> simp
def letterT (c : Int) : TokL := tokC [(c, c)]
theorem toks_quote : ∀ (l : List Int) (f : Nat), (quoteL l).length ≤ f → toksL f (quoteL l) = some (l.map letterT)
  | [], f, _ => by cases f <;> rfl
  | c :: l, 0, h => by
    have := quoteC_len c
    rw [show quoteL (c :: l) = quoteC c ++ quoteL l from rfl, List.length_append] at h
    omega
  | c :: l, f + 1, h => by
    have hc := quoteC_len c
    have e : quoteL (c :: l) = quoteC c ++ quoteL l := rfl
    have ih := toks_quote l f (by rw [e, List.length_append] at h; omega)
    have ht := tok_quote c (quoteL l)
    rw [← e] at ht
    cases hq : quoteL (c :: l) with
    | nil => rw [e] at hq; have := congrArg List.length hq; rw [List.length_append, List.length_nil] at this; omega
    | cons y m =>
      rw [toksL, ← hq, ht]
      simp only
      rw [ih]
      rfl
def leafs : List Int → Wood
  | [] => .nil
  | c :: l => .cons 1 [(c, c)] 0 0 .nil (leafs l)
theorem leafs_len : ∀ l, (leafs l).len = l.length
  | [] => rfl
  | c :: l => by simp [leafs, Wood.len, leafs_len l]
theorem run_letters : ∀ (l : List Int) (p : Wood) (lo : Bool), runT 0 (l.map letterT) [] .nil p lo = some (finN .nil (p.app (leafs l)))
  | [], p, lo => by rw [List.map_nil, runT, leafs, Wood.app_nil]
  | c :: l, p, lo => by
    rw [List.map_cons, runT.eq_def]
    dsimp only
    rw [if_pos (show (letterT c).kind = 0 from rfl), run_letters l _ true, Wood.app_assoc]
    rfl
theorem parse_quote {s : ByteArray} {l : List Int} (h : Points l) (hs : nums s = putAll (quoteL l)) : parseT s = some (finN .nil (leafs l)) := by
  unfold parseT
  rw [hs, points_put _ (quoteL_points h)]
  show treeL (quoteL l) = _
  unfold treeL
  rw [toks_quote l _ (Nat.le_refl _)]
  exact run_letters l .nil false
theorem fin_letters : ∀ (l : List Int), l ≠ [] → finN .nil (leafs l) = (if l.length = 1 then leafs l else .cons 4 [] 0 0 (leafs l) .nil)
  | [], h => absurd rfl h
  | [c], _ => rfl
  | c :: d :: l, _ => by
    rw [if_neg (by simp)]
    rfl
theorem prefs_leafs : ∀ l, Points l → prefs (leafs l) = l.map fun c => (strOfNums (putI c), true)
  | [], _ => rfl
  | c :: l, h => by
    rw [leafs, prefs, prefs_leafs l h.tail, List.map_cons]
    congr 1
    show charP [(c, c)] = _
    rw [charP, if_pos ⟨rfl, h.head⟩]
theorem strN_app (a b : List Int) : strOfNums a ++ strOfNums b = strOfNums (a ++ b) := by
  apply ByteArray.ext
  apply Array.toList_inj.1
  rw [ByteArray.data_append, Array.toList_append, strOfNums_data, strOfNums_data, strOfNums_data, List.map_append]
theorem rowP_leafs : ∀ (l : List Int) (a : List Int), a.length + (putAll l).length ≤ 200 → rowP (strOfNums a) (l.map fun c => (strOfNums (putI c), true)) = (strOfNums (a ++ putAll l), true)
  | [], a, _ => by show (strOfNums a, true) = _; rw [show putAll [] = [] from rfl, List.append_nil]
  | c :: l, a, h => by
    have e : putAll (c :: l) = putI c ++ putAll l := rfl
    rw [e, List.length_append] at h
    rw [List.map_cons, rowP, strN_app, if_neg (by rw [strN_size, List.length_append]; omega), if_pos rfl, rowP_leafs l _ (by rw [List.length_append]; omega), e, List.append_assoc]
theorem pre_quote {l : List Int} (h : Points l) (h0 : l ≠ []) (h200 : (putAll l).length ≤ 200) : (prefs (finN .nil (leafs l)))[0]?.getD (ByteArray.empty, false) = (strOfNums (putAll l), true) := by
  have hr := rowP_leafs l [] (by simpa using h200)
  rw [List.nil_append] at hr
  have hr : rowP ByteArray.empty (l.map fun c => (strOfNums (putI c), true)) = (strOfNums (putAll l), true) := hr
  rw [fin_letters l h0]
  by_cases h1 : l.length = 1
  · rw [if_pos h1, prefs_leafs l h]
    match l, h1 with
    | [c], _ =>
      show (strOfNums (putI c), true) = (strOfNums (putI c ++ []), true)
      rw [List.append_nil]
  · rw [if_neg h1]
    show nodeP 4 [] 0 0 (prefs (leafs l)) = _
    rw [prefs_leafs l h]
    exact hr
end Go.Proofs.YtaapbmdojkjphaaGreat
