/- The document's braces: a count behind its brace. -/
import Derived.Test.YtegcebgoiocakaaM04
import Derived.Test.YtegcebgoiocakaaM05
import Derived.Test.YtegcebgoiocakaaM14
import Derived.Laws.ResultCell
import Derived.BigQuiet
namespace Go.Proofs.Ytegcebgoiocakaa
open Go Go.RowKit
set_option linter.unusedVariables false
set_option maxRecDepth 20000

/-- A token as a value. -/
def tokV (t : TokL) (A : Option Addr) (n c : Nat) : Value := .agg #[.int .i64 t.kind, .int .i64 t.r, .slice A n c, .int .i64 t.mn, .int .i64 t.mx]
theorem numL_rest {l rest : List Int} {a : Int} (h : numL l = some (a, rest)) : ∃ k : Nat, 1 ≤ k ∧ k ≤ 2 ∧ rest = l.drop k ∧ k + rest.length = l.length ∧ 0 ≤ a ∧ a ≤ 50 ∧ numV l = (a, (k : Int)) := by
  rcases l with _ | ⟨x, _ | ⟨y, l⟩⟩
  · simp [numL] at h
  · by_cases hx : 48 ≤ x ∧ x ≤ 57
    · have hd := (isDig_iff x).2 hx
      simp [numL, hd] at h
      obtain ⟨rfl, rfl⟩ := h
      exact ⟨1, by omega, by omega, rfl, rfl, by omega, by omega, numV_one hx⟩
    · have hd : isDig x = false := by rw [← Bool.not_eq_true, isDig_iff]; exact hx
      simp [numL, hd] at h
  · by_cases hx : 48 ≤ x ∧ x ≤ 57
    · have hd := (isDig_iff x).2 hx
      by_cases hy : 48 ≤ y ∧ y ≤ 57
      · have hd2 := (isDig_iff y).2 hy
        by_cases hv : 10 * (x - 48) + (y - 48) > 50
        · simp [numL, hd, hd2, hv] at h
        · simp [numL, hd, hd2, hv] at h
          obtain ⟨rfl, rfl⟩ := h
          exact ⟨2, by omega, by omega, rfl, by simp; omega, by omega, by omega, by rw [numV_two hx hy, if_neg hv]; rfl⟩
      · have hd2 : isDig y = false := by rw [← Bool.not_eq_true, isDig_iff]; exact hy
        simp [numL, hd, hd2] at h
        obtain ⟨rfl, rfl⟩ := h
        exact ⟨1, by omega, by omega, rfl, by simp; omega, by omega, by omega, numV_oneb hx hy⟩
    · have hd : isDig x = false := by rw [← Bool.not_eq_true, isDig_iff]; exact hx
      simp [numL, hd] at h
theorem numL_none {l : List Int} (h : numL l = none) : numV l = (0, 0) := by unfold numV; rw [h]

/-- What braces answers. -/
def braceR (l : List Int) (e : Ending) : Prop :=
  match braceL l with
  | some (t, rest) => ∃ j : Nat, j + rest.length = l.length ∧ 1 ≤ j ∧ e = .returned (.tuple #[tokV t none 0 0, .int .i64 (j : Int)])
  | none => e = .returned (.tuple #[.agg #[.int .i64 0, .int .i64 0, .slice none 0 0, .int .i64 0, .int .i64 0], .int .i64 0])

set_option maxHeartbeats 2000000 in
theorem rbrace_none (l : List Int) (A : Option Addr) (n c : Nat) (W : World) (hr : RowI .i64 W A n l) (hn : n ≤ 1000) (hl : numL l = none) :
    Calls Try.prog 56 #[.slice A n c] W fun e w' => braceR l e ∧ Below W.heap.size W w' := by
  have HB := Lib.hid (show braceL l = none by unfold braceL; rw [hl])
  have hv := numL_none hl
  have hx : ∀ w, Below W.heap.size W w → Calls Try.prog 85 #[.slice A n c] w fun e w' => e = .returned (.tuple #[.int .i64 0, .int .i64 0]) ∧ w = w' := fun w h => by
    have := rnum_any l A n c w (hr.below h (Nat.le_refl _)) hn
    rw [hv] at this
    exact this
  have HX := Lib.hid hx
  clear hr hl hv hx
  go_enter Try.func56, Try.ntmps56
  go_wp2_with (go_at_call 85; refine (HX.out _ ((Below.refl _ _).alloc (Nat.le_refl _) _)).mono ?_; rintro e w1 ⟨rfl, rfl⟩)
  refine bodyPost_ret (v := .tuple #[.agg #[.int .i64 0, .int .i64 0, .slice none 0 0, .int .i64 0, .int .i64 0], .int .i64 0]) ?_ rfl ⟨?_, by go_grown⟩
  · rw [results_cell_tmp rfl]; go_simp
  · unfold braceR; rw [HB.out]

/-- A first number, and what is behind it. -/
theorem rbrace_head {l rest : List Int} {a : Int} {A : Option Addr} {n c : Nat} {W : World} (hr : RowI .i64 W A n l) (hn : n ≤ 1000) (hl : numL l = some (a, rest)) :
    ∃ (k : Nat) (b o : Nat), 1 ≤ k ∧ k ≤ 2 ∧ A = some ⟨b, o, none⟩ ∧ b < W.heap.size ∧ k + rest.length = n ∧ 0 ≤ a ∧ a ≤ 50 ∧ rest = l.drop k ∧ (∀ j, k + j < n → W.cell? ⟨b, o + (k + j), none⟩ = some (.int .i64 (rest.getD j 0))) ∧
      Hid (∀ w, Below W.heap.size W w → Calls Try.prog 85 #[.slice A n c] w fun e w' => e = .returned (.tuple #[.int .i64 a, .int .i64 (k : Int)]) ∧ w = w') := by
  obtain ⟨k, k1, k2, h1, h2, a0, a1, hv⟩ := numL_rest hl
  obtain ⟨b, o, rfl, hb, hc⟩ := hr.2 (by have := hr.1; omega)
  refine ⟨k, b, o, k1, k2, rfl, hb, by rw [h2, hr.1], a0, a1, h1, fun j hj => ?_, Lib.hid fun w h => ?_⟩
  · rw [hc (k + j) hj, h1]
    simp [List.getD]
  · have := rnum_any l (some ⟨b, o, none⟩) n c w (hr.below h (Nat.le_refl _)) hn
    rw [hv] at this
    exact this
set_option maxHeartbeats 4000000 in
theorem rbrace_end (l : List Int) (a : Int) (A : Option Addr) (n c : Nat) (W : World) (hr : RowI .i64 W A n l) (hn : n ≤ 1000) (hl : numL l = some (a, [])) :
    Calls Try.prog 56 #[.slice A n c] W fun e w' => braceR l e ∧ Below W.heap.size W w' := by
  have HB := Lib.hid (show braceL l = none by unfold braceL; rw [hl])
  obtain ⟨k, b, o, k1, k2, rfl, hb, hkn, a0, a1, hdr, hc, HX⟩ := rbrace_head (c := c) hr hn hl
  clear hdr
  have hk : ¬ (k : Int) = 0 := by omega
  have kb : ((k : Int) == 0) = false := by simpa using hk
  have hkn2 : (n : Int) ≤ (k : Int) := by simp at hkn; omega
  clear hr hl hc
  go_enter Try.func56, Try.ntmps56
  go_wp2_with (go_at_call 85; refine (HX.out _ ((Below.refl _ _).alloc (Nat.le_refl _) _)).mono ?_; rintro e w1 ⟨rfl, rfl⟩)
  refine bodyPost_ret (v := .tuple #[.agg #[.int .i64 0, .int .i64 0, .slice none 0 0, .int .i64 0, .int .i64 0], .int .i64 0]) ?_ rfl ⟨?_, by go_grown⟩
  · rw [results_cell_tmp rfl]; go_simp
  · unfold braceR; rw [HB.out]

set_option maxHeartbeats 4000000 in
theorem rbrace_shut (l r' : List Int) (a : Int) (A : Option Addr) (n c : Nat) (W : World) (hr : RowI .i64 W A n l) (hn : n ≤ 1000) (hl : numL l = some (a, 125 :: r')) :
    Calls Try.prog 56 #[.slice A n c] W fun e w' => braceR l e ∧ Below W.heap.size W w' := by
  have HB := Lib.hid (show braceL l = some (tokN a a, r') by unfold braceL; rw [hl]; rfl)
  obtain ⟨k, b, o, k1, k2, rfl, hb, hkn, a0, a1, hdr, hc, HX⟩ := rbrace_head (c := c) hr hn hl
  clear hdr
  rw [List.length_cons] at hkn
  have hk : ¬ (k : Int) = 0 := by omega
  have kb : ((k : Int) == 0) = false := by simpa using hk
  have hkn2 : (k : Int) < (n : Int) := by omega
  have c0 := hc 0 (by omega)
  rw [Nat.add_zero, show (125 :: r').getD 0 0 = 125 from rfl] at c0
  have HLN := Lib.hid (show (k + 1) + r'.length = l.length by have := hr.1; omega)
  clear hr hl hc hkn
  go_enter Try.func56, Try.ntmps56
  go_wp2_with (go_at_call 85; refine (HX.out _ ((Below.refl _ _).alloc (Nat.le_refl _) _)).mono ?_; rintro e w1 ⟨rfl, rfl⟩)
  refine bodyPost_ret (v := .tuple #[.agg #[.int .i64 2, .int .i64 0, .slice none 0 0, .int .i64 a, .int .i64 a], .int .i64 ((k : Int) + 1)]) ?_ rfl ⟨?_, by go_grown⟩
  · rw [results_cell_tmp rfl]; go_simp
  · unfold braceR; rw [HB.out]; exact ⟨k + 1, HLN.out, by omega, by rw [show ((k + 1 : Nat) : Int) = (k : Int) + 1 by omega]; rfl⟩
set_option maxHeartbeats 4000000 in
theorem rbrace_other (l r' : List Int) (a : Int) (x : Int) (h1 : x ≠ 125) (h2 : x ≠ 44) (A : Option Addr) (n c : Nat) (W : World) (hr : RowI .i64 W A n l) (hn : n ≤ 1000) (hl : numL l = some (a, x :: r')) :
    Calls Try.prog 56 #[.slice A n c] W fun e w' => braceR l e ∧ Below W.heap.size W w' := by
  have HB := Lib.hid (show braceL l = none by unfold braceL; rw [hl]; simp [h1, h2])
  obtain ⟨k, b, o, k1, k2, rfl, hb, hkn, a0, a1, hdr, hc, HX⟩ := rbrace_head (c := c) hr hn hl
  clear hdr
  rw [List.length_cons] at hkn
  have hk : ¬ (k : Int) = 0 := by omega
  have kb : ((k : Int) == 0) = false := by simpa using hk
  have hkn2 : (k : Int) < (n : Int) := by omega
  have c0 := hc 0 (by omega)
  rw [Nat.add_zero, show (x :: r').getD 0 0 = x from rfl] at c0
  have e1 : (x == 125) = false := by simpa using h1
  have e2 : (x != 44) = true := by simpa using h2
  clear hr hl hc hkn
  go_enter Try.func56, Try.ntmps56
  go_wp2_with (go_at_call 85; refine (HX.out _ ((Below.refl _ _).alloc (Nat.le_refl _) _)).mono ?_; rintro e w1 ⟨rfl, rfl⟩)
  refine bodyPost_ret (v := .tuple #[.agg #[.int .i64 0, .int .i64 0, .slice none 0 0, .int .i64 0, .int .i64 0], .int .i64 0]) ?_ rfl ⟨?_, by go_grown⟩
  · rw [results_cell_tmp rfl]; go_simp
  · unfold braceR; rw [HB.out]
set_option maxHeartbeats 4000000 in
theorem rbrace_comma (l r' : List Int) (a : Int) (A : Option Addr) (n c : Nat) (W : World) (hr : RowI .i64 W A n l) (hn : n ≤ 1000) (hl : numL l = some (a, [44])) :
    Calls Try.prog 56 #[.slice A n c] W fun e w' => braceR l e ∧ Below W.heap.size W w' := by
  have HB := Lib.hid (show braceL l = none by unfold braceL; rw [hl]; rfl)
  obtain ⟨k, b, o, k1, k2, rfl, hb, hkn, a0, a1, hdr, hc, HX⟩ := rbrace_head (c := c) hr hn hl
  clear hdr
  rw [List.length_cons] at hkn
  have hk : ¬ (k : Int) = 0 := by omega
  have kb : ((k : Int) == 0) = false := by simpa using hk
  have hkn2 : (k : Int) < (n : Int) := by omega
  have c0 := hc 0 (by omega)
  rw [Nat.add_zero, show ([(44 : Int)]).getD 0 0 = 44 from rfl] at c0
  have hkn3 : (n : Int) ≤ (k : Int) + 1 := by simp at hkn; omega
  clear hr hl hc hkn
  go_enter Try.func56, Try.ntmps56
  go_wp2_with (go_at_call 85; refine (HX.out _ ((Below.refl _ _).alloc (Nat.le_refl _) _)).mono ?_; rintro e w1 ⟨rfl, rfl⟩)
  refine bodyPost_ret (v := .tuple #[.agg #[.int .i64 0, .int .i64 0, .slice none 0 0, .int .i64 0, .int .i64 0], .int .i64 0]) ?_ rfl ⟨?_, by go_grown⟩
  · rw [results_cell_tmp rfl]; go_simp
  · unfold braceR; rw [HB.out]
set_option maxHeartbeats 4000000 in
theorem rbrace_open (l r' : List Int) (a : Int) (A : Option Addr) (n c : Nat) (W : World) (hr : RowI .i64 W A n l) (hn : n ≤ 1000) (hl : numL l = some (a, 44 :: 125 :: r')) :
    Calls Try.prog 56 #[.slice A n c] W fun e w' => braceR l e ∧ Below W.heap.size W w' := by
  have HB := Lib.hid (show braceL l = some (tokN a (-1), r') by unfold braceL; rw [hl]; rfl)
  obtain ⟨k, b, o, k1, k2, rfl, hb, hkn, a0, a1, hdr, hc, HX⟩ := rbrace_head (c := c) hr hn hl
  clear hdr
  rw [List.length_cons] at hkn
  have hk : ¬ (k : Int) = 0 := by omega
  have kb : ((k : Int) == 0) = false := by simpa using hk
  have hkn2 : (k : Int) < (n : Int) := by omega
  have c0 := hc 0 (by omega)
  rw [Nat.add_zero, show (44 :: 125 :: r').getD 0 0 = 44 from rfl] at c0
  rw [List.length_cons] at hkn
  have c1 := hc 1 (by omega)
  rw [show (44 :: 125 :: r').getD 1 0 = 125 from rfl] at c1
  have c2 := c1
  rw [← Nat.add_assoc] at c2
  have hkn3 : (k : Int) + 1 < (n : Int) := by omega
  have HLN := Lib.hid (show (k + 2) + r'.length = l.length by have := hr.1; omega)
  clear hr hl hc hkn
  go_enter Try.func56, Try.ntmps56
  go_wp2_with (go_at_call 85; refine (HX.out _ ((Below.refl _ _).alloc (Nat.le_refl _) _)).mono ?_; rintro e w1 ⟨rfl, rfl⟩)
  refine bodyPost_ret (v := .tuple #[.agg #[.int .i64 2, .int .i64 0, .slice none 0 0, .int .i64 a, .int .i64 (-1)], .int .i64 ((k : Int) + 2)]) ?_ rfl ⟨?_, by go_grown⟩
  · rw [results_cell_tmp rfl]; go_simp
  · unfold braceR; rw [HB.out]; exact ⟨k + 2, HLN.out, by omega, by rw [show ((k + 2 : Nat) : Int) = (k : Int) + 2 by omega]; rfl⟩
end Go.Proofs.Ytegcebgoiocakaa
/- Trees of tokens: an open parenthesis, what stands in it, and what is behind it. -/
namespace Go.Proofs.Ytegcebgoiocakaa
open Go Go.RowKit
set_option linter.unusedVariables false

def isOpen (t : TokL) : Bool := t.kind == 1 && t.r == 40
def isShut (t : TokL) : Bool := t.kind == 1 && t.r == 41
/-- Where the parenthesis that stands open c times more is closed. -/
def closeL : Nat → List TokL → Option Nat
  | _, [] => none
  | c, t :: l =>
    if isOpen t = true then (closeL (c + 1) l).map (· + 1)
    else if isShut t = true then (match c with | 0 => some 0 | c + 1 => (closeL c l).map (· + 1))
    else (closeL c l).map (· + 1)
theorem closeL_cons (c : Nat) (t : TokL) (l : List TokL) : closeL c (t :: l) = if isOpen t = true then (closeL (c + 1) l).map (· + 1) else if isShut t = true then (match c with | 0 => some 0 | c + 1 => (closeL c l).map (· + 1)) else (closeL c l).map (· + 1) := by
  cases c <;> rfl
/-- What a token may be. -/
def TokOk (t : TokL) : Prop := t.kind = 0 ∨ t.kind = 2 ∨ (t.kind = 1 ∧ (t.r = 124 ∨ t.r = 94 ∨ t.r = 36 ∨ t.r = 40 ∨ t.r = 41))

theorem closeL_lt : ∀ (l : List TokL) (c j : Nat), closeL c l = some j → j < l.length
  | [], _, _, h => by cases h
  | t :: l, c, j, h => by
    rw [closeL_cons] at h
    rw [List.length_cons]
    split at h
    · obtain ⟨i, hi, rfl⟩ := Option.map_eq_some_iff.1 h
      have := closeL_lt l _ i hi
      omega
    · split at h
      · rcases c with _ | c
        · injection h with h; omega
        · obtain ⟨i, hi, rfl⟩ := Option.map_eq_some_iff.1 h
          have := closeL_lt l _ i hi
          omega
      · obtain ⟨i, hi, rfl⟩ := Option.map_eq_some_iff.1 h
        have := closeL_lt l _ i hi
        omega

section
variable {D : Nat} {t : TokL} {l : List TokL} {st : List (Wood × Wood)} {a p : Wood} {lo : Bool}
theorem run_char (h : t.kind = 0) : runT D (t :: l) st a p lo = runT D l st a (p.app (leaf 1 t.set)) true := by
  cases st <;> simp [runT, h]
theorem run_count (h : t.kind = 2) : runT D (t :: l) st a p lo = if lo = true then runT D l st a (repLast t.mn t.mx p) false else none := by
  cases st <;> simp [runT, h]
theorem run_bar (h : t.kind = 1) (hr : t.r = 124) : runT D (t :: l) st a p lo = runT D l st (a.app (oneN 4 p)) .nil false := by
  cases st <;> simp [runT, h, hr]
theorem run_begin (h : t.kind = 1) (hr : t.r = 94) : runT D (t :: l) st a p lo = runT D l st a (p.app (leaf 2 [])) false := by
  cases st <;> simp [runT, h, hr]
theorem run_end (h : t.kind = 1) (hr : t.r = 36) : runT D (t :: l) st a p lo = runT D l st a (p.app (leaf 3 [])) false := by
  cases st <;> simp [runT, h, hr]
theorem run_shut_nil (h : t.kind = 1) (hr : t.r = 41) : runT D (t :: l) [] a p lo = none := by
  simp [runT, h, hr]
theorem run_shut (a' p' : Wood) (h : t.kind = 1) (hr : t.r = 41) : runT D (t :: l) ((a', p') :: st) a p lo = runT D l st a' (p'.app (finN a p)) true := by
  simp [runT, h, hr]
theorem run_paren (h : t.kind = 1) (hr : t.r = 40) : runT D (t :: l) st a p lo = if D + st.length < 10 then runT D l ((a, p) :: st) .nil .nil false else none := by
  cases st <;> simp [runT, h, hr]
theorem open_no (h : t.kind ≠ 1 ∨ t.r ≠ 40) : isOpen t = false := by
  unfold isOpen
  rcases h with h | h
  · simp [h]
  · simp [h]
theorem shut_no (h : t.kind ≠ 1 ∨ t.r ≠ 41) : isShut t = false := by
  unfold isShut
  rcases h with h | h
  · simp [h]
  · simp [h]
theorem close_other (c : Nat) (h1 : isOpen t = false) (h2 : isShut t = false) : closeL c (t :: l) = (closeL c l).map (· + 1) := by
  rw [closeL_cons, h1, h2]
  rfl
theorem close_open (c : Nat) (h : t.kind = 1) (hr : t.r = 40) : closeL c (t :: l) = (closeL (c + 1) l).map (· + 1) := by
  rw [closeL_cons]
  simp [isOpen, h, hr]
theorem close_shut (c : Nat) (h : t.kind = 1) (hr : t.r = 41) : closeL c (t :: l) = (match c with | 0 => some 0 | c + 1 => (closeL c l).map (· + 1)) := by
  rw [closeL_cons]
  simp [isOpen, isShut, h, hr]
end

theorem run_close (D : Nat) (a p : Wood) (st : List (Wood × Wood)) : ∀ (l : List TokL), (∀ t ∈ l, TokOk t) → ∀ (st' : List (Wood × Wood)) (x y : Wood) (lo : Bool) (j : Nat), closeL st'.length l = some j →
    runT D l (st' ++ (a, p) :: st) x y lo = (runT (D + 1 + st.length) (l.take j) st' x y lo).bind fun n => runT D (l.drop (j + 1)) st a (p.app n) true
  | [], _, _, _, _, _, _, h => by cases h
  | t :: l, hok, st', x, y, lo, j, h => by
    have hl : ∀ t ∈ l, TokOk t := fun t ht => hok t (List.mem_cons_of_mem _ ht)
    rcases hok t (by simp) with h0 | h2 | ⟨h1, hr | hr | hr | hr | hr⟩
    · rw [close_other _ (open_no (by omega)) (shut_no (by omega))] at h
      obtain ⟨i, hi, rfl⟩ := Option.map_eq_some_iff.1 h
      rw [List.take_succ_cons, run_char h0, run_char h0, run_close D a p st l hl st' _ _ _ i hi, List.drop_succ_cons]
    · rw [close_other _ (open_no (by omega)) (shut_no (by omega))] at h
      obtain ⟨i, hi, rfl⟩ := Option.map_eq_some_iff.1 h
      rw [List.take_succ_cons, run_count h2, run_count h2, List.drop_succ_cons]
      cases lo with
      | false => rfl
      | true => rw [if_pos rfl, if_pos rfl, run_close D a p st l hl st' _ _ _ i hi]
    · rw [close_other _ (open_no (by omega)) (shut_no (by omega))] at h
      obtain ⟨i, hi, rfl⟩ := Option.map_eq_some_iff.1 h
      rw [List.take_succ_cons, run_bar h1 hr, run_bar h1 hr, run_close D a p st l hl st' _ _ _ i hi, List.drop_succ_cons]
    · rw [close_other _ (open_no (by omega)) (shut_no (by omega))] at h
      obtain ⟨i, hi, rfl⟩ := Option.map_eq_some_iff.1 h
      rw [List.take_succ_cons, run_begin h1 hr, run_begin h1 hr, run_close D a p st l hl st' _ _ _ i hi, List.drop_succ_cons]
    · rw [close_other _ (open_no (by omega)) (shut_no (by omega))] at h
      obtain ⟨i, hi, rfl⟩ := Option.map_eq_some_iff.1 h
      rw [List.take_succ_cons, run_end h1 hr, run_end h1 hr, run_close D a p st l hl st' _ _ _ i hi, List.drop_succ_cons]
    · rw [close_open _ h1 hr] at h
      obtain ⟨i, hi, rfl⟩ := Option.map_eq_some_iff.1 h
      rw [List.take_succ_cons, run_paren h1 hr, run_paren h1 hr, List.drop_succ_cons, List.length_append, List.length_cons]
      by_cases hd : D + 1 + st.length + st'.length < 10
      · rw [if_pos hd, if_pos (by omega), ← List.cons_append, run_close D a p st l hl ((x, y) :: st') _ _ _ i (by simpa using hi)]
      · rw [if_neg hd, if_neg (by omega)]
        rfl
    · rw [close_shut _ h1 hr] at h
      rcases st' with _ | ⟨⟨u, v⟩, st'⟩
      · injection h with h
        subst h
        rw [List.nil_append, run_shut _ _ h1 hr]
        rfl
      · obtain ⟨i, hi, rfl⟩ := Option.map_eq_some_iff.1 h
        rw [List.take_succ_cons, List.cons_append, run_shut _ _ h1 hr, run_shut _ _ h1 hr, List.drop_succ_cons, run_close D a p st l hl st' _ _ _ i hi]

theorem run_open (D : Nat) (a p : Wood) (st : List (Wood × Wood)) : ∀ (l : List TokL), (∀ t ∈ l, TokOk t) → ∀ (st' : List (Wood × Wood)) (x y : Wood) (lo : Bool), closeL st'.length l = none →
    runT D l (st' ++ (a, p) :: st) x y lo = none
  | [], _, st', _, _, _, _ => by rcases st' with _ | ⟨q, st'⟩ <;> rfl
  | t :: l, hok, st', x, y, lo, h => by
    have hl : ∀ t ∈ l, TokOk t := fun t ht => hok t (List.mem_cons_of_mem _ ht)
    rcases hok t (by simp) with h0 | h2 | ⟨h1, hr | hr | hr | hr | hr⟩
    · rw [close_other _ (open_no (by omega)) (shut_no (by omega)), Option.map_eq_none_iff] at h
      rw [run_char h0, run_open D a p st l hl st' _ _ _ h]
    · rw [close_other _ (open_no (by omega)) (shut_no (by omega)), Option.map_eq_none_iff] at h
      rw [run_count h2, run_open D a p st l hl st' _ _ _ h]
      split <;> rfl
    · rw [close_other _ (open_no (by omega)) (shut_no (by omega)), Option.map_eq_none_iff] at h
      rw [run_bar h1 hr, run_open D a p st l hl st' _ _ _ h]
    · rw [close_other _ (open_no (by omega)) (shut_no (by omega)), Option.map_eq_none_iff] at h
      rw [run_begin h1 hr, run_open D a p st l hl st' _ _ _ h]
    · rw [close_other _ (open_no (by omega)) (shut_no (by omega)), Option.map_eq_none_iff] at h
      rw [run_end h1 hr, run_open D a p st l hl st' _ _ _ h]
    · rw [close_open _ h1 hr, Option.map_eq_none_iff] at h
      rw [run_paren h1 hr]
      split
      · rw [← List.cons_append]
        exact run_open D a p st l hl ((x, y) :: st') _ _ _ (by simpa using h)
      · rfl
    · rw [close_shut _ h1 hr] at h
      rcases st' with _ | ⟨⟨u, v⟩, st'⟩
      · cases h
      · simp only [List.length_cons, Option.map_eq_none_iff] at h
        rw [List.cons_append, run_shut _ _ h1 hr]
        exact run_open D a p st l hl st' _ _ _ h
end Go.Proofs.Ytegcebgoiocakaa
/- Code points gone through token by token. -/
namespace Go.Proofs.Ytegcebgoiocakaa
open Go Go.RowKit
set_option linter.unusedVariables false

/-! ### Each token takes code points away -/
theorem ptL_lt {l : List Int} {s : List (Int × Int)} {is : Bool} {r : List Int} (h : ptL l = some (s, is, r)) : r.length < l.length := by
  rcases l with _ | ⟨x, l⟩
  · cases h
  unfold ptL at h
  dsimp only at h
  split at h
  · cases h
  split at h
  · rcases l with _ | ⟨e, l⟩
    · cases h
    · dsimp only at h
      obtain ⟨p, _, h⟩ := Option.map_eq_some_iff.1 h
      injection h with _ h; injection h with _ h; subst h
      simp only [List.length_cons]; omega
  · injection h with h; injection h with _ h; injection h with _ h; subst h
    simp
theorem partL_lt {l : List Int} {s : List (Int × Int)} {r : List Int} (h : partL l = some (s, r)) : r.length < l.length := by
  unfold partL at h
  split at h
  · cases h
  · rename_i s1 is l1 h1
    have q1 := ptL_lt h1
    split at h
    · rename_i l2
      split at h
      · split at h
        · rename_i t l3 h3
          have q3 := ptL_lt h3
          split at h
          · cases h
          · injection h with h; injection h with _ h; subst h
            simp only [List.length_cons] at q1; omega
        · cases h
      · injection h with h; injection h with _ h; subst h; exact q1
    · injection h with h; injection h with _ h; subst h; exact q1
theorem partsL_lt : ∀ (f : Nat) (l : List Int) (xs : List (Int × Int)) (more : Bool) (s : List (Int × Int)) (r : List Int), partsL f l xs more = some (s, r) → r.length < l.length
  | 0, _, _, _, _, _, h => by cases h
  | f + 1, l, xs, more, s, r, h => by
    rw [partsL.eq_def] at h
    dsimp only at h
    split at h
    · injection h with h; injection h with _ h; subst h; simp
    · split at h
      · cases h
      · rename_i s1 l1 h1
        have := partL_lt h1
        have := partsL_lt f _ _ _ _ _ h
        omega
theorem classL_lt {l : List Int} {s : List (Int × Int)} {r : List Int} (h : classL l = some (s, r)) : r.length < l.length := by
  unfold classL at h
  split at h
  · obtain ⟨⟨a, b⟩, h1, h⟩ := Option.map_eq_some_iff.1 h
    injection h with _ h; subst h
    have := partsL_lt _ _ _ _ _ _ h1
    simp only [List.length_cons]; omega
  · obtain ⟨⟨a, b⟩, h1, h⟩ := Option.map_eq_some_iff.1 h
    injection h with _ h; subst h
    exact partsL_lt _ _ _ _ _ _ h1
theorem numL_lt {l : List Int} {a : Int} {r : List Int} (h : numL l = some (a, r)) : r.length < l.length := by
  unfold numL at h
  split at h
  · split at h
    · split at h
      · split at h
        · cases h
        · injection h with h; injection h with _ h; subst h; simp only [List.length_cons]; omega
      · injection h with h; injection h with _ h; subst h; simp
    · cases h
  · split at h
    · injection h with h; injection h with _ h; subst h; simp
    · cases h
  · cases h
theorem braceL_lt {l : List Int} {t : TokL} {r : List Int} (h : braceL l = some (t, r)) : r.length < l.length := by
  unfold braceL at h
  split at h
  · rename_i l' h1
    have := numL_lt h1
    injection h with h; injection h with _ h; subst h; simp only [List.length_cons] at this; omega
  · rename_i l' h1
    have := numL_lt h1
    injection h with h; injection h with _ h; subst h; simp only [List.length_cons] at this; omega
  · rename_i l' _ h1
    have := numL_lt h1
    split at h
    · rename_i l'' h2
      have := numL_lt h2
      split at h
      · cases h
      · injection h with h; injection h with _ h; subst h; simp only [List.length_cons] at *; omega
    · cases h
  · cases h
theorem tokL_lt {l : List Int} {t : TokL} {r : List Int} (h : tokL l = some (t, r)) : r.length < l.length := by
  rcases l with _ | ⟨x, l⟩
  · cases h
  unfold tokL at h
  dsimp only at h
  rw [List.length_cons]
  split at h
  · injection h with h; injection h with _ h; subst h; omega
  split at h
  · injection h with h; injection h with _ h; subst h; omega
  split at h
  · injection h with h; injection h with _ h; subst h; omega
  split at h
  · injection h with h; injection h with _ h; subst h; omega
  split at h
  · have := braceL_lt h; omega
  split at h
  · injection h with h; injection h with _ h; subst h; omega
  split at h
  · obtain ⟨⟨a, b⟩, h1, h⟩ := Option.map_eq_some_iff.1 h
    injection h with _ h; subst h
    have := classL_lt h1; simp only; omega
  split at h
  · rcases l with _ | ⟨e, l⟩
    · cases h
    · obtain ⟨p, _, h⟩ := Option.map_eq_some_iff.1 h
      injection h with _ h; subst h; simp only [List.length_cons]; omega
  split at h
  · cases h
  · injection h with h; injection h with _ h; subst h; omega

theorem toksL_fuel : ∀ (f : Nat) (l : List Int), l.length ≤ f → toksL f l = toksL l.length l
  | 0, [], _ => rfl
  | 0, _ :: _, h => by simp at h
  | f + 1, [], _ => rfl
  | f + 1, r :: l, h => by
    rw [List.length_cons, toksL, toksL]
    rcases ht : tokL (r :: l) with _ | ⟨t, l'⟩
    · rfl
    · have := tokL_lt ht
      rw [List.length_cons] at this h
      dsimp only
      rw [toksL_fuel f l' (by omega), toksL_fuel l.length l' (by omega)]

/-! ### The whole, code point by code point -/
def runL (l : List Int) (st : List (Wood × Wood)) (a p : Wood) (lo : Bool) : Option Wood := (toksL l.length l).bind fun ts => runT 0 ts st a p lo
theorem treeL_run (l : List Int) : treeL l = runL l [] .nil .nil false := rfl
section
variable {l l' : List Int} {t : TokL} {st : List (Wood × Wood)} {a p : Wood} {lo : Bool}
theorem runL_nil : runL [] st a p lo = if st = [] then some (finN a p) else none := by
  rcases st with _ | ⟨x, st⟩ <;> simp [runL, toksL, runT]
theorem toksL_none {r : Int} (h : tokL (r :: l) = none) : toksL (r :: l).length (r :: l) = none := by rw [List.length_cons, toksL, h]
theorem toksL_some {r : Int} (h : tokL (r :: l) = some (t, l')) : toksL (r :: l).length (r :: l) = (toksL l'.length l').map fun ts => t :: ts := by
  have := tokL_lt h
  rw [List.length_cons] at this
  rw [List.length_cons, toksL, h]
  dsimp only
  rw [toksL_fuel _ _ (by omega)]
theorem runL_none (h : tokL l = none) (hl : l ≠ []) : runL l st a p lo = none := by
  rcases l with _ | ⟨r, l⟩
  · exact absurd rfl hl
  · unfold runL; rw [toksL_none h]; rfl
theorem runL_some (h : tokL l = some (t, l')) : runL l st a p lo = (toksL l'.length l').bind fun ts => runT 0 (t :: ts) st a p lo := by
  rcases l with _ | ⟨r, l⟩
  · cases h
  · unfold runL
    rw [toksL_some h]
    rcases toksL l'.length l' with _ | ts <;> rfl
theorem runL_char (h : tokL l = some (t, l')) (hk : t.kind = 0) : runL l st a p lo = runL l' st a (p.app (leaf 1 t.set)) true := by
  rw [runL_some h]; simp only [run_char hk]; rfl
theorem runL_count (h : tokL l = some (t, l')) (hk : t.kind = 2) : runL l st a p lo = if lo = true then runL l' st a (repLast t.mn t.mx p) false else none := by
  rw [runL_some h]; simp only [run_count hk]
  cases lo with
  | true => rfl
  | false => rcases toksL l'.length l' with _ | ts <;> rfl
theorem runL_bar (h : tokL l = some (t, l')) (hk : t.kind = 1) (hr : t.r = 124) : runL l st a p lo = runL l' st (a.app (oneN 4 p)) .nil false := by
  rw [runL_some h]; simp only [run_bar hk hr]; rfl
theorem runL_begin (h : tokL l = some (t, l')) (hk : t.kind = 1) (hr : t.r = 94) : runL l st a p lo = runL l' st a (p.app (leaf 2 [])) false := by
  rw [runL_some h]; simp only [run_begin hk hr]; rfl
theorem runL_end (h : tokL l = some (t, l')) (hk : t.kind = 1) (hr : t.r = 36) : runL l st a p lo = runL l' st a (p.app (leaf 3 [])) false := by
  rw [runL_some h]; simp only [run_end hk hr]; rfl
theorem runL_paren (h : tokL l = some (t, l')) (hk : t.kind = 1) (hr : t.r = 40) : runL l st a p lo = if st.length < 10 then runL l' ((a, p) :: st) .nil .nil false else none := by
  rw [runL_some h]; simp only [run_paren hk hr, Nat.zero_add]
  by_cases hd : st.length < 10
  · simp only [if_pos hd]; rfl
  · simp only [if_neg hd]; rcases toksL l'.length l' with _ | ts <;> rfl
theorem runL_shut (h : tokL l = some (t, l')) (hk : t.kind = 1) (hr : t.r = 41) : runL l st a p lo = match st with
    | [] => none
    | (a', p') :: st' => runL l' st' a' (p'.app (finN a p)) true := by
  rw [runL_some h]
  rcases st with _ | ⟨⟨a', p'⟩, st⟩
  · simp only [run_shut_nil hk hr]; rcases toksL l'.length l' with _ | ts <;> rfl
  · simp only [run_shut _ _ hk hr]; rfl
end
/-! ### Signs -/
theorem tok_bar (l : List Int) : tokL (124 :: l) = some (tokS 124, l) := rfl
theorem tok_open (l : List Int) : tokL (40 :: l) = some (tokS 40, l) := rfl
theorem tok_shut (l : List Int) : tokL (41 :: l) = some (tokS 41, l) := rfl
theorem tok_begin (l : List Int) : tokL (94 :: l) = some (tokS 94, l) := rfl
theorem tok_end (l : List Int) : tokL (36 :: l) = some (tokS 36, l) := rfl
theorem tok_star (l : List Int) : tokL (42 :: l) = some (tokN 0 (-1), l) := rfl
theorem tok_plus (l : List Int) : tokL (43 :: l) = some (tokN 1 (-1), l) := rfl
theorem tok_quest (l : List Int) : tokL (63 :: l) = some (tokN 0 1, l) := rfl
theorem tok_brace (l : List Int) : tokL (123 :: l) = braceL l := rfl
theorem tok_dot (l : List Int) : tokL (46 :: l) = some (tokC [(0, 9), (11, 1114111)], l) := rfl
theorem tok_class (l : List Int) : tokL (91 :: l) = (classL l).map fun p => (tokC p.1, p.2) := rfl
theorem tok_back (e : Int) (l : List Int) : tokL (92 :: e :: l) = (escL e).map fun p => (tokC p.1, l) := rfl
theorem tok_shutb (l : List Int) : tokL (93 :: l) = none := rfl
theorem tok_shutc (l : List Int) : tokL (125 :: l) = none := rfl
/-- A sign, but for the hyphen. -/
def signB (r : Int) : Bool := decide (r ∈ [46, 94, 36, 124, 40, 41, 91, 93, 123, 125, 42, 43, 63, 92])
theorem tok_plain {r : Int} (l : List Int) (h : signB r = false) : tokL (r :: l) = some (tokC [(r, r)], l) := by
  unfold signB at h
  rw [decide_eq_false_iff_not] at h
  simp only [List.mem_cons, List.not_mem_nil, or_false, not_or] at h
  unfold tokL
  dsimp only
  rw [if_neg (by omega), if_neg (by omega), if_neg (by omega), if_neg (by omega), if_neg (by omega), if_neg (by omega), if_neg (by omega), if_neg (by omega), if_neg (by omega)]
/-- The tokens that are no counts are told by their first sign. -/
def countB (r : Int) : Bool := decide (r = 42 ∨ r = 43 ∨ r = 63 ∨ r = 123)
theorem braceL_kind {l l' : List Int} {t : TokL} (h : braceL l = some (t, l')) : t.kind = 2 := by
  unfold braceL at h
  split at h
  · injection h with h; injection h with h _; subst h; rfl
  · injection h with h; injection h with h _; subst h; rfl
  · split at h
    · split at h
      · cases h
      · injection h with h; injection h with h _; subst h; rfl
    · cases h
  · cases h
theorem tok_kind {r : Int} {l l' : List Int} {t : TokL} (h : tokL (r :: l) = some (t, l')) : t.kind = 2 ↔ countB r = true := by
  unfold countB
  rw [decide_eq_true_iff]
  unfold tokL at h
  dsimp only at h
  split at h
  · injection h with h; injection h with h _; subst h; simp only [tokS]; omega
  split at h
  · injection h with h; injection h with h _; subst h; exact ⟨fun _ => by omega, fun _ => rfl⟩
  split at h
  · injection h with h; injection h with h _; subst h; exact ⟨fun _ => by omega, fun _ => rfl⟩
  split at h
  · injection h with h; injection h with h _; subst h; exact ⟨fun _ => by omega, fun _ => rfl⟩
  split at h
  · have := braceL_kind h; omega
  split at h
  · injection h with h; injection h with h _; subst h; simp only [tokC]; omega
  split at h
  · obtain ⟨⟨a, b⟩, h1, h⟩ := Option.map_eq_some_iff.1 h
    injection h with h _; subst h; simp only [tokC]; omega
  split at h
  · rcases l with _ | ⟨e, l⟩
    · cases h
    · obtain ⟨p, _, h⟩ := Option.map_eq_some_iff.1 h
      injection h with h _; subst h; simp only [tokC]; omega
  split at h
  · cases h
  · injection h with h; injection h with h _; subst h; simp only [tokC]; omega
theorem runT_loose {D : Nat} {t : TokL} {ts : List TokL} {st : List (Wood × Wood)} {a p : Wood} {lo lo' : Bool} (h : t.kind ≠ 2) : runT D (t :: ts) st a p lo = runT D (t :: ts) st a p lo' := by
  cases st <;> simp [runT, h]
/-- Where no count stands it's all the same whether one may. -/
theorem runL_loose {l : List Int} {st : List (Wood × Wood)} {a p : Wood} {lo lo' : Bool} (h : countB (l.headD (-1)) = false) : runL l st a p lo = runL l st a p lo' := by
  rcases l with _ | ⟨r, l⟩
  · rw [runL_nil, runL_nil]
  · rcases ht : tokL (r :: l) with _ | ⟨t, l'⟩
    · rw [runL_none ht (by simp), runL_none ht (by simp)]
    · have hk : t.kind ≠ 2 := fun e => by
        have := (tok_kind ht).1 e
        rw [List.headD_cons] at h
        rw [h] at this
        cases this
      rw [runL_some ht, runL_some ht]
      simp only [runT_loose (lo := lo) (lo' := lo') hk]
/-- Where a count stands that may not. -/
theorem runL_count_no {l : List Int} {st : List (Wood × Wood)} {a p : Wood} (h : countB (l.headD (-1)) = true) : runL l st a p false = none := by
  rcases l with _ | ⟨r, l⟩
  · exact absurd h (by decide)
  · rcases ht : tokL (r :: l) with _ | ⟨t, l'⟩
    · rw [runL_none ht (by simp)]
    · rw [runL_count ht ((tok_kind ht).2 h)]
      rfl
theorem repLast_app (mn mx : Int) (n : Wood) (hn : n.len = 1) : ∀ p : Wood, repLast mn mx (p.app n) = p.app (.cons 6 [] mn mx n .nil)
  | .nil => by
    obtain ⟨o, s, x, z, k, rfl⟩ := Wood.one_of_len hn
    rfl
  | .cons o s x z k .nil => by
    obtain ⟨o', s', x', z', k', rfl⟩ := Wood.one_of_len hn
    rfl
  | .cons o s x z k (.cons o2 s2 x2 z2 k2 y) => by
    have ih := repLast_app mn mx n hn (.cons o2 s2 x2 z2 k2 y)
    simp only [Wood.app, repLast] at ih ⊢
    rw [ih]
/-- What is behind alternatives that are through. -/
def shutL (l : List Int) (st : List (Wood × Wood)) (n : Wood) : Option Wood :=
  match l, st with
  | [], [] => some n
  | 41 :: l', (a, p) :: st' => runL l' st' a (p.app n) true
  | _, _ => none
theorem shut_end {l : List Int} {st : List (Wood × Wood)} {a p : Wood} {lo : Bool} (h : l = [] ∨ ∃ l', l = 41 :: l') : runL l st a p lo = shutL l st (finN a p) := by
  rcases h with rfl | ⟨l', rfl⟩
  · rw [runL_nil]
    rcases st with _ | ⟨⟨x, y⟩, st⟩ <;> rfl
  · rw [runL_shut (tok_shut l') rfl rfl]
    rcases st with _ | ⟨⟨x, y⟩, st⟩ <;> rfl
end Go.Proofs.Ytegcebgoiocakaa
/- Rows of the document's tokens, and where a parenthesis is closed. -/
namespace Go.Proofs.Ytegcebgoiocakaa
open Go Go.RowKit
set_option linter.unusedVariables false
set_option maxRecDepth 20000

/-- A token's five values. -/
def tokC5 (t : TokL) (A : Option Addr) (m c : Nat) : List Value := [.int .i64 t.kind, .int .i64 t.r, .slice A m c, .int .i64 t.mn, .int .i64 t.mx]
/-- The slice at L with n tokens reads as ts; the sets' blocks are of F. -/
def ToksAt (F : Nat → Prop) (w : World) (L : Option Addr) (n : Nat) (ts : List TokL) : Prop :=
  ts.length = n ∧ (0 < n → ∃ b o, L = some ⟨b, o, none⟩ ∧ b < w.heap.size ∧ ∀ j t, ts[j]? = some t → ∃ (A : Option Addr) (m c : Nat), (∀ i v, (tokC5 t A m c)[i]? = some v → w.cell? ⟨b, o + j * 5 + i, none⟩ = some v) ∧ RowF F w A m t.set)
section
variable {F : Nat → Prop} {w w' : World} {L : Option Addr} {n : Nat} {ts : List TokL}
theorem ToksAt.below (h : ToksAt F w L n ts) (hb : Below w.heap.size w w') : ToksAt F w' L n ts := by
  refine ⟨h.1, fun hn => ?_⟩
  obtain ⟨b, o, hL, hlt, hc⟩ := h.2 hn
  refine ⟨b, o, hL, Nat.lt_of_lt_of_le hlt hb.size, fun j t ht => ?_⟩
  obtain ⟨A, m, c, h1, h2⟩ := hc j t ht
  exact ⟨A, m, c, fun i v hv => (hb.cell (p := ⟨b, o + j * 5 + i, none⟩) hlt).trans (h1 i v hv), h2.below hb⟩
theorem ToksAt.cut (h : ToksAt F w L n ts) (k m : Nat) (hk : k + m ≤ n) (b o : Nat) (hL : L = some ⟨b, o, none⟩) : ToksAt F w (some ⟨b, o + k * 5, none⟩) m ((ts.drop k).take m) := by
  refine ⟨by rw [List.length_take, List.length_drop, h.1]; omega, fun hm => ?_⟩
  obtain ⟨b', o', hL', hlt, hc⟩ := h.2 (by omega)
  rw [hL] at hL'
  injection hL' with hL'
  injection hL' with e1 e2
  subst e1; subst e2
  refine ⟨b, o + k * 5, rfl, hlt, fun j t ht => ?_⟩
  have hj : j < m := by have := (List.getElem?_eq_some_iff.1 ht).1; rw [List.length_take] at this; omega
  rw [List.getElem?_take_of_lt hj, List.getElem?_drop] at ht
  obtain ⟨A, m', c, h1, h2⟩ := hc (k + j) t ht
  exact ⟨A, m', c, fun i v hv => by rw [show o + k * 5 + j * 5 + i = o + (k + j) * 5 + i by omega]; exact h1 i v hv, h2⟩
end

/-- Where a parenthesis is closed, counted. -/
def closeR : Nat → List TokL → Option Nat
  | _, [] => none
  | d, t :: l => if isOpen t = true then (closeR (d + 1) l).map (· + 1) else if isShut t = true then (if d = 1 then some 0 else (closeR (d - 1) l).map (· + 1)) else (closeR d l).map (· + 1)
theorem closeR_is : ∀ (l : List TokL) (c : Nat), closeR (c + 1) l = closeL c l
  | [], _ => by rw [closeR, closeL]
  | t :: l, c => by
    rw [closeR, closeL_cons, closeR_is l (c + 1)]
    rcases c with _ | c
    · rw [if_pos rfl, closeR_is l 0]
    · have e : ∀ x : Option Nat, (if c + 1 + 1 = 1 then some 0 else x) = x := fun x => if_neg (by omega)
      rw [e, show c + 1 + 1 - 1 = c + 1 by omega, closeR_is l c, closeR_is l (c + 1)]
def closeI (at' : Nat) (r : Option Nat) : Int := match r with
  | some k => (at' : Int) + (k : Int)
  | none => -1
theorem closeR_some : ∀ (l : List TokL) (d k : Nat), closeR d l = some k → k < l.length
  | [], _, _, h => by cases h
  | t :: l, d, k, h => by
    rw [closeR] at h
    rw [List.length_cons]
    split at h
    · obtain ⟨i, hi, rfl⟩ := Option.map_eq_some_iff.1 h
      have := closeR_some l _ i hi
      omega
    · split at h
      · split at h
        · injection h with h; omega
        · obtain ⟨i, hi, rfl⟩ := Option.map_eq_some_iff.1 h
          have := closeR_some l _ i hi
          omega
      · obtain ⟨i, hi, rfl⟩ := Option.map_eq_some_iff.1 h
        have := closeR_some l _ i hi
        omega

set_option maxHeartbeats 2000000 in
theorem rclose_any {F : Nat → Prop} {W : World} {L : Option Addr} {n : Nat} {ts : List TokL} (c : Nat) (h : ToksAt F W L n ts) (hn : n ≤ 200) (k : Nat) (t0 : TokL) (hk : ts[k]? = some t0) (h0 : isOpen t0 = true) :
    Calls Try.prog 60 #[.slice L n c, .int .i64 (k : Int)] W fun e w' => e = .returned (.int .i64 (closeI k (closeR 0 (ts.drop k)))) ∧ W = w' := by
  have hkn : k < n := by have := (List.getElem?_eq_some_iff.1 hk).1; rw [h.1] at this; exact this
  obtain ⟨b, o, rfl, hlt, hc⟩ := h.2 (by omega)
  have HL := Lib.hid h.1
  have HC := Lib.hid fun j t (ht : ts[j]? = some t) => show W.cell? ⟨b, o + j * 5, none⟩ = some (.int .i64 t.kind) ∧ W.cell? ⟨b, o + j * 5 + 1, none⟩ = some (.int .i64 t.r) from by
    obtain ⟨A, m, c, h1, _⟩ := hc j t ht
    exact ⟨h1 0 _ rfl, h1 1 _ rfl⟩
  have HK := Lib.hid (And.intro hk h0)
  clear h hc hk h0
  go_enter Try.func60, Try.ntmps60
  go_wp2_with fail
  go_loopw [5, 6] (fun vd vi wr => ∃ (d j : Nat), vd = .int .i64 (d : Int) ∧ vi = .int .i64 (j : Int) ∧ wr = W ∧ j ≤ n ∧ k ≤ j ∧ d ≤ j ∧ Hid ((1 ≤ d ∨ (d = 0 ∧ j = k)) ∧ closeR 0 (ts.drop k) = (closeR d (ts.drop j)).map (· + (j - k)))) (fun _ vi _ => match vi with | .int _ j => n - j.toNat | _ => 0)
  case atStart => exact ⟨0, k, rfl, rfl, rfl, by omega, by omega, by omega, Lib.hid ⟨.inr ⟨rfl, rfl⟩, by simp⟩⟩
  case round =>
    obtain ⟨d, j, rfl, rfl, rfl, hjn, hkj, hdj, H⟩ := hrel
    by_cases hj : j < n
    · obtain ⟨t, ht⟩ : ∃ t, ts[j]? = some t := ⟨_, List.getElem?_eq_getElem (by rw [HL.out]; exact hj)⟩
      obtain ⟨c0, c1⟩ := HC.out j t ht
      have HD := Lib.hid (show ts.drop j = t :: ts.drop (j + 1) by
        obtain ⟨h1, h2⟩ := List.getElem?_eq_some_iff.1 ht
        rw [List.drop_eq_getElem_cons h1, h2])
      have HT := Lib.hid ht
      have hw1 : IntKind.i64.wrap ((d : Int) + 1) = ((d + 1 : Nat) : Int) := by rw [IntKind.wrap_i64]; omega
      clear ht
      have hms : n - (j + 1) < n - j := by omega
      have step : ∀ d' : Nat, (1 ≤ d' ∨ (d' = 0 ∧ j + 1 = k)) → closeR d (t :: ts.drop (j + 1)) = (closeR d' (ts.drop (j + 1))).map (· + 1) → Hid ((1 ≤ d' ∨ (d' = 0 ∧ j + 1 = k)) ∧ closeR 0 (ts.drop k) = (closeR d' (ts.drop (j + 1))).map (· + (j + 1 - k))) := fun d' h1 h2 => Lib.hid ⟨h1, by
        rw [H.out.2, HD.out, h2, Option.map_map]
        congr 1
        funext x
        show x + 1 + (j - k) = x + (j + 1 - k)
        omega⟩
      have HSt := Lib.hid step
      clear step
      by_cases hk1 : t.kind = 1
      · by_cases h40 : t.r = 40
        · have HO := Lib.hid (show isOpen t = true by unfold isOpen; rw [hk1, h40]; rfl)
          rw [hk1] at c0
          rw [h40] at c1
          clear hk1 h40
          go_wp2
          exact ⟨⟨d + 1, j + 1, rfl, rfl, trivial, by omega, by omega, by omega, HSt.out _ (.inl (by omega)) (by rw [closeR, if_pos HO.out])⟩, by show n - ((j : Int) + 1).toNat < n - (j : Int).toNat; omega⟩
        · have HO := Lib.hid (show isOpen t = false from open_no (.inr h40))
          have hd1 : 1 ≤ d := by
            rcases H.out.1 with h | ⟨_, h⟩
            · exact h
            · subst h
              have := HK.out.1
              rw [HT.out] at this
              injection this with this
              rw [this, HK.out.2] at HO
              cases HO.out
          have e40 : (t.r == 40) = false := by simpa using h40
          by_cases h41 : t.r = 41
          · have HS := Lib.hid (show isShut t = true by unfold isShut; rw [hk1, h41]; rfl)
            have hw2 : IntKind.i64.wrap ((d : Int) - 1) = ((d - 1 : Nat) : Int) := by rw [IntKind.wrap_i64]; omega
            rw [hk1] at c0
            rw [h41] at c1
            clear hk1 h40 h41 e40
            by_cases hd : d = 1
            · subst hd
              go_wp2
              go_ret
              have e : closeR 0 (ts.drop k) = some (j - k) := by
                rw [H.out.2, HD.out, closeR, if_neg (by rw [HO.out]; decide), if_pos HS.out, if_pos rfl]
                show some (0 + (j - k)) = _
                rw [Nat.zero_add]
              rw [e]
              refine ⟨?_, rfl⟩
              show _ = Ending.returned (.int .i64 ((k : Int) + ((j - k : Nat) : Int)))
              rw [show (k : Int) + ((j - k : Nat) : Int) = (j : Int) by omega]
              rfl
            · have n1 : ((d : Int) - 1 == 0) = false := by simp; omega
              go_wp2
              exact ⟨⟨d - 1, j + 1, by rw [show ((d - 1 : Nat) : Int) = (d : Int) - 1 by omega], rfl, trivial, by omega, by omega, by omega, HSt.out _ (.inl (by omega)) (by rw [closeR, if_neg (by rw [HO.out]; decide), if_pos HS.out, if_neg hd])⟩, by show n - ((j : Int) + 1).toNat < n - (j : Int).toNat; omega⟩
          · have HS := Lib.hid (show isShut t = false from shut_no (.inr h41))
            have e41 : (t.r == 41) = false := by simpa using h41
            rw [hk1] at c0
            clear hk1 h40 h41
            go_wp2
            exact ⟨⟨d, j + 1, rfl, rfl, trivial, by omega, by omega, by omega, HSt.out _ (.inl hd1) (by rw [closeR, if_neg (by rw [HO.out]; decide), if_neg (by rw [HS.out]; decide)])⟩, by show n - ((j : Int) + 1).toNat < n - (j : Int).toNat; omega⟩
      · have HO := Lib.hid (show isOpen t = false from open_no (.inl hk1))
        have HS := Lib.hid (show isShut t = false from shut_no (.inl hk1))
        have hd1 : 1 ≤ d := by
          rcases H.out.1 with h | ⟨_, h⟩
          · exact h
          · subst h
            have := HK.out.1
            rw [HT.out] at this
            injection this with this
            rw [this, HK.out.2] at HO
            cases HO.out
        have e1 : (t.kind == 1) = false := by simpa using hk1
        clear hk1
        go_wp2
        exact ⟨⟨d, j + 1, rfl, rfl, trivial, by omega, by omega, by omega, HSt.out _ (.inl hd1) (by rw [closeR, if_neg (by rw [HO.out]; decide), if_neg (by rw [HS.out]; decide)])⟩, by show n - ((j : Int) + 1).toNat < n - (j : Int).toNat; omega⟩
    · have hjn' : j = n := by omega
      subst hjn'
      go_wp2
      go_ret
      have e : closeR 0 (ts.drop k) = none := by
        rw [H.out.2, List.drop_eq_nil_of_le (by rw [HL.out]; exact Nat.le_refl _), closeR]
        rfl
      rw [e]
      exact ⟨rfl, rfl⟩
end Go.Proofs.Ytegcebgoiocakaa
