/- The document's number. -/
import Derived.Test.YtjpabeeokgfloaaDoorM04
import Derived.Test.YtjpabeeokgfloaaDoorM05
import Derived.Test.YtjpabeeokgfloaaDoorM06
import Derived.LoopN
import Derived.Laws.ResultCell
import Derived.BigQuiet
namespace Go.Proofs.YtjpabeeokgfloaaDoor
open Go Go.RowKit
set_option linter.unusedVariables false
set_option maxRecDepth 20000

def numV (l : List Int) : Int × Int :=
  match numL l with
  | some (a, rest) => (a, (l.length : Int) - (rest.length : Int))
  | none => (0, 0)
theorem isDig_iff (r : Int) : isDig r = true ↔ 48 ≤ r ∧ r ≤ 57 := by unfold isDig; simp
theorem numV_nil : numV [] = (0, 0) := rfl
theorem numV_no {a : Int} {l : List Int} (h : ¬ (48 ≤ a ∧ a ≤ 57)) : numV (a :: l) = (0, 0) := by
  have hd : isDig a = false := by rw [← Bool.not_eq_true, isDig_iff]; exact h
  unfold numV
  rcases l with _ | ⟨b, l⟩ <;> simp [numL, hd]
theorem numV_one {a : Int} (h : 48 ≤ a ∧ a ≤ 57) : numV [a] = (a - 48, 1) := by
  have hd : isDig a = true := (isDig_iff a).2 h
  simp [numV, numL, hd]
theorem numV_oneb {a b : Int} {l : List Int} (h : 48 ≤ a ∧ a ≤ 57) (hb : ¬ (48 ≤ b ∧ b ≤ 57)) : numV (a :: b :: l) = (a - 48, 1) := by
  have hd : isDig a = true := (isDig_iff a).2 h
  have hd2 : isDig b = false := by rw [← Bool.not_eq_true, isDig_iff]; exact hb
  simp [numV, numL, hd, hd2]
  omega
theorem numV_two {a b : Int} {l : List Int} (h : 48 ≤ a ∧ a ≤ 57) (hb : 48 ≤ b ∧ b ≤ 57) : numV (a :: b :: l) = if 10 * (a - 48) + (b - 48) > 50 then (0, 0) else (10 * (a - 48) + (b - 48), 2) := by
  have hd : isDig a = true := (isDig_iff a).2 h
  have hd2 : isDig b = true := (isDig_iff b).2 hb
  by_cases hv : 10 * (a - 48) + (b - 48) > 50
  · simp [numV, numL, hd, hd2, hv]
  · simp [numV, numL, hd, hd2, hv]
    omega

set_option maxHeartbeats 2000000 in
theorem rnum_any (l : List Int) (A : Option Addr) (n c : Nat) (W : World) (hr : RowI .i64 W A n l) (hn : n ≤ 1000) :
    Calls Tryd.prog 42 #[.slice A n c] W fun e w' => e = .returned (.tuple #[.int .i64 (numV l).1, .int .i64 (numV l).2]) ∧ W = w' := by
  have hl := hr.1
  rcases l with _ | ⟨a, l⟩
  · have h0 : n = 0 := by simpa using hl.symm
    subst h0
    rw [numV_nil]
    clear hr hl
    go_enter Tryd.func42, Tryd.ntmps42
    go_wp2
    go_rounds 3
    go_ret2
    exact ⟨rfl, rfl⟩
  · obtain ⟨g, o, rfl, hg, hc⟩ := hr.2 (by rw [List.length_cons] at hl; omega)
    have c0 := hc 0 (by rw [List.length_cons] at hl; omega)
    rw [show (a :: l).getD 0 0 = a from rfl, Nat.add_zero] at c0
    by_cases ha : 48 ≤ a ∧ a ≤ 57
    · obtain ⟨a1, a2⟩ := ha
      rcases l with _ | ⟨b, l⟩
      · have h1 : n = 1 := by simpa using hl.symm
        subst h1
        rw [numV_one ⟨a1, a2⟩]
        clear hr hl hc
        go_enter Tryd.func42, Tryd.ntmps42
        go_wp2
        go_rounds 3
        go_ret2
        exact ⟨rfl, rfl⟩
      · have hn2 : 2 ≤ n := by rw [List.length_cons, List.length_cons] at hl; omega
        have c1 := hc 1 (by omega)
        rw [show (a :: b :: l).getD 1 0 = b from rfl] at c1
        have i1 : (1 : Int) < (n : Int) := by omega
        have i0 : (0 : Int) < (n : Int) := by omega
        by_cases hb : 48 ≤ b ∧ b ≤ 57
        · obtain ⟨b1, b2⟩ := hb
          have w1 : IntKind.i64.wrap ((a - 48) * 10) = (a - 48) * 10 := by rw [IntKind.wrap_i64]; omega
          have w2 : IntKind.i64.wrap ((a - 48) * 10 + b) = (a - 48) * 10 + b := by rw [IntKind.wrap_i64]; omega
          have w3 : IntKind.i64.wrap ((a - 48) * 10 + b - 48) = (a - 48) * 10 + b - 48 := by rw [IntKind.wrap_i64]; omega
          rw [numV_two ⟨a1, a2⟩ ⟨b1, b2⟩]
          by_cases hv : 10 * (a - 48) + (b - 48) > 50
          · rw [if_pos hv]
            have v1 : 50 < (a - 48) * 10 + b - 48 := by omega
            clear hr hl hc hv
            go_enter Tryd.func42, Tryd.ntmps42
            go_wp2
            go_rounds 3
            go_ret2
            exact ⟨rfl, rfl⟩
          · rw [if_neg hv]
            have v1 : ¬ 50 < (a - 48) * 10 + b - 48 := by omega
            have HV := Lib.hid (show (a - 48) * 10 + b - 48 = 10 * (a - 48) + (b - 48) by omega)
            clear hr hl hc hv
            go_enter Tryd.func42, Tryd.ntmps42
            go_wp2
            go_rounds 3
            go_ret2
            exact ⟨by rw [← HV.out]; rfl, rfl⟩
        · rw [numV_oneb ⟨a1, a2⟩ hb]
          clear hr hl hc
          by_cases hb1 : 48 ≤ b
          · have hb2 : ¬ b ≤ 57 := fun h => hb ⟨hb1, h⟩
            clear hb
            go_enter Tryd.func42, Tryd.ntmps42
            go_wp2
            go_rounds 3
            go_ret2
            exact ⟨rfl, rfl⟩
          · clear hb
            go_enter Tryd.func42, Tryd.ntmps42
            go_wp2
            go_rounds 3
            go_ret2
            exact ⟨rfl, rfl⟩
    · rw [numV_no ha]
      have i0 : (0 : Int) < (n : Int) := by rw [List.length_cons] at hl; omega
      clear hr hl hc
      by_cases ha1 : 48 ≤ a
      · have ha2 : ¬ a ≤ 57 := fun h => ha ⟨ha1, h⟩
        clear ha
        go_enter Tryd.func42, Tryd.ntmps42
        go_wp2
        go_rounds 3
        go_ret2
        exact ⟨rfl, rfl⟩
      · clear ha
        go_enter Tryd.func42, Tryd.ntmps42
        go_wp2
        go_rounds 3
        go_ret2
        exact ⟨rfl, rfl⟩
end Go.Proofs.YtjpabeeokgfloaaDoor
/- The document's braces: a count behind its brace. -/
namespace Go.Proofs.YtjpabeeokgfloaaDoor
open Go Go.RowKit
set_option linter.unusedVariables false
set_option maxRecDepth 20000

/-- A token as a value. -/
def tokV (t : TokL) (A : Option Addr) (n c : Nat) : Value := .agg #[.int .i64 t.kind, .int .i64 t.r, .slice A n c, .int .i64 t.mn, .int .i64 t.mx]
theorem numL_rest {l rest : List Int} {a : Int} (h : numL l = some (a, rest)) : ∃ k : Nat, 1 ≤ k ∧ k ≤ 2 ∧ rest = l.drop k ∧ k + rest.length = l.length ∧ 0 ≤ a ∧ a ≤ 50 ∧ numV l = (a, (k : Int)) := by
  rcases l with _ | ⟨x, _ | ⟨y, l⟩⟩
  · simp [numL] at h
  · by_cases hx : 48 ≤ x ∧ x ≤ 57
    · have hd := (isDig_iff x).2 hx
      simp [numL, hd] at h
      obtain ⟨rfl, rfl⟩ := h
      exact ⟨1, by omega, by omega, rfl, rfl, by omega, by omega, numV_one hx⟩
    · have hd : isDig x = false := by rw [← Bool.not_eq_true, isDig_iff]; exact hx
      simp [numL, hd] at h
  · by_cases hx : 48 ≤ x ∧ x ≤ 57
    · have hd := (isDig_iff x).2 hx
      by_cases hy : 48 ≤ y ∧ y ≤ 57
      · have hd2 := (isDig_iff y).2 hy
        by_cases hv : 10 * (x - 48) + (y - 48) > 50
        · simp [numL, hd, hd2, hv] at h
        · simp [numL, hd, hd2, hv] at h
          obtain ⟨rfl, rfl⟩ := h
          exact ⟨2, by omega, by omega, rfl, by simp; omega, by omega, by omega, by rw [numV_two hx hy, if_neg hv]; rfl⟩
      · have hd2 : isDig y = false := by rw [← Bool.not_eq_true, isDig_iff]; exact hy
        simp [numL, hd, hd2] at h
        obtain ⟨rfl, rfl⟩ := h
        exact ⟨1, by omega, by omega, rfl, by simp; omega, by omega, by omega, numV_oneb hx hy⟩
    · have hd : isDig x = false := by rw [← Bool.not_eq_true, isDig_iff]; exact hx
      simp [numL, hd] at h
theorem numL_none {l : List Int} (h : numL l = none) : numV l = (0, 0) := by unfold numV; rw [h]

/-- What braces answers. -/
def braceR (l : List Int) (e : Ending) : Prop :=
  match braceL l with
  | some (t, rest) => ∃ j : Nat, j + rest.length = l.length ∧ 1 ≤ j ∧ e = .returned (.tuple #[tokV t none 0 0, .int .i64 (j : Int)])
  | none => e = .returned (.tuple #[.agg #[.int .i64 0, .int .i64 0, .slice none 0 0, .int .i64 0, .int .i64 0], .int .i64 0])

set_option maxHeartbeats 2000000 in
theorem rbrace_none (l : List Int) (A : Option Addr) (n c : Nat) (W : World) (hr : RowI .i64 W A n l) (hn : n ≤ 1000) (hl : numL l = none) :
    Calls Tryd.prog 25 #[.slice A n c] W fun e w' => braceR l e ∧ Below W.heap.size W w' := by
  have HB := Lib.hid (show braceL l = none by unfold braceL; rw [hl])
  have hv := numL_none hl
  have hx : ∀ w, Below W.heap.size W w → Calls Tryd.prog 42 #[.slice A n c] w fun e w' => e = .returned (.tuple #[.int .i64 0, .int .i64 0]) ∧ w = w' := fun w h => by
    have := rnum_any l A n c w (hr.below h (Nat.le_refl _)) hn
    rw [hv] at this
    exact this
  have HX := Lib.hid hx
  clear hr hl hv hx
  go_enter Tryd.func25, Tryd.ntmps25
  go_wp2_with (go_at_call 42; refine (HX.out _ ((Below.refl _ _).alloc (Nat.le_refl _) _)).mono ?_; rintro e w1 ⟨rfl, rfl⟩)
  refine bodyPost_ret (v := .tuple #[.agg #[.int .i64 0, .int .i64 0, .slice none 0 0, .int .i64 0, .int .i64 0], .int .i64 0]) ?_ rfl ⟨?_, by go_grown⟩
  · rw [results_cell_tmp rfl]; go_simp
  · unfold braceR; rw [HB.out]

/-- A first number, and what is behind it. -/
theorem rbrace_head {l rest : List Int} {a : Int} {A : Option Addr} {n c : Nat} {W : World} (hr : RowI .i64 W A n l) (hn : n ≤ 1000) (hl : numL l = some (a, rest)) :
    ∃ (k : Nat) (b o : Nat), 1 ≤ k ∧ k ≤ 2 ∧ A = some ⟨b, o, none⟩ ∧ b < W.heap.size ∧ k + rest.length = n ∧ 0 ≤ a ∧ a ≤ 50 ∧ rest = l.drop k ∧ (∀ j, k + j < n → W.cell? ⟨b, o + (k + j), none⟩ = some (.int .i64 (rest.getD j 0))) ∧
      Hid (∀ w, Below W.heap.size W w → Calls Tryd.prog 42 #[.slice A n c] w fun e w' => e = .returned (.tuple #[.int .i64 a, .int .i64 (k : Int)]) ∧ w = w') := by
  obtain ⟨k, k1, k2, h1, h2, a0, a1, hv⟩ := numL_rest hl
  obtain ⟨b, o, rfl, hb, hc⟩ := hr.2 (by have := hr.1; omega)
  refine ⟨k, b, o, k1, k2, rfl, hb, by rw [h2, hr.1], a0, a1, h1, fun j hj => ?_, Lib.hid fun w h => ?_⟩
  · rw [hc (k + j) hj, h1]
    simp [List.getD]
  · have := rnum_any l (some ⟨b, o, none⟩) n c w (hr.below h (Nat.le_refl _)) hn
    rw [hv] at this
    exact this
set_option maxHeartbeats 4000000 in
theorem rbrace_end (l : List Int) (a : Int) (A : Option Addr) (n c : Nat) (W : World) (hr : RowI .i64 W A n l) (hn : n ≤ 1000) (hl : numL l = some (a, [])) :
    Calls Tryd.prog 25 #[.slice A n c] W fun e w' => braceR l e ∧ Below W.heap.size W w' := by
  have HB := Lib.hid (show braceL l = none by unfold braceL; rw [hl])
  obtain ⟨k, b, o, k1, k2, rfl, hb, hkn, a0, a1, hdr, hc, HX⟩ := rbrace_head (c := c) hr hn hl
  clear hdr
  have hk : ¬ (k : Int) = 0 := by omega
  have kb : ((k : Int) == 0) = false := by simpa using hk
  have hkn2 : (n : Int) ≤ (k : Int) := by simp at hkn; omega
  clear hr hl hc
  go_enter Tryd.func25, Tryd.ntmps25
  go_wp2_with (go_at_call 42; refine (HX.out _ ((Below.refl _ _).alloc (Nat.le_refl _) _)).mono ?_; rintro e w1 ⟨rfl, rfl⟩)
  refine bodyPost_ret (v := .tuple #[.agg #[.int .i64 0, .int .i64 0, .slice none 0 0, .int .i64 0, .int .i64 0], .int .i64 0]) ?_ rfl ⟨?_, by go_grown⟩
  · rw [results_cell_tmp rfl]; go_simp
  · unfold braceR; rw [HB.out]

set_option maxHeartbeats 4000000 in
theorem rbrace_shut (l r' : List Int) (a : Int) (A : Option Addr) (n c : Nat) (W : World) (hr : RowI .i64 W A n l) (hn : n ≤ 1000) (hl : numL l = some (a, 125 :: r')) :
    Calls Tryd.prog 25 #[.slice A n c] W fun e w' => braceR l e ∧ Below W.heap.size W w' := by
  have HB := Lib.hid (show braceL l = some (tokN a a, r') by unfold braceL; rw [hl]; rfl)
  obtain ⟨k, b, o, k1, k2, rfl, hb, hkn, a0, a1, hdr, hc, HX⟩ := rbrace_head (c := c) hr hn hl
  clear hdr
  rw [List.length_cons] at hkn
  have hk : ¬ (k : Int) = 0 := by omega
  have kb : ((k : Int) == 0) = false := by simpa using hk
  have hkn2 : (k : Int) < (n : Int) := by omega
  have c0 := hc 0 (by omega)
  rw [Nat.add_zero, show (125 :: r').getD 0 0 = 125 from rfl] at c0
  have HLN := Lib.hid (show (k + 1) + r'.length = l.length by have := hr.1; omega)
  clear hr hl hc hkn
  go_enter Tryd.func25, Tryd.ntmps25
  go_wp2_with (go_at_call 42; refine (HX.out _ ((Below.refl _ _).alloc (Nat.le_refl _) _)).mono ?_; rintro e w1 ⟨rfl, rfl⟩)
  refine bodyPost_ret (v := .tuple #[.agg #[.int .i64 2, .int .i64 0, .slice none 0 0, .int .i64 a, .int .i64 a], .int .i64 ((k : Int) + 1)]) ?_ rfl ⟨?_, by go_grown⟩
  · rw [results_cell_tmp rfl]; go_simp
  · unfold braceR; rw [HB.out]; exact ⟨k + 1, HLN.out, by omega, by rw [show ((k + 1 : Nat) : Int) = (k : Int) + 1 by omega]; rfl⟩
set_option maxHeartbeats 4000000 in
theorem rbrace_other (l r' : List Int) (a : Int) (x : Int) (h1 : x ≠ 125) (h2 : x ≠ 44) (A : Option Addr) (n c : Nat) (W : World) (hr : RowI .i64 W A n l) (hn : n ≤ 1000) (hl : numL l = some (a, x :: r')) :
    Calls Tryd.prog 25 #[.slice A n c] W fun e w' => braceR l e ∧ Below W.heap.size W w' := by
  have HB := Lib.hid (show braceL l = none by unfold braceL; rw [hl]; simp [h1, h2])
  obtain ⟨k, b, o, k1, k2, rfl, hb, hkn, a0, a1, hdr, hc, HX⟩ := rbrace_head (c := c) hr hn hl
  clear hdr
  rw [List.length_cons] at hkn
  have hk : ¬ (k : Int) = 0 := by omega
  have kb : ((k : Int) == 0) = false := by simpa using hk
  have hkn2 : (k : Int) < (n : Int) := by omega
  have c0 := hc 0 (by omega)
  rw [Nat.add_zero, show (x :: r').getD 0 0 = x from rfl] at c0
  have e1 : (x == 125) = false := by simpa using h1
  have e2 : (x != 44) = true := by simpa using h2
  clear hr hl hc hkn
  go_enter Tryd.func25, Tryd.ntmps25
  go_wp2_with (go_at_call 42; refine (HX.out _ ((Below.refl _ _).alloc (Nat.le_refl _) _)).mono ?_; rintro e w1 ⟨rfl, rfl⟩)
  refine bodyPost_ret (v := .tuple #[.agg #[.int .i64 0, .int .i64 0, .slice none 0 0, .int .i64 0, .int .i64 0], .int .i64 0]) ?_ rfl ⟨?_, by go_grown⟩
  · rw [results_cell_tmp rfl]; go_simp
  · unfold braceR; rw [HB.out]
set_option maxHeartbeats 4000000 in
theorem rbrace_comma (l r' : List Int) (a : Int) (A : Option Addr) (n c : Nat) (W : World) (hr : RowI .i64 W A n l) (hn : n ≤ 1000) (hl : numL l = some (a, [44])) :
    Calls Tryd.prog 25 #[.slice A n c] W fun e w' => braceR l e ∧ Below W.heap.size W w' := by
  have HB := Lib.hid (show braceL l = none by unfold braceL; rw [hl]; rfl)
  obtain ⟨k, b, o, k1, k2, rfl, hb, hkn, a0, a1, hdr, hc, HX⟩ := rbrace_head (c := c) hr hn hl
  clear hdr
  rw [List.length_cons] at hkn
  have hk : ¬ (k : Int) = 0 := by omega
  have kb : ((k : Int) == 0) = false := by simpa using hk
  have hkn2 : (k : Int) < (n : Int) := by omega
  have c0 := hc 0 (by omega)
  rw [Nat.add_zero, show ([(44 : Int)]).getD 0 0 = 44 from rfl] at c0
  have hkn3 : (n : Int) ≤ (k : Int) + 1 := by simp at hkn; omega
  clear hr hl hc hkn
  go_enter Tryd.func25, Tryd.ntmps25
  go_wp2_with (go_at_call 42; refine (HX.out _ ((Below.refl _ _).alloc (Nat.le_refl _) _)).mono ?_; rintro e w1 ⟨rfl, rfl⟩)
  refine bodyPost_ret (v := .tuple #[.agg #[.int .i64 0, .int .i64 0, .slice none 0 0, .int .i64 0, .int .i64 0], .int .i64 0]) ?_ rfl ⟨?_, by go_grown⟩
  · rw [results_cell_tmp rfl]; go_simp
  · unfold braceR; rw [HB.out]
set_option maxHeartbeats 4000000 in
theorem rbrace_open (l r' : List Int) (a : Int) (A : Option Addr) (n c : Nat) (W : World) (hr : RowI .i64 W A n l) (hn : n ≤ 1000) (hl : numL l = some (a, 44 :: 125 :: r')) :
    Calls Tryd.prog 25 #[.slice A n c] W fun e w' => braceR l e ∧ Below W.heap.size W w' := by
  have HB := Lib.hid (show braceL l = some (tokN a (-1), r') by unfold braceL; rw [hl]; rfl)
  obtain ⟨k, b, o, k1, k2, rfl, hb, hkn, a0, a1, hdr, hc, HX⟩ := rbrace_head (c := c) hr hn hl
  clear hdr
  rw [List.length_cons] at hkn
  have hk : ¬ (k : Int) = 0 := by omega
  have kb : ((k : Int) == 0) = false := by simpa using hk
  have hkn2 : (k : Int) < (n : Int) := by omega
  have c0 := hc 0 (by omega)
  rw [Nat.add_zero, show (44 :: 125 :: r').getD 0 0 = 44 from rfl] at c0
  rw [List.length_cons] at hkn
  have c1 := hc 1 (by omega)
  rw [show (44 :: 125 :: r').getD 1 0 = 125 from rfl] at c1
  have c2 := c1
  rw [← Nat.add_assoc] at c2
  have hkn3 : (k : Int) + 1 < (n : Int) := by omega
  have HLN := Lib.hid (show (k + 2) + r'.length = l.length by have := hr.1; omega)
  clear hr hl hc hkn
  go_enter Tryd.func25, Tryd.ntmps25
  go_wp2_with (go_at_call 42; refine (HX.out _ ((Below.refl _ _).alloc (Nat.le_refl _) _)).mono ?_; rintro e w1 ⟨rfl, rfl⟩)
  refine bodyPost_ret (v := .tuple #[.agg #[.int .i64 2, .int .i64 0, .slice none 0 0, .int .i64 a, .int .i64 (-1)], .int .i64 ((k : Int) + 2)]) ?_ rfl ⟨?_, by go_grown⟩
  · rw [results_cell_tmp rfl]; go_simp
  · unfold braceR; rw [HB.out]; exact ⟨k + 2, HLN.out, by omega, by rw [show ((k + 2 : Nat) : Int) = (k : Int) + 2 by omega]; rfl⟩
end Go.Proofs.YtjpabeeokgfloaaDoor
/- The document's braces: the second count. -/
namespace Go.Proofs.YtjpabeeokgfloaaDoor
open Go Go.RowKit
set_option linter.unusedVariables false
set_option maxRecDepth 20000

/-- What stands behind the comma is read as a count. -/
theorem rbrace_head2 {l l' : List Int} {a : Int} {b o n c : Nat} {W : World} {k : Nat} (hr : RowI .i64 W (some ⟨b, o, none⟩) n l) (hn : n ≤ 1000) (hd : 44 :: l' = l.drop k) (hk : k + (44 :: l').length = n) :
    Hid (∀ w, Below W.heap.size W w → Calls Tryd.prog 42 #[.slice (some ⟨b, o + (k + 1), none⟩) (n - (k + 1)) (c - (k + 1))] w fun e w' => e = .returned (.tuple #[.int .i64 (numV l').1, .int .i64 (numV l').2]) ∧ w = w') := by
  have h1 := rowI_from hr (m := k + 1) (by rw [List.length_cons] at hk; omega)
  have h2 : l.drop (k + 1) = l' := by
    rw [show l.drop (k + 1) = (l.drop k).drop 1 by rw [List.drop_drop], ← hd]; rfl
  rw [h2] at h1
  exact Lib.hid fun w h => rnum_any l' _ _ _ w (h1.below h (Nat.le_refl _)) (by omega)

set_option maxHeartbeats 4000000 in
theorem rbrace_no2 (l r' : List Int) (a y : Int) (hy : y ≠ 125) (A : Option Addr) (n c : Nat) (W : World) (hr : RowI .i64 W A n l) (hn : n ≤ 1000) (hnc : n ≤ c) (hl : numL l = some (a, 44 :: y :: r')) (h2 : numL (y :: r') = none) :
    Calls Tryd.prog 25 #[.slice A n c] W fun e w' => braceR l e ∧ Below W.heap.size W w' := by
  have HB := Lib.hid (show braceL l = none by unfold braceL; rw [hl]; simp [hy, h2])
  obtain ⟨k, b, o, k1, k2, rfl, hb, hkn, a0, a1, hdr, hc, HX⟩ := rbrace_head (c := c) hr hn hl
  have HY := rbrace_head2 (a := a) (c := c) hr hn hdr hkn
  rw [numL_none h2] at HY
  clear hdr
  rw [List.length_cons] at hkn
  have hk : ¬ (k : Int) = 0 := by omega
  have kb : ((k : Int) == 0) = false := by simpa using hk
  have hkn2 : (k : Int) < (n : Int) := by omega
  have c0 := hc 0 (by omega)
  rw [Nat.add_zero, show (44 :: y :: r').getD 0 0 = 44 from rfl] at c0
  rw [List.length_cons] at hkn
  have c1 := hc 1 (by omega)
  rw [show (44 :: y :: r').getD 1 0 = y from rfl] at c1
  have c2 := c1
  rw [← Nat.add_assoc] at c2
  have e1 : (y == 125) = false := by simpa using hy
  have hkn3 : (k : Int) + 1 < (n : Int) := by omega
  clear hr hl hc hkn h2
  go_enter Tryd.func25, Tryd.ntmps25
  go_wp2_with (fail)
  with_reducible refine (HX.out _ ((Below.refl _ _).alloc (Nat.le_refl _) _)).mono ?_
  rintro e w1 ⟨rfl, rfl⟩
  go_wp2_with (fail)
  with_reducible refine (HY.out _ ((Below.refl _ _).alloc (Nat.le_refl _) _)).mono ?_
  rintro e w1 ⟨rfl, rfl⟩
  go_wp2_with (fail)
  refine bodyPost_ret (v := .tuple #[.agg #[.int .i64 0, .int .i64 0, .slice none 0 0, .int .i64 0, .int .i64 0], .int .i64 0]) ?_ rfl ⟨?_, by go_grown⟩
  · rw [results_cell_tmp rfl]; go_simp
  · unfold braceR; rw [HB.out]

set_option maxHeartbeats 4000000 in
theorem rbrace_less (l r' : List Int) (a y : Int) (z : Int) (q : List Int) (hy : y ≠ 125) (A : Option Addr) (n c : Nat) (W : World) (hr : RowI .i64 W A n l) (hn : n ≤ 1000) (hnc : n ≤ c) (hl : numL l = some (a, 44 :: y :: r')) (h2 : numL (y :: r') = some (z, q)) (hz : z < a) :
    Calls Tryd.prog 25 #[.slice A n c] W fun e w' => braceR l e ∧ Below W.heap.size W w' := by
  have HB := Lib.hid (show braceL l = none by
    unfold braceL; rw [hl]
    rcases q with _ | ⟨x, q⟩
    · simp [hy, h2]
    · by_cases hx : x = 125
      · subst hx; simp [hy, h2, hz]
      · simp [hy, h2, hx])
  obtain ⟨k, b, o, k1, k2, rfl, hb, hkn, a0, a1, hdr, hc, HX⟩ := rbrace_head (c := c) hr hn hl
  have HY := rbrace_head2 (a := a) (c := c) hr hn hdr hkn
  obtain ⟨m, m1, m2, g1, g2, z0, z1, hv⟩ := numL_rest h2
  rw [hv] at HY
  rw [List.length_cons] at g2
  clear hdr
  rw [List.length_cons] at hkn
  have hk : ¬ (k : Int) = 0 := by omega
  have kb : ((k : Int) == 0) = false := by simpa using hk
  have hkn2 : (k : Int) < (n : Int) := by omega
  have c0 := hc 0 (by omega)
  rw [Nat.add_zero, show (44 :: y :: r').getD 0 0 = 44 from rfl] at c0
  rw [List.length_cons] at hkn
  have c1 := hc 1 (by omega)
  rw [show (44 :: y :: r').getD 1 0 = y from rfl] at c1
  have c2 := c1
  rw [← Nat.add_assoc] at c2
  have e1 : (y == 125) = false := by simpa using hy
  have hkn3 : (k : Int) + 1 < (n : Int) := by omega
  have hm : ¬ (m : Int) = 0 := by omega
  have mb : ((m : Int) == 0) = false := by simpa using hm
  clear hr hl hc hkn h2 g1 g2
  go_enter Tryd.func25, Tryd.ntmps25
  go_wp2_with (fail)
  with_reducible refine (HX.out _ ((Below.refl _ _).alloc (Nat.le_refl _) _)).mono ?_
  rintro e w1 ⟨rfl, rfl⟩
  go_wp2_with (fail)
  with_reducible refine (HY.out _ ((Below.refl _ _).alloc (Nat.le_refl _) _)).mono ?_
  rintro e w1 ⟨rfl, rfl⟩
  go_wp2_with (fail)
  refine bodyPost_ret (v := .tuple #[.agg #[.int .i64 0, .int .i64 0, .slice none 0 0, .int .i64 0, .int .i64 0], .int .i64 0]) ?_ rfl ⟨?_, by go_grown⟩
  · rw [results_cell_tmp rfl]; go_simp
  · unfold braceR; rw [HB.out]

set_option maxHeartbeats 4000000 in
theorem rbrace_end2 (l r' : List Int) (a y : Int) (z : Int) (hy : y ≠ 125) (A : Option Addr) (n c : Nat) (W : World) (hr : RowI .i64 W A n l) (hn : n ≤ 1000) (hnc : n ≤ c) (hl : numL l = some (a, 44 :: y :: r')) (h2 : numL (y :: r') = some (z, [])) (hz : a ≤ z) :
    Calls Tryd.prog 25 #[.slice A n c] W fun e w' => braceR l e ∧ Below W.heap.size W w' := by
  have HB := Lib.hid (show braceL l = none by unfold braceL; rw [hl]; simp [hy, h2])
  obtain ⟨k, b, o, k1, k2, rfl, hb, hkn, a0, a1, hdr, hc, HX⟩ := rbrace_head (c := c) hr hn hl
  have HY := rbrace_head2 (a := a) (c := c) hr hn hdr hkn
  obtain ⟨m, m1, m2, g1, g2, z0, z1, hv⟩ := numL_rest h2
  rw [hv] at HY
  rw [List.length_cons] at g2
  clear hdr
  rw [List.length_cons] at hkn
  have hk : ¬ (k : Int) = 0 := by omega
  have kb : ((k : Int) == 0) = false := by simpa using hk
  have hkn2 : (k : Int) < (n : Int) := by omega
  have c0 := hc 0 (by omega)
  rw [Nat.add_zero, show (44 :: y :: r').getD 0 0 = 44 from rfl] at c0
  rw [List.length_cons] at hkn
  have c1 := hc 1 (by omega)
  rw [show (44 :: y :: r').getD 1 0 = y from rfl] at c1
  have c2 := c1
  rw [← Nat.add_assoc] at c2
  have e1 : (y == 125) = false := by simpa using hy
  have hkn3 : (k : Int) + 1 < (n : Int) := by omega
  have hm : ¬ (m : Int) = 0 := by omega
  have mb : ((m : Int) == 0) = false := by simpa using hm
  have hx1 : (n : Int) ≤ (k : Int) + 1 + (m : Int) := by rw [List.length_nil] at g2; omega
  have hz2 : ¬ z < a := by omega
  clear hr hl hc hkn h2 g1 g2
  go_enter Tryd.func25, Tryd.ntmps25
  go_wp2_with (fail)
  with_reducible refine (HX.out _ ((Below.refl _ _).alloc (Nat.le_refl _) _)).mono ?_
  rintro e w1 ⟨rfl, rfl⟩
  go_wp2_with (fail)
  with_reducible refine (HY.out _ ((Below.refl _ _).alloc (Nat.le_refl _) _)).mono ?_
  rintro e w1 ⟨rfl, rfl⟩
  go_wp2_with (fail)
  refine bodyPost_ret (v := .tuple #[.agg #[.int .i64 0, .int .i64 0, .slice none 0 0, .int .i64 0, .int .i64 0], .int .i64 0]) ?_ rfl ⟨?_, by go_grown⟩
  · rw [results_cell_tmp rfl]; go_simp
  · unfold braceR; rw [HB.out]

set_option maxHeartbeats 4000000 in
theorem rbrace_oth2 (l r' : List Int) (a y : Int) (z x : Int) (q : List Int) (hx : x ≠ 125) (hy : y ≠ 125) (A : Option Addr) (n c : Nat) (W : World) (hr : RowI .i64 W A n l) (hn : n ≤ 1000) (hnc : n ≤ c) (hl : numL l = some (a, 44 :: y :: r')) (h2 : numL (y :: r') = some (z, x :: q)) (hz : a ≤ z) :
    Calls Tryd.prog 25 #[.slice A n c] W fun e w' => braceR l e ∧ Below W.heap.size W w' := by
  have HB := Lib.hid (show braceL l = none by unfold braceL; rw [hl]; simp [hy, h2, hx])
  obtain ⟨k, b, o, k1, k2, rfl, hb, hkn, a0, a1, hdr, hc, HX⟩ := rbrace_head (c := c) hr hn hl
  have HY := rbrace_head2 (a := a) (c := c) hr hn hdr hkn
  obtain ⟨m, m1, m2, g1, g2, z0, z1, hv⟩ := numL_rest h2
  rw [hv] at HY
  rw [List.length_cons] at g2
  clear hdr
  rw [List.length_cons] at hkn
  have hk : ¬ (k : Int) = 0 := by omega
  have kb : ((k : Int) == 0) = false := by simpa using hk
  have hkn2 : (k : Int) < (n : Int) := by omega
  have c0 := hc 0 (by omega)
  rw [Nat.add_zero, show (44 :: y :: r').getD 0 0 = 44 from rfl] at c0
  rw [List.length_cons] at hkn
  have c1 := hc 1 (by omega)
  rw [show (44 :: y :: r').getD 1 0 = y from rfl] at c1
  have c2 := c1
  rw [← Nat.add_assoc] at c2
  have e1 : (y == 125) = false := by simpa using hy
  have hkn3 : (k : Int) + 1 < (n : Int) := by omega
  have hm : ¬ (m : Int) = 0 := by omega
  have mb : ((m : Int) == 0) = false := by simpa using hm
  have hx1 : (k : Int) + 1 + (m : Int) < (n : Int) := by rw [List.length_cons] at g2; omega
  have hx2 := hc (1 + m) (by omega)
  rw [show (44 :: y :: r').getD (1 + m) 0 = x by rw [Nat.add_comm]; show (y :: r').getD m 0 = x; have g3 := congrArg (fun t => t.getD 0 0) g1; simpa [List.getD, List.getElem?_drop] using g3.symm] at hx2
  have hx3 := hx2
  rw [← Nat.add_assoc] at hx2
  rw [← Nat.add_assoc, ← Nat.add_assoc] at hx3
  have hx4 := hx3
  rw [Nat.add_assoc, Nat.add_assoc, ← Nat.add_assoc k] at hx4
  have hz2 : ¬ z < a := by omega
  have e3 : (x != 125) = true := by simpa using hx
  clear hr hl hc hkn h2 g1 g2
  go_enter Tryd.func25, Tryd.ntmps25
  go_wp2_with (fail)
  with_reducible refine (HX.out _ ((Below.refl _ _).alloc (Nat.le_refl _) _)).mono ?_
  rintro e w1 ⟨rfl, rfl⟩
  go_wp2_with (fail)
  with_reducible refine (HY.out _ ((Below.refl _ _).alloc (Nat.le_refl _) _)).mono ?_
  rintro e w1 ⟨rfl, rfl⟩
  go_wp2_with (fail)
  refine bodyPost_ret (v := .tuple #[.agg #[.int .i64 0, .int .i64 0, .slice none 0 0, .int .i64 0, .int .i64 0], .int .i64 0]) ?_ rfl ⟨?_, by go_grown⟩
  · rw [results_cell_tmp rfl]; go_simp
  · unfold braceR; rw [HB.out]

set_option maxHeartbeats 4000000 in
theorem rbrace_shut2 (l r' : List Int) (a y : Int) (z : Int) (q : List Int) (hy : y ≠ 125) (A : Option Addr) (n c : Nat) (W : World) (hr : RowI .i64 W A n l) (hn : n ≤ 1000) (hnc : n ≤ c) (hl : numL l = some (a, 44 :: y :: r')) (h2 : numL (y :: r') = some (z, 125 :: q)) (hz : a ≤ z) :
    Calls Tryd.prog 25 #[.slice A n c] W fun e w' => braceR l e ∧ Below W.heap.size W w' := by
  have HB := Lib.hid (show braceL l = some (tokN a z, q) by unfold braceL; rw [hl]; simp [hy, h2, show ¬ z < a by omega])
  obtain ⟨k, b, o, k1, k2, rfl, hb, hkn, a0, a1, hdr, hc, HX⟩ := rbrace_head (c := c) hr hn hl
  have HY := rbrace_head2 (a := a) (c := c) hr hn hdr hkn
  obtain ⟨m, m1, m2, g1, g2, z0, z1, hv⟩ := numL_rest h2
  rw [hv] at HY
  rw [List.length_cons] at g2
  clear hdr
  rw [List.length_cons] at hkn
  have hk : ¬ (k : Int) = 0 := by omega
  have kb : ((k : Int) == 0) = false := by simpa using hk
  have hkn2 : (k : Int) < (n : Int) := by omega
  have c0 := hc 0 (by omega)
  rw [Nat.add_zero, show (44 :: y :: r').getD 0 0 = 44 from rfl] at c0
  rw [List.length_cons] at hkn
  have c1 := hc 1 (by omega)
  rw [show (44 :: y :: r').getD 1 0 = y from rfl] at c1
  have c2 := c1
  rw [← Nat.add_assoc] at c2
  have e1 : (y == 125) = false := by simpa using hy
  have hkn3 : (k : Int) + 1 < (n : Int) := by omega
  have hm : ¬ (m : Int) = 0 := by omega
  have mb : ((m : Int) == 0) = false := by simpa using hm
  have hx1 : (k : Int) + 1 + (m : Int) < (n : Int) := by rw [List.length_cons] at g2; omega
  have hx2 := hc (1 + m) (by omega)
  rw [show (44 :: y :: r').getD (1 + m) 0 = 125 by rw [Nat.add_comm]; show (y :: r').getD m 0 = 125; have g3 := congrArg (fun t => t.getD 0 0) g1; simpa [List.getD, List.getElem?_drop] using g3.symm] at hx2
  have hx3 := hx2
  rw [← Nat.add_assoc] at hx2
  rw [← Nat.add_assoc, ← Nat.add_assoc] at hx3
  have hx4 := hx3
  rw [Nat.add_assoc, Nat.add_assoc, ← Nat.add_assoc k] at hx4
  have hz2 : ¬ z < a := by omega
  have HLN := Lib.hid (show (k + m + 2) + q.length = l.length by have := hr.1; rw [List.length_cons] at g2; omega)
  clear hr hl hc hkn h2 g1 g2
  go_enter Tryd.func25, Tryd.ntmps25
  go_wp2_with (fail)
  with_reducible refine (HX.out _ ((Below.refl _ _).alloc (Nat.le_refl _) _)).mono ?_
  rintro e w1 ⟨rfl, rfl⟩
  go_wp2_with (fail)
  with_reducible refine (HY.out _ ((Below.refl _ _).alloc (Nat.le_refl _) _)).mono ?_
  rintro e w1 ⟨rfl, rfl⟩
  go_wp2_with (fail)
  refine bodyPost_ret (v := .tuple #[.agg #[.int .i64 2, .int .i64 0, .slice none 0 0, .int .i64 a, .int .i64 z], .int .i64 ((k : Int) + (m : Int) + 2)]) ?_ rfl ⟨?_, by go_grown⟩
  · rw [results_cell_tmp rfl]; go_simp
  · unfold braceR; rw [HB.out]; exact ⟨k + m + 2, HLN.out, by omega, by rw [show ((k + m + 2 : Nat) : Int) = (k : Int) + (m : Int) + 2 by omega]; rfl⟩

/-- A count behind its brace. -/
theorem rbrace_any (l : List Int) (A : Option Addr) (n c : Nat) (W : World) (hr : RowI .i64 W A n l) (hn : n ≤ 1000) (hnc : n ≤ c) :
    Calls Tryd.prog 25 #[.slice A n c] W fun e w' => braceR l e ∧ Below W.heap.size W w' := by
  rcases hl : numL l with _ | ⟨a, _ | ⟨x, r⟩⟩
  · exact rbrace_none l A n c W hr hn hl
  · exact rbrace_end l a A n c W hr hn hl
  · by_cases h1 : x = 125
    · subst h1; exact rbrace_shut l r a A n c W hr hn hl
    · by_cases h2 : x = 44
      · subst h2
        rcases r with _ | ⟨y, r⟩
        · exact rbrace_comma l [] a A n c W hr hn hl
        · by_cases hy : y = 125
          · subst hy; exact rbrace_open l r a A n c W hr hn hl
          · rcases h3 : numL (y :: r) with _ | ⟨z, q⟩
            · exact rbrace_no2 l r a y hy A n c W hr hn hnc hl h3
            · by_cases hz : z < a
              · exact rbrace_less l r a y z q hy A n c W hr hn hnc hl h3 hz
              · rcases q with _ | ⟨x, q⟩
                · exact rbrace_end2 l r a y z hy A n c W hr hn hnc hl h3 (by omega)
                · by_cases hx : x = 125
                  · subst hx; exact rbrace_shut2 l r a y z q hy A n c W hr hn hnc hl h3 (by omega)
                  · exact rbrace_oth2 l r a y z x q hx hy A n c W hr hn hnc hl h3 (by omega)
      · exact rbrace_other l r a x h1 h2 A n c W hr hn hl
end Go.Proofs.YtjpabeeokgfloaaDoor
/- Trees as values: rows of nodes, and what they read as. -/
namespace Go.Proofs.YtjpabeeokgfloaaDoor
open Go Go.RowKit
set_option linter.unusedVariables false
set_option maxRecDepth 20000

/-- A node's five values. -/
def nodeV (op : Int) (A : Option Addr) (ns cs : Nat) (mn mx : Int) (D : Option Addr) (nk ck : Nat) : List Value :=
  [.int .i64 op, .slice A ns cs, .int .i64 mn, .int .i64 mx, .slice D nk ck]
/-- A row of ranges all of whose blocks are of F. -/
def RowF (F : Nat → Prop) (w : World) (A : Option Addr) (n : Nat) (s : List (Int × Int)) : Prop := RowG w A n s ∧ ∀ b o, 0 < n → A = some ⟨b, o, none⟩ → F b
/-- The row of nodes at block b from off o on (five cells each) reads as a; all its blocks are of F. -/
def WoodAt (F : Nat → Prop) (w : World) : Wood → Nat → Nat → Prop
  | .nil, _, _ => True
  | .cons op s mn mx k x, b, o =>
    (∃ (A D : Option Addr) (ns cs nk ck : Nat), (∀ j v, (nodeV op A ns cs mn mx D nk ck)[j]? = some v → w.cell? ⟨b, o + j, none⟩ = some v) ∧ RowF F w A ns s ∧ k.len = nk ∧ (0 < nk → ∃ b' o', D = some ⟨b', o', none⟩ ∧ F b' ∧ b' < w.heap.size ∧ WoodAt F w k b' o')) ∧ WoodAt F w x b (o + 5)
/-- Kids at D. -/
def KidsAt (F : Nat → Prop) (w : World) (D : Option Addr) (nk : Nat) (k : Wood) : Prop :=
  k.len = nk ∧ (0 < nk → ∃ b o, D = some ⟨b, o, none⟩ ∧ F b ∧ b < w.heap.size ∧ WoodAt F w k b o)
/-- One node, as a value. -/
def NodeIn (F : Nat → Prop) (w : World) (v : Value) (T : Wood) : Prop :=
  ∃ (op : Int) (s : List (Int × Int)) (mn mx : Int) (k : Wood) (A D : Option Addr) (ns cs nk ck : Nat), T = .cons op s mn mx k .nil ∧ v = .agg #[.int .i64 op, .slice A ns cs, .int .i64 mn, .int .i64 mx, .slice D nk ck] ∧ RowF F w A ns s ∧ KidsAt F w D nk k

section
variable {F F' : Nat → Prop} {w w' : World}
theorem RowF.keep {A : Option Addr} {n : Nat} {s : List (Int × Int)} (h : RowF F w A n s) (hs : w.heap.size ≤ w'.heap.size) (hk : ∀ b, F b → b < w.heap.size → w'.heap[b]? = w.heap[b]?) : RowF F w' A n s := by
  refine ⟨⟨h.1.1, fun hn => ?_⟩, h.2⟩
  obtain ⟨b, o, hA, hb, hc⟩ := h.1.2 hn
  have hh := hk b (h.2 b o hn hA) hb
  have hcell : ∀ j, w'.cell? ⟨b, j, none⟩ = w.cell? ⟨b, j, none⟩ := fun j => by simp only [World.cell?, hh]
  refine ⟨b, o, hA, by omega, fun j hj => ?_⟩
  rw [hcell, hcell]
  exact hc j hj
theorem RowF.mono {A : Option Addr} {n : Nat} {s : List (Int × Int)} (h : RowF F w A n s) (hf : ∀ b, F b → F' b) : RowF F' w A n s := ⟨h.1, fun b o hn hA => hf b (h.2 b o hn hA)⟩
theorem WoodAt.keep (hs : w.heap.size ≤ w'.heap.size) (hk : ∀ b, F b → b < w.heap.size → w'.heap[b]? = w.heap[b]?) : ∀ {T : Wood} {b o : Nat}, WoodAt F w T b o → (T.len = 0 ∨ (F b ∧ b < w.heap.size)) → WoodAt F w' T b o
  | .nil, _, _, _, _ => trivial
  | .cons op s mn mx k x, b, o, ⟨⟨A, D, ns, cs, nk, ck, h1, h2, h3, h4⟩, h5⟩, hb => by
    have hb : F b ∧ b < w.heap.size := by
      rcases hb with hb | hb
      · simp [Wood.len] at hb
      · exact hb
    have hh := hk b hb.1 hb.2
    have hcell : ∀ j, w'.cell? ⟨b, j, none⟩ = w.cell? ⟨b, j, none⟩ := fun j => by simp only [World.cell?, hh]
    refine ⟨⟨A, D, ns, cs, nk, ck, fun j v hv => by rw [hcell]; exact h1 j v hv, h2.keep hs hk, h3, fun hn => ?_⟩, WoodAt.keep hs hk h5 (.inr hb)⟩
    obtain ⟨b', o', hD, hF, hlt, hw⟩ := h4 hn
    exact ⟨b', o', hD, hF, by omega, WoodAt.keep hs hk hw (.inr ⟨hF, hlt⟩)⟩
theorem WoodAt.mono (hf : ∀ b, F b → F' b) : ∀ {T : Wood} {b o : Nat}, WoodAt F w T b o → WoodAt F' w T b o
  | .nil, _, _, _ => trivial
  | .cons op s mn mx k x, b, o, ⟨⟨A, D, ns, cs, nk, ck, h1, h2, h3, h4⟩, h5⟩ => by
    refine ⟨⟨A, D, ns, cs, nk, ck, h1, h2.mono hf, h3, fun hn => ?_⟩, WoodAt.mono hf h5⟩
    obtain ⟨b', o', hD, hF, hlt, hw⟩ := h4 hn
    exact ⟨b', o', hD, hf _ hF, hlt, WoodAt.mono hf hw⟩
theorem KidsAt.keep {D : Option Addr} {nk : Nat} {k : Wood} (h : KidsAt F w D nk k) (hs : w.heap.size ≤ w'.heap.size) (hk : ∀ b, F b → b < w.heap.size → w'.heap[b]? = w.heap[b]?) : KidsAt F w' D nk k := by
  refine ⟨h.1, fun hn => ?_⟩
  obtain ⟨b, o, hD, hF, hlt, hw⟩ := h.2 hn
  exact ⟨b, o, hD, hF, by omega, hw.keep hs hk (.inr ⟨hF, hlt⟩)⟩
theorem KidsAt.mono {D : Option Addr} {nk : Nat} {k : Wood} (h : KidsAt F w D nk k) (hf : ∀ b, F b → F' b) : KidsAt F' w D nk k := by
  refine ⟨h.1, fun hn => ?_⟩
  obtain ⟨b, o, hD, hF, hlt, hw⟩ := h.2 hn
  exact ⟨b, o, hD, hf _ hF, hlt, hw.mono hf⟩
theorem NodeIn.keep {v : Value} {T : Wood} (h : NodeIn F w v T) (hs : w.heap.size ≤ w'.heap.size) (hk : ∀ b, F b → b < w.heap.size → w'.heap[b]? = w.heap[b]?) : NodeIn F w' v T := by
  obtain ⟨op, s, mn, mx, k, A, D, ns, cs, nk, ck, h1, h2, h3, h4⟩ := h
  exact ⟨op, s, mn, mx, k, A, D, ns, cs, nk, ck, h1, h2, h3.keep hs hk, h4.keep hs hk⟩
theorem NodeIn.below {v : Value} {T : Wood} (h : NodeIn F w v T) (hb : Below w.heap.size w w') : NodeIn F w' v T := h.keep hb.size fun b _ hlt => hb.block b hlt
theorem NodeIn.mono {v : Value} {T : Wood} (h : NodeIn F w v T) (hf : ∀ b, F b → F' b) : NodeIn F' w v T := by
  obtain ⟨op, s, mn, mx, k, A, D, ns, cs, nk, ck, h1, h2, h3, h4⟩ := h
  exact ⟨op, s, mn, mx, k, A, D, ns, cs, nk, ck, h1, h2, h3.mono hf, h4.mono hf⟩
/-- A node of a row, as a value: its five cells. -/
theorem WoodAt.nth : ∀ {T : Wood} {b o j : Nat}, WoodAt F w T b o → j < T.len → ∃ (op : Int) (s : List (Int × Int)) (mn mx : Int) (k : Wood) (A D : Option Addr) (ns cs nk ck : Nat), T.nth j = .cons op s mn mx k .nil ∧ (∀ i v, (nodeV op A ns cs mn mx D nk ck)[i]? = some v → w.cell? ⟨b, o + j * 5 + i, none⟩ = some v) ∧ RowF F w A ns s ∧ KidsAt F w D nk k
  | .nil, _, _, _, _, h => by simp [Wood.len] at h
  | .cons op s mn mx k x, b, o, 0, ⟨⟨A, D, ns, cs, nk, ck, h1, h2, h3, h4⟩, h5⟩, _ => ⟨op, s, mn, mx, k, A, D, ns, cs, nk, ck, rfl, fun i v hv => by rw [Nat.zero_mul, Nat.add_zero]; exact h1 i v hv, h2, h3, h4⟩
  | .cons op s mn mx k x, b, o, j + 1, ⟨_, h5⟩, h => by
    obtain ⟨op', s', mn', mx', k', A, D, ns, cs, nk, ck, e, h1, h2, h3⟩ := WoodAt.nth (j := j) h5 (by simp only [Wood.len] at h; omega)
    refine ⟨op', s', mn', mx', k', A, D, ns, cs, nk, ck, e, fun i v hv => ?_, h2, h3⟩
    rw [show o + (j + 1) * 5 + i = o + 5 + j * 5 + i by omega]
    exact h1 i v hv
/-- The five cells, one by one. -/
theorem node_cells {b o : Nat} {op mn mx : Int} {A D : Option Addr} {ns cs nk ck : Nat} (h : ∀ i v, (nodeV op A ns cs mn mx D nk ck)[i]? = some v → w.cell? ⟨b, o + i, none⟩ = some v) :
    w.cell? ⟨b, o, none⟩ = some (.int .i64 op) ∧ w.cell? ⟨b, o + 1, none⟩ = some (.slice A ns cs) ∧ w.cell? ⟨b, o + 2, none⟩ = some (.int .i64 mn) ∧ w.cell? ⟨b, o + 3, none⟩ = some (.int .i64 mx) ∧ w.cell? ⟨b, o + 4, none⟩ = some (.slice D nk ck) :=
  ⟨h 0 _ rfl, h 1 _ rfl, h 2 _ rfl, h 3 _ rfl, h 4 _ rfl⟩
end

/-- A node that a call has boxed: its cells stay. -/
theorem box_cell {W wr : World} {cs : Array Value} {t : TypeId} (hb : Below (W.alloc (.cells cs t)).heap.size (W.alloc (.cells cs t)) wr) (j : Nat) : wr.cell? ⟨W.heap.size, j, none⟩ = cs[j]? := by
  rw [hb.cell (p := ⟨W.heap.size, j, none⟩) (by simp), cell_of_row _ W.heap.size j _ _ (0, 0) (heap_alloc_new W _)]
theorem KidsAt.below {F : Nat → Prop} {w w' : World} {D : Option Addr} {nk : Nat} {k : Wood} (h : KidsAt F w D nk k) (hb : Below w.heap.size w w') : KidsAt F w' D nk k := h.keep hb.size fun b _ hlt => hb.block b hlt
/-- What is boxed, with names for the world and the block. -/
theorem box_world (W : World) (cs : Array Value) (t : TypeId) : ∃ (W1 : World) (g : Nat), W1 = W.alloc (.cells cs t) ∧ g = W.heap.size ∧ Below W.heap.size W W1 ∧ W.heap.size ≤ W1.heap.size ∧ ∀ wr, Below W1.heap.size W1 wr → (∀ j, wr.cell? ⟨g, j, none⟩ = cs[j]?) ∧ Below W.heap.size W wr :=
  ⟨_, _, rfl, rfl, (Below.refl _ _).alloc (Nat.le_refl _) _, by simp, fun wr hb => ⟨fun j => box_cell hb j, ((Below.refl _ _).alloc (Nat.le_refl _) _).trans (hb.mono (by simp))⟩⟩
theorem len_size : ∀ a : Wood, a.len ≤ a.size
  | .nil => Nat.le_refl _
  | .cons _ _ _ _ _ x => by have := len_size x; simp only [Wood.len, Wood.size]; omega
/-- A kid, as a value, with its cells. -/
theorem KidsAt.kid {F : Nat → Prop} {w : World} {D : Option Addr} {nk : Nat} {k : Wood} (h : KidsAt F w D nk k) {j : Nat} (hj : j < nk) : ∃ (b o : Nat) (op : Int) (s : List (Int × Int)) (mn mx : Int) (k' : Wood) (A' D' : Option Addr) (ns cs nk' ck' : Nat), D = some ⟨b, o, none⟩ ∧ b < w.heap.size ∧ k.nth j = .cons op s mn mx k' .nil ∧
    w.cell? ⟨b, o + j * 5, none⟩ = some (.int .i64 op) ∧ w.cell? ⟨b, o + j * 5 + 1, none⟩ = some (.slice A' ns cs) ∧ w.cell? ⟨b, o + j * 5 + 2, none⟩ = some (.int .i64 mn) ∧ w.cell? ⟨b, o + j * 5 + 3, none⟩ = some (.int .i64 mx) ∧ w.cell? ⟨b, o + j * 5 + 4, none⟩ = some (.slice D' nk' ck') ∧
    NodeIn F w (.agg #[.int .i64 op, .slice A' ns cs, .int .i64 mn, .int .i64 mx, .slice D' nk' ck']) (k.nth j) := by
  obtain ⟨b, o, hD, _, hlt, hw⟩ := h.2 (by omega)
  obtain ⟨op, s, mn, mx, k', A', D', ns, cs, nk', ck', e, hc, hr, hk⟩ := hw.nth (j := j) (by rw [h.1]; exact hj)
  obtain ⟨c0, c1, c2, c3, c4⟩ := node_cells hc
  exact ⟨b, o, op, s, mn, mx, k', A', D', ns, cs, nk', ck', hD, hlt, e, c0, c1, c2, c3, c4, op, s, mn, mx, k', A', D', ns, cs, nk', ck', e, rfl, hr, hk⟩

/-! ### Sizes -/
/-- Nodes and ranges together. -/
def heavy : Wood → Nat
  | .nil => 0
  | .cons _ s _ _ k x => 1 + s.length + heavy k + heavy x
theorem heavy_nth : ∀ (a : Wood) (j : Nat), j < a.len → heavy (a.nth j) ≤ heavy a
  | .nil, _, h => by simp [Wood.len] at h
  | .cons .., 0, _ => by simp only [Wood.nth, heavy]; omega
  | .cons _ _ _ _ _ x, j + 1, h => by
    have := heavy_nth x j (by simp only [Wood.len] at h; omega)
    simp only [Wood.nth, heavy]; omega
theorem len_heavy : ∀ a : Wood, a.len ≤ heavy a
  | .nil => Nat.le_refl _
  | .cons _ _ _ _ _ x => by have := len_heavy x; simp only [Wood.len, heavy]; omega
theorem size_heavy : ∀ a : Wood, a.size ≤ heavy a
  | .nil => Nat.le_refl _
  | .cons _ _ _ _ k x => by have := size_heavy x; have := size_heavy k; simp only [Wood.size, heavy]; omega
end Go.Proofs.YtjpabeeokgfloaaDoor
