/- The document's token. -/
import Derived.Test.YtjpabeeokgfloaaM05
import Derived.Test.YtjpabeeokgfloaaM06
import Derived.Test.YtjpabeeokgfloaaM07
import Derived.Test.YtjpabeeokgfloaaM08
import Derived.BigQuiet
import Derived.Deep.RegionHeldLaw
namespace Go.Proofs.Ytjpabeeokgfloaa
open Go Go.RowKit
set_option linter.unusedVariables false
set_option maxRecDepth 20000

/-- What the document's token answers. -/
def tokR (W w' : World) (e : Ending) (l : List Int) : Prop :=
  match tokL l with
  | none => e = .returned (.tuple #[.agg #[.int .i64 0, .int .i64 0, .slice none 0 0, .int .i64 0, .int .i64 0], .int .i64 0])
  | some (t, rest) => ∃ (A : Option Addr) (n c k : Nat), e = .returned (.tuple #[tokV t A n c, .int .i64 (k : Int)]) ∧ 1 ≤ k ∧ k ≤ l.length ∧ rest = l.drop k ∧ w'.ownsRow W.heap.size 58 2 (.slice A n c) n (cellsG t.set)
theorem tokR_none {W w' : World} {l : List Int} (h : tokL l = none) : tokR W w' (.returned (.tuple #[.agg #[.int .i64 0, .int .i64 0, .slice none 0 0, .int .i64 0, .int .i64 0], .int .i64 0])) l := by
  unfold tokR; rw [h]
theorem tokR_some {W w' : World} {l : List Int} {t : TokL} {rest : List Int} {A : Option Addr} {n c k : Nat} (h : tokL l = some (t, rest)) (h1 : 1 ≤ k) (h2 : k ≤ l.length) (h3 : rest = l.drop k) (ho : w'.ownsRow W.heap.size 58 2 (.slice A n c) n (cellsG t.set)) :
    tokR W w' (.returned (.tuple #[.agg #[.int .i64 t.kind, .int .i64 t.r, .slice A n c, .int .i64 t.mn, .int .i64 t.mx], .int .i64 (k : Int)])) l := by
  unfold tokR; rw [h]; exact ⟨A, n, c, k, rfl, h1, h2, h3, ho⟩

set_option maxHeartbeats 2000000 in
theorem rtok_sign (r : Int) (l : List Int) (hs : r = 124 ∨ r = 40 ∨ r = 41 ∨ r = 94 ∨ r = 36) (A : Option Addr) (n c : Nat) (W : World) (hr : RowI .i64 W A n (r :: l)) :
    Calls Try.prog 12 #[.slice A n c] W fun e w' => tokR W w' e (r :: l) ∧ Below W.heap.size W w' := by
  have hn : 0 < n := by have := hr.1; rw [List.length_cons] at this; omega
  obtain ⟨b, o, rfl, hb, hc⟩ := hr.2 hn
  have c0 : W.cell? ⟨b, o, none⟩ = some (.int .i64 r) := hc 0 hn
  clear hc hr
  rcases hs with rfl | rfl | rfl | rfl | rfl
  all_goals
    go_enter Try.func12, Try.ntmps12
    go_wp2
    first
      | (refine bodyPost_ret (v := .tuple #[.agg #[.int .i64 1, .int .i64 124, .slice none 0 0, .int .i64 0, .int .i64 (0)], .int .i64 1]) ?_ rfl ⟨tokR_some (l := 124 :: l) (k := 1) rfl (by omega) (by rw [List.length_cons]; omega) rfl (nilG _ _), by first | exact Below.refl _ _ | exact (Below.refl _ _).alloc (Nat.le_refl _) _⟩; rw [results_cell_tmp rfl]; go_simp)
      | (refine bodyPost_ret (v := .tuple #[.agg #[.int .i64 1, .int .i64 40, .slice none 0 0, .int .i64 0, .int .i64 (0)], .int .i64 1]) ?_ rfl ⟨tokR_some (l := 40 :: l) (k := 1) rfl (by omega) (by rw [List.length_cons]; omega) rfl (nilG _ _), by first | exact Below.refl _ _ | exact (Below.refl _ _).alloc (Nat.le_refl _) _⟩; rw [results_cell_tmp rfl]; go_simp)
      | (refine bodyPost_ret (v := .tuple #[.agg #[.int .i64 1, .int .i64 41, .slice none 0 0, .int .i64 0, .int .i64 (0)], .int .i64 1]) ?_ rfl ⟨tokR_some (l := 41 :: l) (k := 1) rfl (by omega) (by rw [List.length_cons]; omega) rfl (nilG _ _), by first | exact Below.refl _ _ | exact (Below.refl _ _).alloc (Nat.le_refl _) _⟩; rw [results_cell_tmp rfl]; go_simp)
      | (refine bodyPost_ret (v := .tuple #[.agg #[.int .i64 1, .int .i64 94, .slice none 0 0, .int .i64 0, .int .i64 (0)], .int .i64 1]) ?_ rfl ⟨tokR_some (l := 94 :: l) (k := 1) rfl (by omega) (by rw [List.length_cons]; omega) rfl (nilG _ _), by first | exact Below.refl _ _ | exact (Below.refl _ _).alloc (Nat.le_refl _) _⟩; rw [results_cell_tmp rfl]; go_simp)
      | (refine bodyPost_ret (v := .tuple #[.agg #[.int .i64 1, .int .i64 36, .slice none 0 0, .int .i64 0, .int .i64 (0)], .int .i64 1]) ?_ rfl ⟨tokR_some (l := 36 :: l) (k := 1) rfl (by omega) (by rw [List.length_cons]; omega) rfl (nilG _ _), by first | exact Below.refl _ _ | exact (Below.refl _ _).alloc (Nat.le_refl _) _⟩; rw [results_cell_tmp rfl]; go_simp)
set_option maxHeartbeats 2000000 in
theorem rtok_count (r : Int) (l : List Int) (hs : r = 42 ∨ r = 43 ∨ r = 63) (A : Option Addr) (n c : Nat) (W : World) (hr : RowI .i64 W A n (r :: l)) :
    Calls Try.prog 12 #[.slice A n c] W fun e w' => tokR W w' e (r :: l) ∧ Below W.heap.size W w' := by
  have hn : 0 < n := by have := hr.1; rw [List.length_cons] at this; omega
  obtain ⟨b, o, rfl, hb, hc⟩ := hr.2 hn
  have c0 : W.cell? ⟨b, o, none⟩ = some (.int .i64 r) := hc 0 hn
  clear hc hr
  rcases hs with rfl | rfl | rfl
  all_goals
    go_enter Try.func12, Try.ntmps12
    go_wp2
    first
      | (refine bodyPost_ret (v := .tuple #[.agg #[.int .i64 2, .int .i64 0, .slice none 0 0, .int .i64 0, .int .i64 (-1)], .int .i64 1]) ?_ rfl ⟨tokR_some (l := 42 :: l) (k := 1) rfl (by omega) (by rw [List.length_cons]; omega) rfl (nilG _ _), by first | exact Below.refl _ _ | exact (Below.refl _ _).alloc (Nat.le_refl _) _⟩; rw [results_cell_tmp rfl]; go_simp)
      | (refine bodyPost_ret (v := .tuple #[.agg #[.int .i64 2, .int .i64 0, .slice none 0 0, .int .i64 1, .int .i64 (-1)], .int .i64 1]) ?_ rfl ⟨tokR_some (l := 43 :: l) (k := 1) rfl (by omega) (by rw [List.length_cons]; omega) rfl (nilG _ _), by first | exact Below.refl _ _ | exact (Below.refl _ _).alloc (Nat.le_refl _) _⟩; rw [results_cell_tmp rfl]; go_simp)
      | (refine bodyPost_ret (v := .tuple #[.agg #[.int .i64 2, .int .i64 0, .slice none 0 0, .int .i64 0, .int .i64 (1)], .int .i64 1]) ?_ rfl ⟨tokR_some (l := 63 :: l) (k := 1) rfl (by omega) (by rw [List.length_cons]; omega) rfl (nilG _ _), by first | exact Below.refl _ _ | exact (Below.refl _ _).alloc (Nat.le_refl _) _⟩; rw [results_cell_tmp rfl]; go_simp)
set_option maxHeartbeats 2000000 in
theorem rtok_no (r : Int) (l : List Int) (hs : r = 93 ∨ r = 125) (A : Option Addr) (n c : Nat) (W : World) (hr : RowI .i64 W A n (r :: l)) :
    Calls Try.prog 12 #[.slice A n c] W fun e w' => tokR W w' e (r :: l) ∧ Below W.heap.size W w' := by
  have hn : 0 < n := by have := hr.1; rw [List.length_cons] at this; omega
  obtain ⟨b, o, rfl, hb, hc⟩ := hr.2 hn
  have c0 : W.cell? ⟨b, o, none⟩ = some (.int .i64 r) := hc 0 hn
  clear hc hr
  rcases hs with rfl | rfl
  all_goals
    go_enter Try.func12, Try.ntmps12
    go_wp2
    refine bodyPost_ret (v := .tuple #[.agg #[.int .i64 0, .int .i64 0, .slice none 0 0, .int .i64 0, .int .i64 0], .int .i64 0]) ?_ rfl ⟨tokR_none rfl, by first | exact Below.refl _ _ | exact (Below.refl _ _).alloc (Nat.le_refl _) _⟩
    rw [results_cell_tmp rfl]
    go_simp
end Go.Proofs.Ytjpabeeokgfloaa
/- The document's token: braces, points, classes, what stands behind a backslash. -/
namespace Go.Proofs.Ytjpabeeokgfloaa
open Go Go.RowKit
set_option linter.unusedVariables false
set_option maxRecDepth 20000

/-- The cells of a block of one token. -/
theorem boxT_facts {w : World} {r : Nat} {v0 v1 v2 v3 v4 : Value} (h : w.heap[r]? = some (.cells #[v0, v1, v2, v3, v4] 43 (0, 0))) :
    w.cell? ⟨r, 0, none⟩ = some v0 ∧ w.cell? ⟨r, 1, none⟩ = some v1 ∧ w.cell? ⟨r, 2, none⟩ = some v2 ∧ w.cell? ⟨r, 3, none⟩ = some v3 ∧ w.cell? ⟨r, 4, none⟩ = some v4 ∧ ∀ j, w.frozen? ⟨r, j, none⟩ = false :=
  ⟨cell_of_row w r 0 _ _ (0, 0) h, cell_of_row w r 1 _ _ (0, 0) h, cell_of_row w r 2 _ _ (0, 0) h, cell_of_row w r 3 _ _ (0, 0) h, cell_of_row w r 4 _ _ (0, 0) h, fun j => by simp [World.frozen?, h]⟩
theorem put5T_heap {w : World} {r : Nat} {v0 v1 v2 v3 v4 : Value} (h : w.heap[r]? = some (.cells #[v0, v1, v2, v3, v4] 43 (0, 0))) (a b c d e : Value) : (put5 w r a b c d e).heap[r]? = some (.cells #[a, b, c, d, e] 43 (0, 0)) :=
  heap_setCell_same _ r 4 _ _ _ (heap_setCell_same _ r 3 _ _ _ (heap_setCell_same _ r 2 _ _ _ (heap_setCell_same _ r 1 _ _ _ (heap_setCell_same _ r 0 _ _ _ h))))
def zeroT : Array Value := #[.int .i64 0, .int .i64 0, .slice none 0 0, .int .i64 0, .int .i64 0]
/-- A room for a token was made first; nothing that was there has turned since. -/
def RoomT (w a : World) : Prop := Below w.heap.size w a ∧ w.heap.size < a.heap.size ∧ a.heap[w.heap.size]? = some (.cells #[.int .i64 0, .int .i64 0, .slice none 0 0, .int .i64 0, .int .i64 0] 43 (0, 0))
section
variable {w a b : World}
theorem RoomT.start (w : World) : RoomT w (w.alloc (.cells #[.int .i64 0, .int .i64 0, .slice none 0 0, .int .i64 0, .int .i64 0] 43)) :=
  ⟨(Below.refl _ _).alloc (Nat.le_refl _) _, by simp, heap_alloc_new w _⟩
theorem RoomT.below (h : RoomT w a) (hb : Below a.heap.size a b) : RoomT w b :=
  ⟨h.1.trans (hb.mono (Nat.le_of_lt h.2.1)), Nat.lt_of_lt_of_le h.2.1 hb.size, (hb.block _ h.2.1).trans h.2.2⟩
theorem RoomT.base (h : RoomT w a) : Below w.heap.size w a := h.1
theorem RoomT.lt (h : RoomT w a) : w.heap.size < a.heap.size := h.2.1
theorem RoomT.alloc (h : RoomT w a) (o : Obj) : RoomT w (a.alloc o) := h.below ((Below.refl _ _).alloc (Nat.le_refl _) o)
theorem RoomT.facts (h : RoomT w a) : a.cell? ⟨w.heap.size, 0, none⟩ = some (.int .i64 0) ∧ a.cell? ⟨w.heap.size, 1, none⟩ = some (.int .i64 0) ∧ a.cell? ⟨w.heap.size, 2, none⟩ = some (.slice none 0 0) ∧ a.cell? ⟨w.heap.size, 3, none⟩ = some (.int .i64 0) ∧ a.cell? ⟨w.heap.size, 4, none⟩ = some (.int .i64 0) ∧ ∀ j, a.frozen? ⟨w.heap.size, j, none⟩ = false := boxT_facts h.2.2
theorem RoomT.cells (h : RoomT w a) (v0 v1 v2 v3 v4 : Value) : (put5 a w.heap.size v0 v1 v2 v3 v4).cell? ⟨w.heap.size, 0, none⟩ = some v0 ∧ (put5 a w.heap.size v0 v1 v2 v3 v4).cell? ⟨w.heap.size, 1, none⟩ = some v1 ∧ (put5 a w.heap.size v0 v1 v2 v3 v4).cell? ⟨w.heap.size, 2, none⟩ = some v2 ∧ (put5 a w.heap.size v0 v1 v2 v3 v4).cell? ⟨w.heap.size, 3, none⟩ = some v3 ∧ (put5 a w.heap.size v0 v1 v2 v3 v4).cell? ⟨w.heap.size, 4, none⟩ = some v4 ∧ ∀ j, (put5 a w.heap.size v0 v1 v2 v3 v4).frozen? ⟨w.heap.size, j, none⟩ = false := boxT_facts (put5T_heap h.2.2 _ _ _ _ _)
theorem RoomT.put (h : RoomT w a) (v0 v1 v2 v3 v4 : Value) : Below w.heap.size w (put5 a w.heap.size v0 v1 v2 v3 v4) := h.1.trans (put5_below a (Nat.le_refl _) _ _ _ _ _)
/-- A row made since stays where the room is filled. -/
theorem RoomT.own (h : RoomT w a) {P : Option Addr} {q pc B : Nat} {s : List (Int × Int)} (hB : w.heap.size < B) (ho : a.ownsRow B 58 2 (.slice P q pc) q (cellsG s)) (v0 v1 v2 v3 v4 : Value) : (put5 a w.heap.size v0 v1 v2 v3 v4).ownsRow w.heap.size 58 2 (.slice P q pc) q (cellsG s) := by
  have h1 : (put5 a w.heap.size v0 v1 v2 v3 v4).ownsRow B 58 2 (.slice P q pc) q (cellsG s) := row_keep ho fun k hk hv => put5_other a (r := w.heap.size) (by have := (row_lt ho hv).1; omega) _ _ _ _ _
  exact row_base h1 fun j hj => by have := (row_lt h1 hj).1; omega
end
/-- The rest of a count is what is left of the code points. -/
theorem braceL_drop {l rest : List Int} {t : TokL} (h : braceL l = some (t, rest)) : rest = l.drop (l.length - rest.length) := by
  have key : ∀ (k : Nat) (q l : List Int), q = l.drop k → k + q.length = l.length → q = l.drop (l.length - q.length) := fun k q l h1 h2 => by
    rw [show l.length - q.length = k by omega]; exact h1
  have cons : ∀ (x : Int) (q l : List Int) (k : Nat), x :: q = l.drop k → k + (x :: q).length = l.length → q = l.drop (k + 1) ∧ k + 1 + q.length = l.length := fun x q l k h1 h2 => by
    refine ⟨?_, by rw [List.length_cons] at h2; omega⟩
    rw [show l.drop (k + 1) = (l.drop k).drop 1 by rw [List.drop_drop], ← h1]; rfl
  unfold braceL at h
  split at h
  · rename_i a l' h1
    injection h with h; injection h with _ h; subst h
    obtain ⟨k, _, _, e1, e2, _⟩ := numL_rest h1
    obtain ⟨f1, f2⟩ := cons _ _ _ _ e1 e2
    exact key _ _ _ f1 f2
  · rename_i a l' h1
    injection h with h; injection h with _ h; subst h
    obtain ⟨k, _, _, e1, e2, _⟩ := numL_rest h1
    obtain ⟨f1, f2⟩ := cons _ _ _ _ e1 e2
    obtain ⟨f1, f2⟩ := cons _ _ _ _ f1 f2
    exact key _ _ _ f1 f2
  · rename_i a l' _ h1
    split at h
    · rename_i b l'' h2
      split at h
      · cases h
      · injection h with h; injection h with _ h; subst h
        obtain ⟨k, _, _, e1, e2, _⟩ := numL_rest h1
        obtain ⟨f1, f2⟩ := cons _ _ _ _ e1 e2
        obtain ⟨m, _, _, g1, g2, _⟩ := numL_rest h2
        have g1' : 125 :: l'' = l.drop (k + 1 + m) := by rw [g1, f1, List.drop_drop]
        obtain ⟨f1, f2⟩ := cons _ _ _ _ g1' (by omega)
        exact key _ _ _ f1 f2
    · cases h
  · cases h
theorem braceL_set {l rest : List Int} {t : TokL} (h : braceL l = some (t, rest)) : t.set = [] := by
  unfold braceL at h
  split at h
  · injection h with h; injection h with h _; subst h; rfl
  · injection h with h; injection h with h _; subst h; rfl
  · split at h
    · split at h
      · cases h
      · injection h with h; injection h with h _; subst h; rfl
    · cases h
  · cases h

/-- Where the place behind the first code point lies. -/
theorem tail_row {W : World} {b o n c : Nat} {r : Int} {l : List Int} (hr : RowI .i64 W (some ⟨b, o, none⟩) n (r :: l)) : RowI .i64 W (some ⟨b, o + 1, none⟩) (n - 1) l ∧ (n = 1 → RowI .i64 W (some ⟨b, o, none⟩) 0 l) := by
  have hl := hr.1
  rw [List.length_cons] at hl
  refine ⟨by simpa [Addr.add] using rowI_from hr (m := 1) (by omega), fun h => ?_⟩
  have : l = [] := List.eq_nil_of_length_eq_zero (by omega)
  subst this
  exact ⟨rfl, fun h => absurd h (by omega)⟩

set_option maxHeartbeats 2000000 in
theorem rtok_brace (l : List Int) (A : Option Addr) (n c : Nat) (W : World) (hr : RowI .i64 W A n (123 :: l)) (hn : n ≤ 1000) (hnc : n ≤ c) :
    Calls Try.prog 12 #[.slice A n c] W fun e w' => tokR W w' e (123 :: l) ∧ Below W.heap.size W w' := by
  have hlen := hr.1
  rw [List.length_cons] at hlen
  have hn0 : 0 < n := by omega
  obtain ⟨b, o, rfl, hb, hc⟩ := hr.2 hn0
  have c0 : W.cell? ⟨b, o, none⟩ = some (.int .i64 123) := hc 0 hn0
  have HS := Lib.hid (RoomT.start W)
  have HP : Hid (∀ A' n' c' w, Below W.heap.size W w → RowI .i64 W A' n' l → n' ≤ 1000 → n' ≤ c' → Calls Try.prog 20 #[.slice A' n' c'] w fun e w' => braceR l e ∧ Below w.heap.size w w') := Lib.hid fun A' n' c' w h h' h1 h2 => rbrace_any l A' n' c' w (h'.below h (Nat.le_refl _)) h1 h2
  have HR := Lib.hid (tail_row (c := c) hr)
  have HL := Lib.hid hlen
  clear hr hc hlen
  rcases hbr : braceL l with _ | ⟨t, rest⟩
  · have HB := Lib.hid hbr
    clear hbr
    by_cases hc1 : 1 < c
    · go_enter Try.func12, Try.ntmps12
      go_wp2_with (go_at_call 20; (with_reducible refine (HP.out _ _ _ _ HS.out.base HR.out.1 (by omega) (by omega)).mono ?_); rintro e w1 ⟨hv, hb1⟩; unfold braceR at hv; rw [HB.out] at hv; dsimp only at hv; subst hv; have HS1 := Lib.hid (HS.out.below hb1); have HS2 := Lib.hid (HS1.out.alloc (.cells #[.int .i64 0, .int .i64 0, .slice none 0 0, .int .i64 0, .int .i64 0] 43)); obtain ⟨q0, q1, q2, q3, q4, qf⟩ := HS2.out.facts; clear hb1)
      obtain ⟨z0, z1, z2, z3, z4, _⟩ := HS2.out.cells (.int .i64 0) (.int .i64 0) (.slice none 0 0) (.int .i64 0) (.int .i64 0)
      simp only [put5] at z0 z1 z2 z3 z4
      (try simp only [Exit.inBlock, Exit.then])
      refine bodyPost_ret (v := .tuple #[.agg #[.int .i64 0, .int .i64 0, .slice none 0 0, .int .i64 0, .int .i64 0], .int .i64 0]) ?_ rfl ⟨tokR_none (by rw [tok_brace]; exact HB.out), HS2.out.put _ _ _ _ _⟩
      rw [results_cell_tmp rfl]; go_simp
    · obtain rfl : n = 1 := by omega
      obtain rfl : c = 1 := by omega
      go_enter Try.func12, Try.ntmps12
      go_wp2_with (go_at_call 20; (with_reducible refine (HP.out _ _ _ _ HS.out.base (HR.out.2 rfl) (by omega) (by omega)).mono ?_); rintro e w1 ⟨hv, hb1⟩; unfold braceR at hv; rw [HB.out] at hv; dsimp only at hv; subst hv; have HS1 := Lib.hid (HS.out.below hb1); have HS2 := Lib.hid (HS1.out.alloc (.cells #[.int .i64 0, .int .i64 0, .slice none 0 0, .int .i64 0, .int .i64 0] 43)); obtain ⟨q0, q1, q2, q3, q4, qf⟩ := HS2.out.facts; clear hb1)
      obtain ⟨z0, z1, z2, z3, z4, _⟩ := HS2.out.cells (.int .i64 0) (.int .i64 0) (.slice none 0 0) (.int .i64 0) (.int .i64 0)
      simp only [put5] at z0 z1 z2 z3 z4
      (try simp only [Exit.inBlock, Exit.then])
      refine bodyPost_ret (v := .tuple #[.agg #[.int .i64 0, .int .i64 0, .slice none 0 0, .int .i64 0, .int .i64 0], .int .i64 0]) ?_ rfl ⟨tokR_none (by rw [tok_brace]; exact HB.out), HS2.out.put _ _ _ _ _⟩
      rw [results_cell_tmp rfl]; go_simp
  · have HB := Lib.hid hbr
    have HD := Lib.hid (braceL_drop hbr)
    have HK : Hid (∀ (w : World) (B : Nat), w.ownsRow B 58 2 (.slice none 0 0) 0 (cellsG t.set)) := Lib.hid fun w B => by rw [braceL_set hbr]; exact nilG _ _
    have hl0 : 0 < l.length := by
      have := braceL_lt hbr
      omega
    have hc1 : 1 < c := by have := HL.out; omega
    have hn1 : 1 < n := by have := HL.out; omega
    clear hbr
    go_enter Try.func12, Try.ntmps12
    go_wp2_with (go_at_call 20; (with_reducible refine (HP.out _ _ _ _ HS.out.base HR.out.1 (by omega) (by omega)).mono ?_); rintro e w1 ⟨hv, hb1⟩; unfold braceR at hv; rw [HB.out] at hv; dsimp only at hv; obtain ⟨j, hj1, hj2, rfl⟩ := hv; unfold tokV; have HJ := Lib.hid (And.intro hj1 hj2); have j0 : ¬ (j : Int) = 0 := (by omega); have j1 : ((j : Int) == 0) = false := (by simpa using j0); have jw : IntKind.i64.wrap ((j : Int) + 1) = (j : Int) + 1 := (by rw [IntKind.wrap_i64]; have := HL.out; omega); clear hj1 hj2; have HS1 := Lib.hid (HS.out.below hb1); have HS2 := Lib.hid (HS1.out.alloc (.cells #[.int .i64 t.kind, .int .i64 t.r, .slice none 0 0, .int .i64 t.mn, .int .i64 t.mx] 43)); obtain ⟨q0, q1, q2, q3, q4, qf⟩ := HS2.out.facts; clear hb1)
    obtain ⟨z0, z1, z2, z3, z4, _⟩ := HS2.out.cells (.int .i64 t.kind) (.int .i64 t.r) (.slice none 0 0) (.int .i64 t.mn) (.int .i64 t.mx)
    simp only [put5] at z0 z1 z2 z3 z4
    (try simp only [Exit.inBlock, Exit.then])
    refine bodyPost_ret (v := .tuple #[.agg #[.int .i64 t.kind, .int .i64 t.r, .slice none 0 0, .int .i64 t.mn, .int .i64 t.mx], .int .i64 ((j : Int) + 1)]) ?_ rfl ⟨?_, HS2.out.put _ _ _ _ _⟩
    · rw [results_cell_tmp rfl]; go_simp
    · rw [show (j : Int) + 1 = ((j + 1 : Nat) : Int) by omega]
      refine tokR_some (by rw [tok_brace]; exact HB.out) (by omega) (by rw [List.length_cons]; have := HJ.out.1; omega) (HD.out.trans ?_) ?_
      · rw [List.drop_succ_cons, show l.length - rest.length = j by have := HJ.out.1; omega]
      · exact HK.out _ _
end Go.Proofs.Ytjpabeeokgfloaa
/- The document's token: the dot, the class, the backslash, any other. -/
namespace Go.Proofs.Ytjpabeeokgfloaa
open Go Go.RowKit
set_option linter.unusedVariables false
set_option maxRecDepth 20000

/-- A row of ranges made behind the room. -/
theorem ownG_two (W : World) (X : Obj) (s : List (Int × Int)) (hl : s.length ≤ 1000000) (k : Nat) (hk : k = s.length) : ((W.alloc X).alloc (.cells (cellsG s).toArray 58)).ownsRow W.heap.size 58 2 (.slice (some ⟨W.heap.size + 1, 0, none⟩) k k) k (cellsG s) := by
  subst hk
  have h := ownG_made (W.alloc X) s hl
  have e : (W.alloc X).heap.size = W.heap.size + 1 := by simp
  rw [e] at h
  exact row_base h fun j hj => by have := (row_lt h hj).1; omega

set_option maxHeartbeats 2000000 in
theorem rtok_dot (l : List Int) (A : Option Addr) (n c : Nat) (W : World) (hr : RowI .i64 W A n (46 :: l)) :
    Calls Try.prog 12 #[.slice A n c] W fun e w' => tokR W w' e (46 :: l) ∧ Below W.heap.size W w' := by
  have hn : 0 < n := by have := hr.1; rw [List.length_cons] at this; omega
  obtain ⟨b, o, rfl, hb, hc⟩ := hr.2 hn
  have c0 : W.cell? ⟨b, o, none⟩ = some (.int .i64 46) := hc 0 hn
  clear hc hr
  go_enter Try.func12, Try.ntmps12
  go_wp2
  refine bodyPost_ret (v := .tuple #[.agg #[.int .i64 0, .int .i64 0, .slice (some ⟨W.heap.size + 1, 0, none⟩) 2 2, .int .i64 0, .int .i64 0], .int .i64 1]) ?_ rfl ⟨tokR_some (l := 46 :: l) (t := tokC [(0, 9), (11, 1114111)]) (k := 1) rfl (by omega) (by rw [List.length_cons]; omega) rfl ?_, ?_⟩
  · rw [results_cell_tmp rfl]; go_simp
  · exact ownG_two W _ [(0, 9), (11, 1114111)] (by simp) _ rfl
  · exact ((Below.refl _ _).alloc (Nat.le_refl _) _).alloc (by simp) _
set_option maxHeartbeats 2000000 in
theorem rtok_other (r : Int) (l : List Int) (h : ¬ (r = 124 ∨ r = 40 ∨ r = 41 ∨ r = 94 ∨ r = 36 ∨ r = 42 ∨ r = 43 ∨ r = 63 ∨ r = 123 ∨ r = 46 ∨ r = 91 ∨ r = 92 ∨ r = 93 ∨ r = 125)) (A : Option Addr) (n c : Nat) (W : World) (hr : RowI .i64 W A n (r :: l)) :
    Calls Try.prog 12 #[.slice A n c] W fun e w' => tokR W w' e (r :: l) ∧ Below W.heap.size W w' := by
  have hn : 0 < n := by have := hr.1; rw [List.length_cons] at this; omega
  obtain ⟨b, o, rfl, hb, hc⟩ := hr.2 hn
  have c0 : W.cell? ⟨b, o, none⟩ = some (.int .i64 r) := hc 0 hn
  have HT := Lib.hid (show tokL (r :: l) = some (tokC [(r, r)], l) from tok_plain l (by unfold signB; rw [decide_eq_false_iff_not]; simp only [List.mem_cons, List.not_mem_nil, or_false]; omega))
  obtain ⟨e1, e2, e3, e4, e5, e6, e7⟩ : (r == 124) = false ∧ (r == 40) = false ∧ (r == 41) = false ∧ (r == 94) = false ∧ (r == 36) = false ∧ (r == 42) = false ∧ (r == 43) = false := by simp; omega
  obtain ⟨f1, f2, f3, f4, f5, f6, f7⟩ : (r == 63) = false ∧ (r == 123) = false ∧ (r == 46) = false ∧ (r == 91) = false ∧ (r == 92) = false ∧ (r == 93) = false ∧ (r == 125) = false := by simp; omega
  clear hc hr h
  go_enter Try.func12, Try.ntmps12
  go_wp2
  go_region
  go_wp2
  refine bodyPost_ret (v := .tuple #[.agg #[.int .i64 0, .int .i64 0, .slice (some ⟨W.heap.size + 1, 0, none⟩) 1 1, .int .i64 0, .int .i64 0], .int .i64 1]) ?_ rfl ⟨tokR_some (l := r :: l) (t := tokC [(r, r)]) (k := 1) HT.out (by omega) (by rw [List.length_cons]; omega) rfl ?_, ?_⟩
  · rw [results_cell_tmp rfl]; go_simp
  · exact ownG_kept (ownG_two W _ [(r, r)] (by simp) _ rfl) ((Below.refl _ _).drew)
  · exact (((Below.refl _ _).alloc (Nat.le_refl _) _).alloc (by simp) _).drew
set_option maxHeartbeats 4000000 in
theorem rtok_class (l : List Int) (A : Option Addr) (n c : Nat) (W : World) (hr : RowI .i64 W A n (91 :: l)) (hn : n ≤ 200) (hnc : n ≤ c) (hw : ∀ x ∈ l, 0 ≤ x ∧ x ≤ 1114111) :
    Calls Try.prog 12 #[.slice A n c] W fun e w' => tokR W w' e (91 :: l) ∧ Below W.heap.size W w' := by
  have hlen := hr.1
  rw [List.length_cons] at hlen
  have hn0 : 0 < n := by omega
  obtain ⟨b, o, rfl, hb, hc⟩ := hr.2 hn0
  have c0 : W.cell? ⟨b, o, none⟩ = some (.int .i64 91) := hc 0 hn0
  have HS := Lib.hid (RoomT.start W)
  have HP : Hid (∀ A' n' c' w, Below W.heap.size W w → RowI .i64 W A' n' l → n' ≤ 200 → n' ≤ c' → Calls Try.prog 21 #[.slice A' n' c'] w fun e w' => clsV w w' e (classL l) l ∧ Below w.heap.size w w') := Lib.hid fun A' n' c' w h h' h1 h2 => rclass_any l A' n' c' w (h'.below h (Nat.le_refl _)) h1 h2 hw
  have HR := Lib.hid (tail_row (c := c) hr)
  have HL := Lib.hid hlen
  clear hr hc hlen hw
  rcases hbr : classL l with _ | ⟨s, rest⟩
  · have HB := Lib.hid hbr
    clear hbr
    by_cases hc1 : 1 < c
    · go_enter Try.func12, Try.ntmps12
      go_wp2_with (go_at_call 21; (with_reducible refine (HP.out _ _ _ _ HS.out.base HR.out.1 (by omega) (by omega)).mono ?_); rintro e w1 ⟨hv, hb1⟩; unfold clsV at hv; rw [HB.out] at hv; dsimp only at hv; subst hv; have HS1 := Lib.hid (HS.out.below hb1); obtain ⟨q0, q1, q2, q3, q4, qf⟩ := HS1.out.facts; clear hb1)
      obtain ⟨z0, z1, z2, z3, z4, _⟩ := HS1.out.cells (.int .i64 0) (.int .i64 0) (.slice none 0 0) (.int .i64 0) (.int .i64 0)
      simp only [put5] at z0 z1 z2 z3 z4
      (try simp only [Exit.inBlock, Exit.then])
      refine bodyPost_ret (v := .tuple #[.agg #[.int .i64 0, .int .i64 0, .slice none 0 0, .int .i64 0, .int .i64 0], .int .i64 0]) ?_ rfl ⟨?_, HS1.out.put _ _ _ _ _⟩
      · rw [results_cell_tmp rfl]; go_simp
      · exact tokR_none (by rw [tok_class, HB.out]; rfl)
    · obtain rfl : n = 1 := by omega
      obtain rfl : c = 1 := by omega
      go_enter Try.func12, Try.ntmps12
      go_wp2_with (go_at_call 21; (with_reducible refine (HP.out _ _ _ _ HS.out.base (HR.out.2 rfl) (by omega) (by omega)).mono ?_); rintro e w1 ⟨hv, hb1⟩; unfold clsV at hv; rw [HB.out] at hv; dsimp only at hv; subst hv; have HS1 := Lib.hid (HS.out.below hb1); obtain ⟨q0, q1, q2, q3, q4, qf⟩ := HS1.out.facts; clear hb1)
      obtain ⟨z0, z1, z2, z3, z4, _⟩ := HS1.out.cells (.int .i64 0) (.int .i64 0) (.slice none 0 0) (.int .i64 0) (.int .i64 0)
      simp only [put5] at z0 z1 z2 z3 z4
      (try simp only [Exit.inBlock, Exit.then])
      refine bodyPost_ret (v := .tuple #[.agg #[.int .i64 0, .int .i64 0, .slice none 0 0, .int .i64 0, .int .i64 0], .int .i64 0]) ?_ rfl ⟨?_, HS1.out.put _ _ _ _ _⟩
      · rw [results_cell_tmp rfl]; go_simp
      · exact tokR_none (by rw [tok_class, HB.out]; rfl)
  · have HB := Lib.hid hbr
    have hl0 : 0 < l.length := by
      have := classL_lt hbr
      omega
    have hc1 : 1 < c := by have := HL.out; omega
    have hn1 : 1 < n := by have := HL.out; omega
    clear hbr
    go_enter Try.func12, Try.ntmps12
    go_wp2_with (go_at_call 21; (with_reducible refine (HP.out _ _ _ _ HS.out.base HR.out.1 (by omega) (by omega)).mono ?_); rintro e w1 ⟨hv, hb1⟩; unfold clsV at hv; rw [HB.out] at hv; dsimp only at hv; obtain ⟨P, q, pc, k, rfl, hk1, hk2, hk3, ho⟩ := hv; have HJ := Lib.hid (And.intro hk1 (And.intro hk2 (And.intro hk3 ho))); have j0 : ¬ (k : Int) = 0 := (by omega); have j1 : ((k : Int) == 0) = false := (by simpa using j0); have jw : IntKind.i64.wrap ((k : Int) + 1) = (k : Int) + 1 := (by rw [IntKind.wrap_i64]; have := HL.out; omega); clear hk1 hk2 hk3 ho; have ho := (show Hid (w1.ownsRow (W.heap.size + 1) 58 2 (.slice P q pc) q (cellsG s)) from Lib.hid (by have h := HJ.out.2.2.2; rwa [show (W.alloc (.cells #[.int .i64 0, .int .i64 0, .slice none 0 0, .int .i64 0, .int .i64 0] 43)).heap.size = W.heap.size + 1 by simp] at h)); have HS1 := Lib.hid (HS.out.below hb1); obtain ⟨q0, q1, q2, q3, q4, qf⟩ := HS1.out.facts; clear hb1)
    obtain ⟨z0, z1, z2, z3, z4, _⟩ := HS1.out.cells (.int .i64 0) (.int .i64 0) (.slice P q pc) (.int .i64 0) (.int .i64 0)
    simp only [put5] at z0 z1 z2 z3 z4
    (try simp only [Exit.inBlock, Exit.then])
    refine bodyPost_ret (v := .tuple #[.agg #[.int .i64 0, .int .i64 0, .slice P q pc, .int .i64 0, .int .i64 0], .int .i64 ((k : Int) + 1)]) ?_ rfl ⟨?_, HS1.out.put _ _ _ _ _⟩
    · rw [results_cell_tmp rfl]; go_simp
    · rw [show (k : Int) + 1 = ((k + 1 : Nat) : Int) by omega]
      exact tokR_some (t := tokC s) (by rw [tok_class, HB.out]; rfl) (by omega) (by rw [List.length_cons]; have := HJ.out.2.1; omega) (by rw [List.drop_succ_cons]; exact HJ.out.2.2.1) (HS1.out.own (Nat.lt_succ_self _) ho.out _ _ _ _ _)
set_option maxHeartbeats 4000000 in
theorem rtok_back (l : List Int) (A : Option Addr) (n c : Nat) (W : World) (hr : RowI .i64 W A n (92 :: l)) :
    Calls Try.prog 12 #[.slice A n c] W fun e w' => tokR W w' e (92 :: l) ∧ Below W.heap.size W w' := by
  have hlen := hr.1
  rw [List.length_cons] at hlen
  have hn0 : 0 < n := by omega
  obtain ⟨b, o, rfl, hb, hc⟩ := hr.2 hn0
  have c0 : W.cell? ⟨b, o, none⟩ = some (.int .i64 92) := hc 0 hn0
  have HS := Lib.hid (RoomT.start W)
  rcases l with _ | ⟨x, l⟩
  · obtain rfl : n = 1 := by simpa using hlen.symm
    clear hr hc hlen
    go_enter Try.func12, Try.ntmps12
    go_wp2
    refine bodyPost_ret (v := .tuple #[.agg #[.int .i64 0, .int .i64 0, .slice none 0 0, .int .i64 0, .int .i64 0], .int .i64 0]) ?_ rfl ⟨tokR_none rfl, HS.out.base⟩
    rw [results_cell_tmp rfl]; go_simp
  · rw [List.length_cons] at hlen
    have c1 : W.cell? ⟨b, o + 1, none⟩ = some (.int .i64 x) := hc 1 (by omega)
    have n2 : ¬ (n : Int) < 2 := by omega
    have n3 : 1 < n := by omega
    have HE := Lib.hid fun w => resc_any x w
    clear hr hc hlen
    rcases he : escL x with _ | ⟨s, is⟩
    · have HX := Lib.hid he
      clear he
      go_enter Try.func12, Try.ntmps12
      go_wp2_with (go_at_call 22; (with_reducible refine (HE.out _).mono ?_); rintro e w1 ⟨hv, hb1⟩; unfold escV at hv; rw [HX.out] at hv; dsimp only at hv; subst hv; have HS1 := Lib.hid (HS.out.below hb1); obtain ⟨q0, q1, q2, q3, q4, qf⟩ := HS1.out.facts; clear hb1)
      obtain ⟨z0, z1, z2, z3, z4, _⟩ := HS1.out.cells (.int .i64 0) (.int .i64 0) (.slice none 0 0) (.int .i64 0) (.int .i64 0)
      simp only [put5] at z0 z1 z2 z3 z4
      (try simp only [Exit.inBlock, Exit.then])
      refine bodyPost_ret (v := .tuple #[.agg #[.int .i64 0, .int .i64 0, .slice none 0 0, .int .i64 0, .int .i64 0], .int .i64 0]) ?_ rfl ⟨?_, HS1.out.put _ _ _ _ _⟩
      · rw [results_cell_tmp rfl]; go_simp
      · exact tokR_none (by rw [tok_back, HX.out]; rfl)
    · have HX := Lib.hid he
      clear he
      go_enter Try.func12, Try.ntmps12
      go_wp2_with (go_at_call 22; (with_reducible refine (HE.out _).mono ?_); rintro e w1 ⟨hv, hb1⟩; unfold escV at hv; rw [HX.out] at hv; dsimp only at hv; obtain ⟨P, q, pc, rfl, ho⟩ := hv; have HO := (show Hid (w1.ownsRow (W.heap.size + 1) 58 2 (.slice P q pc) q (cellsG s)) from Lib.hid (by rwa [show (W.alloc (.cells #[.int .i64 0, .int .i64 0, .slice none 0 0, .int .i64 0, .int .i64 0] 43)).heap.size = W.heap.size + 1 by simp] at ho)); clear ho; have HS1 := Lib.hid (HS.out.below hb1); obtain ⟨q0, q1, q2, q3, q4, qf⟩ := HS1.out.facts; clear hb1)
      obtain ⟨z0, z1, z2, z3, z4, _⟩ := HS1.out.cells (.int .i64 0) (.int .i64 0) (.slice P q pc) (.int .i64 0) (.int .i64 0)
      simp only [put5] at z0 z1 z2 z3 z4
      (try simp only [Exit.inBlock, Exit.then])
      refine bodyPost_ret (v := .tuple #[.agg #[.int .i64 0, .int .i64 0, .slice P q pc, .int .i64 0, .int .i64 0], .int .i64 2]) ?_ rfl ⟨?_, HS1.out.put _ _ _ _ _⟩
      · rw [results_cell_tmp rfl]; go_simp
      · exact tokR_some (t := tokC s) (k := 2) (by rw [tok_back, HX.out]; rfl) (by omega) (by simp) rfl (HS1.out.own (Nat.lt_succ_self _) HO.out _ _ _ _ _)
/-- The first token. -/
theorem rtok_any (l : List Int) (h0 : l ≠ []) (A : Option Addr) (n c : Nat) (W : World) (hr : RowI .i64 W A n l) (hn : n ≤ 200) (hnc : n ≤ c) (hw : ∀ x ∈ l, 0 ≤ x ∧ x ≤ 1114111) :
    Calls Try.prog 12 #[.slice A n c] W fun e w' => tokR W w' e l ∧ Below W.heap.size W w' := by
  rcases l with _ | ⟨r, l⟩
  · exact absurd rfl h0
  by_cases h1 : r = 124 ∨ r = 40 ∨ r = 41 ∨ r = 94 ∨ r = 36
  · exact rtok_sign r l h1 A n c W hr
  by_cases h2 : r = 42 ∨ r = 43 ∨ r = 63
  · exact rtok_count r l h2 A n c W hr
  by_cases h3 : r = 93 ∨ r = 125
  · exact rtok_no r l h3 A n c W hr
  by_cases h4 : r = 123
  · subst h4; exact rtok_brace l A n c W hr (by omega) hnc
  by_cases h5 : r = 46
  · subst h5; exact rtok_dot l A n c W hr
  by_cases h6 : r = 91
  · subst h6; exact rtok_class l A n c W hr hn hnc fun x hx => hw x (List.mem_cons_of_mem _ hx)
  by_cases h7 : r = 92
  · subst h7; exact rtok_back l A n c W hr
  exact rtok_other r l (by omega) A n c W hr
end Go.Proofs.Ytjpabeeokgfloaa
/- Rows of the document's tokens, and where a parenthesis is closed. -/
namespace Go.Proofs.Ytjpabeeokgfloaa
open Go Go.RowKit
set_option linter.unusedVariables false
set_option maxRecDepth 20000

/-- A token's five values. -/
def tokC5 (t : TokL) (A : Option Addr) (m c : Nat) : List Value := [.int .i64 t.kind, .int .i64 t.r, .slice A m c, .int .i64 t.mn, .int .i64 t.mx]
/-- The slice at L with n tokens reads as ts; the sets' blocks are of F. -/
def ToksAt (F : Nat → Prop) (w : World) (L : Option Addr) (n : Nat) (ts : List TokL) : Prop :=
  ts.length = n ∧ (0 < n → ∃ b o, L = some ⟨b, o, none⟩ ∧ b < w.heap.size ∧ ∀ j t, ts[j]? = some t → ∃ (A : Option Addr) (m c : Nat), (∀ i v, (tokC5 t A m c)[i]? = some v → w.cell? ⟨b, o + j * 5 + i, none⟩ = some v) ∧ RowF F w A m t.set)
section
variable {F : Nat → Prop} {w w' : World} {L : Option Addr} {n : Nat} {ts : List TokL}
theorem ToksAt.below (h : ToksAt F w L n ts) (hb : Below w.heap.size w w') : ToksAt F w' L n ts := by
  refine ⟨h.1, fun hn => ?_⟩
  obtain ⟨b, o, hL, hlt, hc⟩ := h.2 hn
  refine ⟨b, o, hL, Nat.lt_of_lt_of_le hlt hb.size, fun j t ht => ?_⟩
  obtain ⟨A, m, c, h1, h2⟩ := hc j t ht
  exact ⟨A, m, c, fun i v hv => (hb.cell (p := ⟨b, o + j * 5 + i, none⟩) hlt).trans (h1 i v hv), h2.below hb⟩
theorem ToksAt.cut (h : ToksAt F w L n ts) (k m : Nat) (hk : k + m ≤ n) (b o : Nat) (hL : L = some ⟨b, o, none⟩) : ToksAt F w (some ⟨b, o + k * 5, none⟩) m ((ts.drop k).take m) := by
  refine ⟨by rw [List.length_take, List.length_drop, h.1]; omega, fun hm => ?_⟩
  obtain ⟨b', o', hL', hlt, hc⟩ := h.2 (by omega)
  rw [hL] at hL'
  injection hL' with hL'
  injection hL' with e1 e2
  subst e1; subst e2
  refine ⟨b, o + k * 5, rfl, hlt, fun j t ht => ?_⟩
  have hj : j < m := by have := (List.getElem?_eq_some_iff.1 ht).1; rw [List.length_take] at this; omega
  rw [List.getElem?_take_of_lt hj, List.getElem?_drop] at ht
  obtain ⟨A, m', c, h1, h2⟩ := hc (k + j) t ht
  exact ⟨A, m', c, fun i v hv => by rw [show o + k * 5 + j * 5 + i = o + (k + j) * 5 + i by omega]; exact h1 i v hv, h2⟩
end

/-- Where a parenthesis is closed, counted. -/
def closeR : Nat → List TokL → Option Nat
  | _, [] => none
  | d, t :: l => if isOpen t = true then (closeR (d + 1) l).map (· + 1) else if isShut t = true then (if d = 1 then some 0 else (closeR (d - 1) l).map (· + 1)) else (closeR d l).map (· + 1)
theorem closeR_is : ∀ (l : List TokL) (c : Nat), closeR (c + 1) l = closeL c l
  | [], _ => by rw [closeR, closeL]
  | t :: l, c => by
    rw [closeR, closeL_cons, closeR_is l (c + 1)]
    rcases c with _ | c
    · rw [if_pos rfl, closeR_is l 0]
    · have e : ∀ x : Option Nat, (if c + 1 + 1 = 1 then some 0 else x) = x := fun x => if_neg (by omega)
      rw [e, show c + 1 + 1 - 1 = c + 1 by omega, closeR_is l c, closeR_is l (c + 1)]
def closeI (at' : Nat) (r : Option Nat) : Int := match r with
  | some k => (at' : Int) + (k : Int)
  | none => -1
theorem closeR_some : ∀ (l : List TokL) (d k : Nat), closeR d l = some k → k < l.length
  | [], _, _, h => by cases h
  | t :: l, d, k, h => by
    rw [closeR] at h
    rw [List.length_cons]
    split at h
    · obtain ⟨i, hi, rfl⟩ := Option.map_eq_some_iff.1 h
      have := closeR_some l _ i hi
      omega
    · split at h
      · split at h
        · injection h with h; omega
        · obtain ⟨i, hi, rfl⟩ := Option.map_eq_some_iff.1 h
          have := closeR_some l _ i hi
          omega
      · obtain ⟨i, hi, rfl⟩ := Option.map_eq_some_iff.1 h
        have := closeR_some l _ i hi
        omega

set_option maxHeartbeats 2000000 in
theorem rclose_any {F : Nat → Prop} {W : World} {L : Option Addr} {n : Nat} {ts : List TokL} (c : Nat) (h : ToksAt F W L n ts) (hn : n ≤ 200) (k : Nat) (t0 : TokL) (hk : ts[k]? = some t0) (h0 : isOpen t0 = true) :
    Calls Try.prog 24 #[.slice L n c, .int .i64 (k : Int)] W fun e w' => e = .returned (.int .i64 (closeI k (closeR 0 (ts.drop k)))) ∧ W = w' := by
  have hkn : k < n := by have := (List.getElem?_eq_some_iff.1 hk).1; rw [h.1] at this; exact this
  obtain ⟨b, o, rfl, hlt, hc⟩ := h.2 (by omega)
  have HL := Lib.hid h.1
  have HC := Lib.hid fun j t (ht : ts[j]? = some t) => show W.cell? ⟨b, o + j * 5, none⟩ = some (.int .i64 t.kind) ∧ W.cell? ⟨b, o + j * 5 + 1, none⟩ = some (.int .i64 t.r) from by
    obtain ⟨A, m, c, h1, _⟩ := hc j t ht
    exact ⟨h1 0 _ rfl, h1 1 _ rfl⟩
  have HK := Lib.hid (And.intro hk h0)
  clear h hc hk h0
  go_enter Try.func24, Try.ntmps24
  go_wp2_with fail
  go_loopw [5, 6] (fun vd vi wr => ∃ (d j : Nat), vd = .int .i64 (d : Int) ∧ vi = .int .i64 (j : Int) ∧ wr = W ∧ j ≤ n ∧ k ≤ j ∧ d ≤ j ∧ Hid ((1 ≤ d ∨ (d = 0 ∧ j = k)) ∧ closeR 0 (ts.drop k) = (closeR d (ts.drop j)).map (· + (j - k)))) (fun _ vi _ => match vi with | .int _ j => n - j.toNat | _ => 0)
  case atStart => exact ⟨0, k, rfl, rfl, rfl, by omega, by omega, by omega, Lib.hid ⟨.inr ⟨rfl, rfl⟩, by simp⟩⟩
  case round =>
    obtain ⟨d, j, rfl, rfl, rfl, hjn, hkj, hdj, H⟩ := hrel
    by_cases hj : j < n
    · obtain ⟨t, ht⟩ : ∃ t, ts[j]? = some t := ⟨_, List.getElem?_eq_getElem (by rw [HL.out]; exact hj)⟩
      obtain ⟨c0, c1⟩ := HC.out j t ht
      have HD := Lib.hid (show ts.drop j = t :: ts.drop (j + 1) by
        obtain ⟨h1, h2⟩ := List.getElem?_eq_some_iff.1 ht
        rw [List.drop_eq_getElem_cons h1, h2])
      have HT := Lib.hid ht
      have hw1 : IntKind.i64.wrap ((d : Int) + 1) = ((d + 1 : Nat) : Int) := by rw [IntKind.wrap_i64]; omega
      clear ht
      have hms : n - (j + 1) < n - j := by omega
      have step : ∀ d' : Nat, (1 ≤ d' ∨ (d' = 0 ∧ j + 1 = k)) → closeR d (t :: ts.drop (j + 1)) = (closeR d' (ts.drop (j + 1))).map (· + 1) → Hid ((1 ≤ d' ∨ (d' = 0 ∧ j + 1 = k)) ∧ closeR 0 (ts.drop k) = (closeR d' (ts.drop (j + 1))).map (· + (j + 1 - k))) := fun d' h1 h2 => Lib.hid ⟨h1, by
        rw [H.out.2, HD.out, h2, Option.map_map]
        congr 1
        funext x
        show x + 1 + (j - k) = x + (j + 1 - k)
        omega⟩
      have HSt := Lib.hid step
      clear step
      by_cases hk1 : t.kind = 1
      · by_cases h40 : t.r = 40
        · have HO := Lib.hid (show isOpen t = true by unfold isOpen; rw [hk1, h40]; rfl)
          rw [hk1] at c0
          rw [h40] at c1
          clear hk1 h40
          go_wp2
          exact ⟨⟨d + 1, j + 1, rfl, rfl, trivial, by omega, by omega, by omega, HSt.out _ (.inl (by omega)) (by rw [closeR, if_pos HO.out])⟩, by show n - ((j : Int) + 1).toNat < n - (j : Int).toNat; omega⟩
        · have HO := Lib.hid (show isOpen t = false from open_no (.inr h40))
          have hd1 : 1 ≤ d := by
            rcases H.out.1 with h | ⟨_, h⟩
            · exact h
            · subst h
              have := HK.out.1
              rw [HT.out] at this
              injection this with this
              rw [this, HK.out.2] at HO
              cases HO.out
          have e40 : (t.r == 40) = false := by simpa using h40
          by_cases h41 : t.r = 41
          · have HS := Lib.hid (show isShut t = true by unfold isShut; rw [hk1, h41]; rfl)
            have hw2 : IntKind.i64.wrap ((d : Int) - 1) = ((d - 1 : Nat) : Int) := by rw [IntKind.wrap_i64]; omega
            rw [hk1] at c0
            rw [h41] at c1
            clear hk1 h40 h41 e40
            by_cases hd : d = 1
            · subst hd
              go_wp2
              go_ret
              have e : closeR 0 (ts.drop k) = some (j - k) := by
                rw [H.out.2, HD.out, closeR, if_neg (by rw [HO.out]; decide), if_pos HS.out, if_pos rfl]
                show some (0 + (j - k)) = _
                rw [Nat.zero_add]
              rw [e]
              refine ⟨?_, rfl⟩
              show _ = Ending.returned (.int .i64 ((k : Int) + ((j - k : Nat) : Int)))
              rw [show (k : Int) + ((j - k : Nat) : Int) = (j : Int) by omega]
              rfl
            · have n1 : ((d : Int) - 1 == 0) = false := by simp; omega
              go_wp2
              exact ⟨⟨d - 1, j + 1, by rw [show ((d - 1 : Nat) : Int) = (d : Int) - 1 by omega], rfl, trivial, by omega, by omega, by omega, HSt.out _ (.inl (by omega)) (by rw [closeR, if_neg (by rw [HO.out]; decide), if_pos HS.out, if_neg hd])⟩, by show n - ((j : Int) + 1).toNat < n - (j : Int).toNat; omega⟩
          · have HS := Lib.hid (show isShut t = false from shut_no (.inr h41))
            have e41 : (t.r == 41) = false := by simpa using h41
            rw [hk1] at c0
            clear hk1 h40 h41
            go_wp2
            exact ⟨⟨d, j + 1, rfl, rfl, trivial, by omega, by omega, by omega, HSt.out _ (.inl hd1) (by rw [closeR, if_neg (by rw [HO.out]; decide), if_neg (by rw [HS.out]; decide)])⟩, by show n - ((j : Int) + 1).toNat < n - (j : Int).toNat; omega⟩
      · have HO := Lib.hid (show isOpen t = false from open_no (.inl hk1))
        have HS := Lib.hid (show isShut t = false from shut_no (.inl hk1))
        have hd1 : 1 ≤ d := by
          rcases H.out.1 with h | ⟨_, h⟩
          · exact h
          · subst h
            have := HK.out.1
            rw [HT.out] at this
            injection this with this
            rw [this, HK.out.2] at HO
            cases HO.out
        have e1 : (t.kind == 1) = false := by simpa using hk1
        clear hk1
        go_wp2
        exact ⟨⟨d, j + 1, rfl, rfl, trivial, by omega, by omega, by omega, HSt.out _ (.inl hd1) (by rw [closeR, if_neg (by rw [HO.out]; decide), if_neg (by rw [HS.out]; decide)])⟩, by show n - ((j : Int) + 1).toNat < n - (j : Int).toNat; omega⟩
    · have hjn' : j = n := by omega
      subst hjn'
      go_wp2
      go_ret
      have e : closeR 0 (ts.drop k) = none := by
        rw [H.out.2, List.drop_eq_nil_of_le (by rw [HL.out]; exact Nat.le_refl _), closeR]
        rfl
      rw [e]
      exact ⟨rfl, rfl⟩
end Go.Proofs.Ytjpabeeokgfloaa
/- The document's trees while they grow: two rows of nodes that the call owns; one. -/
namespace Go.Proofs.Ytjpabeeokgfloaa
open Go Go.RowKit
set_option linter.unusedVariables false
set_option maxRecDepth 20000

/-- append in a region that draws, by what its run gives in that world. -/
theorem step_append_ex {P : Program} {ops : Array Oper} {o : Oper} {a : Act} {w : World} {K : Act → World → Prop} {Q : Exit → Act → World → Prop} {E : Prop} (hgd : o.guard = none) (s x : Operand) (t : TypeId)
    (ho : o.op = .call { callee := .builtin .append, args := #[s, x], argTypes := #[t, t] }) (hty : o.type = t)
    (v y : Value) (hs : a.eval s = v) (hx : a.eval x = y) (R : Value → World → Prop) (hrun : ∃ v' w', (Builtin.append_ #[t, t] t #[v, y]).run P w = .ok v' w' ∧ R v' w')
    (hK : ∀ v' w', R v' w' → K (a.put o.dst v') w') : if Region.wanted o (yielded ops a.tmps) = true then Oper.wp P o a w K Q else E := by
  obtain ⟨v', w', hrun, hR⟩ := hrun
  have hw : Region.wanted o (yielded ops a.tmps) = true := by simp [Region.wanted, hgd]
  rw [if_pos hw]
  subst hty
  unfold Oper.wp
  simp [execOp, ho, resolve, invoke, builtin, hs, hx, hrun, Result.andThen]
  exact hK _ _ hR

/-- Where nodes may lie: among the tokens' sets, or made since; in neither row's own block. -/
def FT (B0 : Nat → Prop) (B : Nat) (V1 V2 : Value) (b : Nat) : Prop := (B0 b ∨ B ≤ b) ∧ V1.ownBlock ≠ some b ∧ V2.ownBlock ≠ some b
/-- Alternatives and pieces so far. -/
def TreeSt (B0 : Nat → Prop) (B : Nat) (w : World) (P1 : Option Addr) (q1 c1 : Nat) (P2 : Option Addr) (q2 c2 : Nat) (xs ys : List NV) (a p : Wood) : Prop :=
  w.ownsRow B 28 5 (.slice P1 q1 c1) q1 (cellsN xs) ∧ w.ownsRow B 28 5 (.slice P2 q2 c2) q2 (cellsN ys) ∧
  NodesIn (FT B0 B (.slice P1 q1 c1) (.slice P2 q2 c2)) w xs a ∧ NodesIn (FT B0 B (.slice P1 q1 c1) (.slice P2 q2 c2)) w ys p ∧
  ∀ b, (Value.slice P1 q1 c1).ownBlock = some b → (Value.slice P2 q2 c2).ownBlock ≠ some b

/-- A node behind those of a row, whatever world it is. -/
theorem push_at {w : World} {B : Nat} {P : Option Addr} {q pc : Nat} {xs : List NV} {x : NV} (h : w.ownsRow B 28 5 (.slice P q pc) q (cellsN xs)) {d : Nat} (hd : w.heap[d]? = some (.cells x.cells.toArray 28 (0, 0))) (hq : q ≤ 100000) (hb : B ≤ w.heap.size) :
    ∃ P' pc' w', (Builtin.append_ #[26, 26] 26 #[.slice P q pc, .slice (some ⟨d, 0, none⟩) 1 1]).run Try.prog w = .ok (.slice P' (q + 1) pc') w' ∧
      w'.ownsRow B 28 5 (.slice P' (q + 1) pc') (q + 1) (cellsN (xs ++ [x])) ∧ Below B w w' ∧ w.heap.size ≤ w'.heap.size ∧
      ∀ b, b < w.heap.size → (Value.slice P q pc).ownBlock ≠ some b → (Value.slice P' (q + 1) pc').ownBlock ≠ some b ∧ w'.heap[b]? = w.heap[b]? := by
  obtain ⟨i0, hi, hz0, hz1, hz2⟩ := info_parts info_node
  have hcells : ∀ j u, x.cells[j]? = some u → w.cell? ((⟨d, 0, none⟩ : Addr).add j) = some u := by
    intro j u hu
    rw [show (⟨d, 0, none⟩ : Addr).add j = ⟨d, 0 + j, none⟩ by unfold Addr.add; split <;> simp_all, cell_of_row w d (0 + j) _ 28 (0, 0) hd, Nat.zero_add]
    simpa using hu
  obtain ⟨V', w', h1, h2, h3, _, h4⟩ := run_append_own_at (P := Try.prog) w B 26 26 28 i0 _ 5 72 Try.underlying26 hi hz0 hz1 hz2 rfl (by decide) _ q _ h ⟨d, 0, none⟩ 1 1 x.cells rfl hcells x.cells_one (by unfold maxLen; omega) (by omega) hb
  have hb' : Below B w w' := (Below.refl _ _).grown h3 hb (by intro k hk; exact (row_lt h hk).1)
  have key : ∀ b, b < w.heap.size → (Value.slice P q pc).ownBlock ≠ some b → V'.ownBlock ≠ some b ∧ w'.heap[b]? = w.heap[b]? := by
    intro b hlt hne
    refine ⟨fun e => ?_, h3.block b hlt fun e => hne e.symm⟩
    rcases h4 with h4 | h4
    · exact hne (h4 ▸ e)
    · rw [h4] at e
      injection e with e
      omega
  have e : cellsN xs ++ x.cells = cellsN (xs ++ [x]) := by rw [cellsN_append]; simp [cellsN]
  rw [e] at h2
  rcases h2.2 with ⟨rfl, h0⟩ | ⟨b, cap, cu, rfl, _⟩
  · omega
  · exact ⟨_, _, w', h1, h2, hb', h3.size, key⟩
section
variable {B0 : Nat → Prop} {B : Nat} {w X : World} {P1 P2 : Option Addr} {q1 c1 q2 c2 : Nat} {xs ys : List NV} {a p n : Wood} {x : NV}
theorem TreeSt.below (h : TreeSt B0 B w P1 q1 c1 P2 q2 c2 xs ys a p) (hb : Below w.heap.size w X) : TreeSt B0 B X P1 q1 c1 P2 q2 c2 xs ys a p :=
  ⟨row_keep h.1 fun k hk _ => hb.block k hk, row_keep h.2.1 fun k hk _ => hb.block k hk, h.2.2.1.move hb.size fun b hF hlt => ⟨hF, hb.block b hlt⟩, h.2.2.2.1.move hb.size fun b hF hlt => ⟨hF, hb.block b hlt⟩, h.2.2.2.2⟩
theorem TreeSt.start (B0 : Nat → Prop) (B : Nat) (w : World) : TreeSt B0 B w none 0 0 none 0 0 [] [] .nil .nil := ⟨nilN _ _, nilN _ _, trivial, trivial, fun b h => by cases h⟩
theorem TreeSt.bounds (h : TreeSt B0 B w P1 q1 c1 P2 q2 c2 xs ys a p) : xs.length = q1 ∧ ys.length = q2 ∧ a.len = q1 ∧ p.len = q2 := by
  have h1 := h.1.1
  have h2 := h.2.1.1
  rw [cellsN_length] at h1 h2
  have h3 := h.2.2.1.len
  have h4 := h.2.2.2.1.len
  omega
/-- A piece. -/
theorem TreeSt.push2 (h : TreeSt B0 B w P1 q1 c1 P2 q2 c2 xs ys a p) {d : Nat} (hd : w.heap[d]? = some (.cells x.cells.toArray 28 (0, 0))) (hx : NodesIn (FT B0 B (.slice P1 q1 c1) (.slice P2 q2 c2)) w [x] n) (hq : q2 ≤ 100000) (hB : B ≤ w.heap.size) :
    ∃ P' pc' w', (Builtin.append_ #[26, 26] 26 #[.slice P2 q2 c2, .slice (some ⟨d, 0, none⟩) 1 1]).run Try.prog w = .ok (.slice P' (q2 + 1) pc') w' ∧
      TreeSt B0 B w' P1 q1 c1 P' (q2 + 1) pc' xs (ys ++ [x]) a (p.app n) ∧ Below B w w' := by
  obtain ⟨P', pc', w', h1, h2, h3, hs, h4⟩ := push_at h.2.1 hd hq hB
  have key : ∀ b, FT B0 B (.slice P1 q1 c1) (.slice P2 q2 c2) b → b < w.heap.size → FT B0 B (.slice P1 q1 c1) (.slice P' (q2 + 1) pc') b ∧ w'.heap[b]? = w.heap[b]? := fun b hF hlt => by
    obtain ⟨k1, k2⟩ := h4 b hlt hF.2.2
    exact ⟨⟨hF.1, hF.2.1, k1⟩, k2⟩
  refine ⟨P', pc', w', h1, ⟨row_keep h.1 fun k hk hv => (h4 k hk (h.2.2.2.2 k hv)).2, h2, h.2.2.1.move hs key, (h.2.2.2.1.move hs key).app (hx.move hs key), fun b hv => ?_⟩, h3⟩
  exact (h4 b (row_lt h.1 hv).2 (h.2.2.2.2 b hv)).1
/-- An alternative. -/
theorem TreeSt.push1 (h : TreeSt B0 B w P1 q1 c1 P2 q2 c2 xs ys a p) {d : Nat} (hd : w.heap[d]? = some (.cells x.cells.toArray 28 (0, 0))) (hx : NodesIn (fun b => (B0 b ∨ B ≤ b) ∧ (Value.slice P1 q1 c1).ownBlock ≠ some b) w [x] n) (hq : q1 ≤ 100000) (hB : B ≤ w.heap.size) :
    ∃ P' pc' w', (Builtin.append_ #[26, 26] 26 #[.slice P1 q1 c1, .slice (some ⟨d, 0, none⟩) 1 1]).run Try.prog w = .ok (.slice P' (q1 + 1) pc') w' ∧
      TreeSt B0 B w' P' (q1 + 1) pc' none 0 0 (xs ++ [x]) [] (a.app n) .nil ∧ Below B w w' := by
  obtain ⟨P', pc', w', h1, h2, h3, hs, h4⟩ := push_at h.1 hd hq hB
  have key : ∀ b, ((B0 b ∨ B ≤ b) ∧ (Value.slice P1 q1 c1).ownBlock ≠ some b) → b < w.heap.size → FT B0 B (.slice P' (q1 + 1) pc') (.slice none 0 0) b ∧ w'.heap[b]? = w.heap[b]? := fun b hF hlt => by
    obtain ⟨k1, k2⟩ := h4 b hlt hF.2
    exact ⟨⟨hF.1, k1, fun e => by cases e⟩, k2⟩
  exact ⟨P', pc', w', h1, ⟨h2, nilN _ _, (h.2.2.1.move hs fun b hF hlt => key b ⟨hF.1, hF.2.1⟩ hlt).app (hx.move hs key), trivial, fun b hv e => by cases e⟩, h3⟩
end

/-! ### one -/
theorem cell1_res {fn : Func} {p : Tmp} {ty : TypeId} (h : fn.results = #[.cell p ty]) (tmps : Array Value) (P : Program) (w : World) :
    (results fn tmps).run P w = ((asAddr (tmps.getD p undef)).run P w).andThen fun a w₁ => (loadVar ty a).run P w₁ := by
  simp only [results, h]
  simp [Sem.run_bind, Result.andThen]
set_option maxHeartbeats 1000000 in
theorem rone_any (op : Int) {w : World} {B : Nat} {P : Option Addr} {q pc : Nat} {xs : List NV} {T : Wood} {F F' : Nat → Prop} (h : w.ownsRow B 28 5 (.slice P q pc) q (cellsN xs)) (hT : NodesIn F w xs T) (hF : ∀ b, F b → F' b) (hV : ∀ b, (Value.slice P q pc).ownBlock = some b → F' b) (hq : q ≤ 100000) :
    Calls Try.prog 23 #[.int .i64 op, .slice P q pc] w fun e w' => ∃ v, e = .returned v ∧ NodeIn F' w' v (oneN op T) ∧ Below w.heap.size w w' := by
  have hl := hT.len
  have hq1 : xs.length = q := by have := h.1; rw [cellsN_length] at this; omega
  rcases Nat.lt_trichotomy q 1 with h0 | h0 | h0
  · have h0 : q = 0 := by omega
    subst h0
    have hx : xs = [] := List.eq_nil_of_length_eq_zero hq1
    subst hx
    have hTn : T = .nil := by
      match T, hT with
      | .nil, _ => rfl
    subst hTn
    clear h hT hl hq1
    go_enter Try.func23, Try.ntmps23
    go_wp2
    refine bodyPost_ret (v := .agg #[.int .i64 0, .slice none 0 0, .int .i64 0, .int .i64 0, .slice none 0 0]) ?_ rfl ⟨_, rfl, node_leaf _ _ 0, by go_grown⟩
    rw [cell1_res rfl]; go_simp
  · subst h0
    obtain ⟨b, rfl, hB, hb, -, -, -, hc⟩ := row_cellsN h (by omega)
    rcases xs with _ | ⟨x, _ | ⟨y, xs⟩⟩
    · simp at hq1
    · have HC := fun i v hv => hc 0 x rfl i v hv
      have c0 := HC 0 _ rfl
      have c1 := HC 1 _ rfl
      have c2 := HC 2 _ rfl
      have c3 := HC 3 _ rfl
      have c4 := HC 4 _ rfl
      have HN := Lib.hid (hT.move (F' := F') (Nat.le_refl _) (fun b hF' _ => ⟨hF b hF', rfl⟩)).one
      have hon : oneN op T = T := oneN_one (by rw [hl]; rfl)
      rw [hon]
      simp only [Nat.zero_mul, Nat.zero_add, Nat.add_zero] at c0 c1 c2 c3 c4
      have up : ∀ (j : Nat) (v : Value) (o : Obj), w.cell? ⟨b, j, none⟩ = some v → (w.alloc o).cell? ⟨b, j, none⟩ = some v := fun j v o h => (((Below.refl w.heap.size w).alloc (Nat.le_refl _) o).cell (p := ⟨b, j, none⟩) hb).trans h
      have d0 := fun o => up _ _ o c0
      have d1 := fun o => up _ _ o c1
      have d2 := fun o => up _ _ o c2
      have d3 := fun o => up _ _ o c3
      have d4 := fun o => up _ _ o c4
      clear h hT hl hq1 hc HC hon up hF hV
      go_enter Try.func23, Try.ntmps23
      go_wp2
      refine bodyPost_ret (v := x.val) ?_ rfl ⟨_, rfl, HN.out.below (by go_grown), by go_grown⟩
      rw [cell1_res rfl]; go_simp
      rfl
    · simp at hq1
  · obtain ⟨b, rfl, hB, hb, -, -, -, hc⟩ := row_cellsN h (by omega)
    have hon : oneN op T = .cons op [] 0 0 T .nil := oneN_more (by omega)
    have HN := Lib.hid (show NodeIn F' w (.agg #[.int .i64 op, .slice none 0 0, .int .i64 0, .int .i64 0, .slice (some ⟨b, 0, none⟩) q pc]) (oneN op T) by
      rw [hon]
      exact ⟨op, [], 0, 0, T, none, some ⟨b, 0, none⟩, 0, 0, q, pc, rfl, rfl, rowF_nil _ w, by omega, fun _ => ⟨b, 0, rfl, hV b rfl, hb, ((hT.move (F' := F') (Nat.le_refl _) (fun b hF' _ => ⟨hF b hF', rfl⟩)).wood hc)⟩⟩)
    have n0 : ((q : Int) == 0) = false := by simp; omega
    have n1 : ((q : Int) == 1) = false := by simp; omega
    clear h hT hl hq1 hc hon hF hV
    go_enter Try.func23, Try.ntmps23
    go_wp2
    refine bodyPost_ret (v := .agg #[.int .i64 op, .slice none 0 0, .int .i64 0, .int .i64 0, .slice (some ⟨b, 0, none⟩) q pc]) ?_ rfl ⟨_, rfl, HN.out.below (by go_grown), by go_grown⟩
    rw [cell1_res rfl]; go_simp
end Go.Proofs.Ytjpabeeokgfloaa
/- The document's trees: a count put about the last piece. -/
namespace Go.Proofs.Ytjpabeeokgfloaa
open Go Go.RowKit
set_option linter.unusedVariables false
set_option maxRecDepth 20000

theorem NodesIn.last {F : Nat → Prop} {w : World} {y : NV} : ∀ {zs : List NV} {T : Wood}, NodesIn F w (zs ++ [y]) T → ∃ T0 n0, T = T0.app n0 ∧ NodesIn F w zs T0 ∧ NodesIn F w [y] n0
  | [], T, h => ⟨.nil, T, rfl, trivial, h⟩
  | x :: zs, .cons op s mn mx k t, ⟨h1, h2, h3, h4⟩ => by
    obtain ⟨T0, n0, e, k1, k2⟩ := NodesIn.last (zs := zs) h4
    exact ⟨.cons op s mn mx k T0, n0, by rw [e]; rfl, ⟨h1, h2, h3, k1⟩, k2⟩
  | x :: zs, .nil, h => h.elim
def repN (c : Nat) (mn mx : Int) : NV := ⟨6, none, 0, 0, mn, mx, some ⟨c, 0, none⟩, 1, 1⟩
/-- What the copy of all pieces but the last one is. -/
def TakeR (w0 : World) (z : Nat) (zs : List NV) (g : Nat) (X : World) (v' : Value) (w' : World) : Prop :=
  ∃ P' pc', v' = .slice P' z pc' ∧ w'.ownsRow w0.heap.size 28 5 (.slice P' z pc') z (cellsN zs) ∧ Below w0.heap.size w0 w' ∧ X.heap.size ≤ w'.heap.size ∧ ∀ b, b < X.heap.size → b ≠ g → w'.heap[b]? = X.heap[b]? ∧ (Value.slice P' z pc').ownBlock ≠ some b
theorem take_ex {w0 X : World} {z q2 c2 b2 g : Nat} {zs : List NV} (hz : zs.length = z) (hzb : z ≤ 100000) (hb2 : b2 < w0.heap.size) (hc : ∀ j x, zs[j]? = some x → ∀ i v, x.cells[i]? = some v → w0.cell? ⟨b2, 0 + j * 5 + i, none⟩ = some v)
    (hX : Below w0.heap.size w0 X) (hg : X.heap[g]? = some (.cells #[] 28 (0, 0))) (hg0 : w0.heap.size ≤ g) :
    ∃ v' w', (Builtin.append_ #[26, 26] 26 #[.slice (some ⟨g, 0, none⟩) 0 0, .slice (some ⟨b2, 0, none⟩) z c2]).run Try.prog X = .ok v' w' ∧ TakeR w0 z zs g X v' w' := by
  obtain ⟨i0, hi, hz0, hz1, hz2⟩ := info_parts info_node
  have hgl : g < X.heap.size := (Array.getElem?_eq_some_iff.1 hg).1
  have hown : X.ownsRow w0.heap.size 28 5 (.slice (some ⟨g, 0, none⟩) 0 0) 0 (cellsN []) := ⟨rfl, .inr ⟨g, 0, #[], rfl, hg0, hg, Nat.le_refl _, by unfold maxLen; omega, rfl, rfl⟩⟩
  have hcells : ∀ j u, (cellsN zs)[j]? = some u → X.cell? ((⟨b2, 0, none⟩ : Addr).add j) = some u := by
    intro j u hu
    have hj : j < zs.length * 5 := by have := (List.getElem?_eq_some_iff.1 hu).1; rwa [cellsN_length] at this
    obtain ⟨x, hx⟩ : ∃ x, zs[j / 5]? = some x := ⟨_, List.getElem?_eq_getElem (by omega)⟩
    have hx5 : j % 5 < x.cells.length := by show j % 5 < 5; omega
    have h1 := cellsN_at zs (j / 5) x hx (j % 5) x.cells[j % 5] (List.getElem?_eq_getElem hx5)
    rw [show j / 5 * 5 + j % 5 = j by omega, hu] at h1
    injection h1 with h1
    have h2 := hc (j / 5) x hx (j % 5) x.cells[j % 5] (List.getElem?_eq_getElem hx5)
    rw [show (⟨b2, 0, none⟩ : Addr).add j = ⟨b2, 0 + (j / 5) * 5 + j % 5, none⟩ by rw [show 0 + j / 5 * 5 + j % 5 = j by omega]; unfold Addr.add; split <;> simp_all, hX.cell (p := ⟨b2, 0 + (j / 5) * 5 + j % 5, none⟩) hb2, h2, h1]
  obtain ⟨V', w', h1, h2, h3, _, h4⟩ := run_append_own_at (P := Try.prog) X w0.heap.size 26 26 28 i0 _ 5 72 Try.underlying26 hi hz0 hz1 hz2 rfl (by decide) _ 0 _ hown ⟨b2, 0, none⟩ z c2 (cellsN zs) (by rw [cellsN_length, hz]) hcells
    (by intro u hu; obtain ⟨p, _, hp⟩ := List.mem_flatMap.1 hu; exact p.cells_one u hp) (by unfold maxLen; omega) (by omega) hX.size
  have hb' : Below w0.heap.size w0 w' := hX.grown h3 hX.size (by intro k hk; exact (row_lt hown hk).1)
  rw [Nat.zero_add] at h2
  have key : ∀ b, b < X.heap.size → b ≠ g → w'.heap[b]? = X.heap[b]? ∧ V'.ownBlock ≠ some b := fun b hlt hne => by
    refine ⟨h3.block b hlt fun e => ?_, fun e => ?_⟩
    · injection e with e; exact hne e
    · rcases h4 with h4 | h4
      · rw [h4] at e; injection e with e; exact hne e.symm
      · rw [h4] at e; injection e with e; omega
  rcases h2.2 with ⟨rfl, h0⟩ | ⟨b, cap, cu, rfl, _⟩
  · subst h0
    exact ⟨_, w', h1, none, 0, rfl, h2, hb', h3.size, key⟩
  · exact ⟨_, w', h1, _, _, rfl, h2, hb', h3.size, key⟩

/-- What is behind a count. -/
def RepR (B0 : Nat → Prop) (B : Nat) (wr w0 : World) (P1 : Option Addr) (q1 c1 z : Nat) (xs zs : List NV) (a p' : Wood) (v' : Value) (w' : World) : Prop :=
  ∃ P' pc' c mn mx, v' = .slice P' (z + 1) pc' ∧ TreeSt B0 B w' P1 q1 c1 P' (z + 1) pc' xs (zs ++ [repN c mn mx]) a p' ∧ Below B wr w' ∧ Below w0.heap.size w0 w'
theorem rep_ex {B0 : Nat → Prop} {B : Nat} {wr w0 X : World} {P1 P2 P' : Option Addr} {q1 c1 q2 c2 z pc' c d : Nat} {xs zs : List NV} {y : NV} {a T0 n0 : Wood} {mn mx : Int} (h : TreeSt B0 B wr P1 q1 c1 P2 q2 c2 xs (zs ++ [y]) a (T0.app n0)) (h0 : NodesIn (FT B0 B (.slice P1 q1 c1) (.slice P2 q2 c2)) wr zs T0) (hy : NodesIn (FT B0 B (.slice P1 q1 c1) (.slice P2 q2 c2)) wr [y] n0)
    (hB : B ≤ wr.heap.size) (hw0 : Below wr.heap.size wr w0) (hX : Below w0.heap.size w0 X) (hown : X.ownsRow w0.heap.size 28 5 (.slice P' z pc') z (cellsN zs)) (hz : z ≤ 100000) (hc : X.heap[c]? = some (.cells y.cells.toArray 28 (0, 0))) (hc0 : w0.heap.size ≤ c) (hcn : (Value.slice P' z pc').ownBlock ≠ some c) (hd : X.heap[d]? = some (.cells (repN c mn mx).cells.toArray 28 (0, 0))) :
    ∃ v' w', (Builtin.append_ #[26, 26] 26 #[.slice P' z pc', .slice (some ⟨d, 0, none⟩) 1 1]).run Try.prog X = .ok v' w' ∧ RepR B0 B wr w0 P1 q1 c1 z xs zs a (T0.app (.cons 6 [] mn mx n0 .nil)) v' w' := by
  obtain ⟨P'', pc'', w', h1, h2, h3, hs, key⟩ := push_at hown hd hz hX.size
  have hcl : c < X.heap.size := (Array.getElem?_eq_some_iff.1 hc).1
  have hsw := hw0.size
  have old : ∀ b, b < wr.heap.size → (Value.slice P'' (z + 1) pc'').ownBlock ≠ some b ∧ w'.heap[b]? = wr.heap[b]? := fun b hlt => by
    obtain ⟨k1, k2⟩ := key b (by have := hX.size; omega) (fun e => by have := (row_lt hown e).1; omega)
    exact ⟨k1, k2.trans ((hX.block b (by omega)).trans (hw0.block b hlt))⟩
  have hsz : wr.heap.size ≤ w'.heap.size := by have := hX.size; omega
  have mv : ∀ b, FT B0 B (.slice P1 q1 c1) (.slice P2 q2 c2) b → b < wr.heap.size → FT B0 B (.slice P1 q1 c1) (.slice P'' (z + 1) pc'') b ∧ w'.heap[b]? = wr.heap[b]? := fun b hF hlt => ⟨⟨hF.1, hF.2.1, (old b hlt).1⟩, (old b hlt).2⟩
  obtain ⟨kc1, kc2⟩ := key c hcl hcn
  have hcw : w'.heap[c]? = some (.cells y.cells.toArray 28 (0, 0)) := kc2.trans hc
  have hn : NodesIn (FT B0 B (.slice P1 q1 c1) (.slice P'' (z + 1) pc'')) w' [repN c mn mx] (.cons 6 [] mn mx n0 .nil) := by
    refine ⟨⟨rfl, rfl, rfl⟩, rowF_nil _ _, ⟨hy.len, fun _ => ⟨c, 0, rfl, ⟨.inr (by omega), (fun e => by have := (row_lt h.1 e).2; omega), kc1⟩, by omega, (hy.move hsz mv).wood fun j x hx i v hv => ?_⟩⟩, trivial⟩
    rcases j with _ | j
    · simp only [List.getElem?_cons_zero, Option.some.injEq] at hx
      subst hx
      rw [Nat.zero_mul, Nat.add_zero, Nat.zero_add, cell_of_row _ c i _ _ (0, 0) hcw]
      simpa using hv
    · simp at hx
  refine ⟨_, w', h1, P'', pc'', c, mn, mx, rfl, ⟨row_keep h.1 fun k hk hv => (old k hk).2, row_base h2 fun j hj => by have := (row_lt h2 hj).1; omega, h.2.2.1.move hsz mv, (h0.move hsz mv).app hn, fun b hv => (old b (row_lt h.1 hv).2).1⟩, ?_⟩
  exact ⟨((hw0.mono hB).trans (hX.mono (by omega))).trans (h3.mono (by omega)), hX.trans h3⟩
theorem rep_at {B0 : Nat → Prop} {B : Nat} {wr w0 X : World} {P1 P2 P' : Option Addr} {q1 c1 q2 c2 z pc' d : Nat} {xs zs : List NV} {y : NV} {a T0 n0 : Wood} {mn mx : Int} (h : TreeSt B0 B wr P1 q1 c1 P2 q2 c2 xs (zs ++ [y]) a (T0.app n0)) (h0 : NodesIn (FT B0 B (.slice P1 q1 c1) (.slice P2 q2 c2)) wr zs T0) (hy : NodesIn (FT B0 B (.slice P1 q1 c1) (.slice P2 q2 c2)) wr [y] n0)
    (hB : B ≤ wr.heap.size) (hw0 : Below wr.heap.size wr w0) (hX : Below w0.heap.size w0 X) (hown : X.ownsRow w0.heap.size 28 5 (.slice P' z pc') z (cellsN zs)) (hz : z ≤ 100000)
    (hd : ∃ c, X.heap[d]? = some (.cells #[.int .i64 6, .slice none 0 0, .int .i64 mn, .int .i64 mx, .slice (some ⟨c, 0, none⟩) 1 1] 28 (0, 0)) ∧ X.heap[c]? = some (.cells #[.int .i64 y.op, .slice y.A y.ns y.cs, .int .i64 y.mn, .int .i64 y.mx, .slice y.D y.nk y.ck] 28 (0, 0)) ∧ w0.heap.size ≤ c ∧ (Value.slice P' z pc').ownBlock ≠ some c) :
    ∃ v' w', (Builtin.append_ #[26, 26] 26 #[.slice P' z pc', .slice (some ⟨d, 0, none⟩) 1 1]).run Try.prog X = .ok v' w' ∧ RepR B0 B wr w0 P1 q1 c1 z xs zs a (T0.app (.cons 6 [] mn mx n0 .nil)) v' w' := by
  obtain ⟨c, h1, h2, h3, h4⟩ := hd
  exact rep_ex h h0 hy hB hw0 hX hown hz h2 h3 h4 h1
/-- Where a block lies. -/
theorem hp_new {w : World} {cs : Array Value} {ty : TypeId} {k : Nat} (h : k = w.heap.size) : (w.alloc (.cells cs ty)).heap[k]? = some (.cells cs ty (0, 0)) := by subst h; exact heap_alloc_new w _
theorem hp_old {w : World} {cs : Array Value} {ty : TypeId} {fr : Nat × Nat} {k : Nat} {o : Obj} (h : w.heap[k]? = some (.cells cs ty fr)) : (w.alloc o).heap[k]? = some (.cells cs ty fr) :=
  (Below.heap_alloc w o k (Array.getElem?_eq_some_iff.1 h).1).trans h
theorem hp_drew {w : World} {cs : Array Value} {ty : TypeId} {fr : Nat × Nat} {k : Nat} (h : w.heap[k]? = some (.cells cs ty fr)) : w.drew.heap[k]? = some (.cells cs ty fr) := h
theorem ownN_old {w : World} {B q n : Nat} {ty : TypeId} {v : Value} {l : List Value} {o : Obj} (h : w.ownsRow B ty q v n l) : (w.alloc o).ownsRow B ty q v n l := row_keep h fun k hk _ => Below.heap_alloc w o k hk
theorem ownN_drew {w : World} {B q n : Nat} {ty : TypeId} {v : Value} {l : List Value} (h : w.ownsRow B ty q v n l) : w.drew.ownsRow B ty q v n l := h
end Go.Proofs.Ytjpabeeokgfloaa
