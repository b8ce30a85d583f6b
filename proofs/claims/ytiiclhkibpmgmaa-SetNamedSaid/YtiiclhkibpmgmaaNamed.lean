/- The program's Named. -/
import Derived.Test.YtiiclhkibpmgmaaOrAnd
namespace Go.Proofs.Ytiiclhkibpmgmaa
open Go Go.RowKit
set_option linter.unusedVariables false
set_option linter.unusedSimpArgs false

/-- A letter's ranges. -/
def letterL (c : Int) : List (Int × Int) := if c = 119 then [(65, 90), (97, 122), (95, 95)] ++ [(48, 57)] else if c = 100 then [(48, 57)] else [(32, 32), (9, 13)]
theorem rowG_own {w : World} {B : Nat} {P : Option Addr} {q pc : Nat} {s : List (Int × Int)} (h : w.ownsRow B 39 2 (.slice P q pc) q (cellsG s)) : RowG w P q s := by
  obtain ⟨A', c', e, h, _⟩ := rowG_of_own h (by have := h.1; rw [cellsG_length] at this; omega)
  injection e with e1 _ _
  rw [e1]
  exact h

set_option maxHeartbeats 2000000 in
theorem named_small (c : Int) (hc : c = 119 ∨ c = 100 ∨ c = 115) (W : World) :
    Calls Try.prog 19 #[.int .u8 c] W fun e w' => ∃ V t, e = .returned (.tuple #[V, .bool true]) ∧ OutG W w' V t ∧ Canon t ∧ ∀ r, hasL t r = hasL (letterL c) r := by
  rcases hc with rfl | rfl | rfl
  · obtain ⟨P1, pc1, w1, ha1, ho1, hb1⟩ := push_rngs (nilG W W.heap.size) [(65, 90), (97, 122), (95, 95)] (by simp) (by simp) (Below.refl _ _)
    simp only [List.length_cons, List.length_nil, Nat.zero_add, Nat.reduceAdd, List.nil_append] at ha1 ho1
    obtain ⟨P2, pc2, w2, ha2, ho2, hb2⟩ := push_rngs ho1 [(48, 57)] (by simp) (by simp) hb1
    simp only [List.length_cons, List.length_nil, Nat.zero_add, Nat.reduceAdd, List.nil_append] at ha2 ho2
    have HF := Lib.hid (of_any _ _ _ pc2 _ (rowG_own ho2) (by simp))
    have HA1 := Lib.hid ha1
    have HA2 := Lib.hid ha2
    have HB := Lib.hid hb2
    clear ha1 ho1 hb1 ha2 ho2 hb2
    go_enter Try.func19, Try.ntmps19
    go_wp2_with (first
      | (at_builtin; refine wpList_append_run rfl _ _ 22 rfl rfl _ _ _ _ rfl rfl HA1.out ?_)
      | (at_builtin; refine wpList_append_run rfl _ _ 22 rfl rfl _ _ _ _ rfl rfl HA2.out ?_)
      | (go_at_call 9; refine HF.out.mono ?_; rintro e w3 ⟨V, t, rfl, ho, hcan, hmem⟩; have HO := Lib.hid (And.intro ho (And.intro hcan hmem)); clear ho hcan hmem))
    go_ret2
    exact ⟨V, t, rfl, ⟨row_base HO.out.1.1 (fun j hj => Nat.le_trans HB.out.size (row_lt HO.out.1.1 hj).1), then_ HB.out HO.out.1.2⟩, HO.out.2.1, fun r => HO.out.2.2 r⟩
  · obtain ⟨P1, pc1, w1, ha1, ho1, hb1⟩ := push_rngs (nilG W W.heap.size) [(48, 57)] (by simp) (by simp) (Below.refl _ _)
    simp only [List.length_cons, List.length_nil, Nat.zero_add, Nat.reduceAdd, List.nil_append] at ha1 ho1
    have HF := Lib.hid (of_any _ _ _ pc1 _ (rowG_own ho1) (by simp))
    have HA1 := Lib.hid ha1
    have HB := Lib.hid hb1
    clear ha1 ho1 hb1
    go_enter Try.func19, Try.ntmps19
    go_wp2_with (first
      | (at_builtin; refine wpList_append_run rfl _ _ 22 rfl rfl _ _ _ _ rfl rfl HA1.out ?_)
      | (go_at_call 9; refine HF.out.mono ?_; rintro e w3 ⟨V, t, rfl, ho, hcan, hmem⟩; have HO := Lib.hid (And.intro ho (And.intro hcan hmem)); clear ho hcan hmem))
    go_ret2
    exact ⟨V, t, rfl, ⟨row_base HO.out.1.1 (fun j hj => Nat.le_trans HB.out.size (row_lt HO.out.1.1 hj).1), then_ HB.out HO.out.1.2⟩, HO.out.2.1, fun r => HO.out.2.2 r⟩
  · obtain ⟨P1, pc1, w1, ha1, ho1, hb1⟩ := push_rngs (nilG W W.heap.size) [(32, 32), (9, 13)] (by simp) (by simp) (Below.refl _ _)
    simp only [List.length_cons, List.length_nil, Nat.zero_add, Nat.reduceAdd, List.nil_append] at ha1 ho1
    have HF := Lib.hid (of_any _ _ _ pc1 _ (rowG_own ho1) (by simp))
    have HA1 := Lib.hid ha1
    have HB := Lib.hid hb1
    clear ha1 ho1 hb1
    go_enter Try.func19, Try.ntmps19
    go_wp2_with (first
      | (at_builtin; refine wpList_append_run rfl _ _ 22 rfl rfl _ _ _ _ rfl rfl HA1.out ?_)
      | (go_at_call 9; refine HF.out.mono ?_; rintro e w3 ⟨V, t, rfl, ho, hcan, hmem⟩; have HO := Lib.hid (And.intro ho (And.intro hcan hmem)); clear ho hcan hmem))
    go_ret2
    exact ⟨V, t, rfl, ⟨row_base HO.out.1.1 (fun j hj => Nat.le_trans HB.out.size (row_lt HO.out.1.1 hj).1), then_ HB.out HO.out.1.2⟩, HO.out.2.1, fun r => HO.out.2.2 r⟩

set_option maxHeartbeats 2000000 in
theorem named_big (c d : Int) (hc : c = 87 ∧ d = 119 ∨ c = 68 ∧ d = 100 ∨ c = 83 ∧ d = 115) (W : World) :
    Calls Try.prog 19 #[.int .u8 c] W fun e w' => ∃ V t, e = .returned (.tuple #[V, .bool true]) ∧ OutG W w' V t ∧ Canon t ∧ ∀ r, hasL t r = (inR r && !hasL (letterL d) r) := by
  have hs := named_small d (by omega) W
  rcases hc with ⟨rfl, rfl⟩ | ⟨rfl, rfl⟩ | ⟨rfl, rfl⟩
  all_goals
    have HS := Lib.hid hs
    clear hs
    go_enter Try.func19, Try.ntmps19
    go_wp2_with (first
      | (go_at_call 19; refine HS.out.mono ?_; rintro e w1 ⟨V1, u, rfl, ho, hcan, hmem⟩; obtain ⟨A1, c1, rfl, hi, hsm⟩ := canon_out ho hcan; have HM := Lib.hid (And.intro ho.2 hmem); have HN := Lib.hid (not_any u A1 u.length c1 w1 hi.1 (by omega)); clear ho hcan hmem hi)
      | (go_at_call 16; refine HN.out.mono ?_; rintro e w2 ⟨V, t, rfl, ho, hcan, hmem⟩; have HO := Lib.hid (And.intro ho (And.intro hcan hmem)); clear ho hcan hmem))
    go_ret2
    exact ⟨V, t, rfl, ⟨row_base HO.out.1.1 (fun j hj => Nat.le_trans HM.out.1.size (row_lt HO.out.1.1 hj).1), then_ HM.out.1 HO.out.1.2⟩, HO.out.2.1, fun r => by rw [HO.out.2.2 r, HM.out.2 r]⟩

theorem named_other (c : Int) (h0 : 0 ≤ c) (h1 : c < 256) (h2 : c ≠ 119 ∧ c ≠ 100 ∧ c ≠ 115 ∧ c ≠ 87 ∧ c ≠ 68 ∧ c ≠ 83) (W : World) :
    Calls Try.prog 19 #[.int .u8 c] W fun e w' => e = .returned (.tuple #[.slice none 0 0, .bool false]) ∧ W = w' := by
  obtain ⟨n1, n2, n3, n4, n5, n6⟩ := h2
  go_enter Try.func19, Try.ntmps19
  go_wp2
  go_ret2
  exact ⟨rfl, rfl⟩

theorem letter_word (r : Int) : hasL (letterL 119) r = (inR r && wordL r) := by
  unfold letterL inR wordL digitL
  rw [if_pos rfl, hasL_append]
  simp only [hasL_cons, hasL_nil, Bool.or_false, Bool.beq_eq_decide_eq, ← Bool.decide_or, ← Bool.decide_and]
  apply decide_eq_decide.2
  omega
theorem letter_digit (r : Int) : hasL (letterL 100) r = (inR r && digitL r) := by
  unfold letterL inR digitL
  rw [if_neg (by decide), if_pos rfl]
  simp only [hasL_cons, hasL_nil, Bool.or_false, ← Bool.decide_or, ← Bool.decide_and]
  apply decide_eq_decide.2
  omega
theorem letter_space (r : Int) : hasL (letterL 115) r = (inR r && spaceL r) := by
  unfold letterL inR spaceL
  rw [if_neg (by decide), if_neg (by decide)]
  rw [show (r == 32) = decide (r = 32) from rfl]
  simp only [hasL_cons, hasL_nil, Bool.or_false, ← Bool.decide_or, ← Bool.decide_and]
  apply decide_eq_decide.2
  omega

theorem named_any (w : World) (c : Int) (h0 : 0 ≤ c) (h1 : c < 256) :
    Calls Try.prog 19 #[.int .u8 c] w fun e w' => ∃ V t, e = .returned (.tuple #[V, .bool (namedL c 0).2]) ∧ OutG w w' V t ∧ Canon t ∧ ((namedL c 0).2 = false → t = []) ∧ ((namedL c 0).2 = true → ∀ r, hasL t r = (inR r && (namedL c r).1)) := by
  by_cases e1 : c = 100
  · subst e1
    exact (named_small 100 (by omega) w).mono fun e w' ⟨V, t, he, ho, hc, hm⟩ => ⟨V, t, he, ho, hc, fun h => (by cases h), fun _ r => (hm r).trans (letter_digit r)⟩
  by_cases e2 : c = 119
  · subst e2
    exact (named_small 119 (by omega) w).mono fun e w' ⟨V, t, he, ho, hc, hm⟩ => ⟨V, t, he, ho, hc, fun h => (by cases h), fun _ r => (hm r).trans (letter_word r)⟩
  by_cases e3 : c = 115
  · subst e3
    exact (named_small 115 (by omega) w).mono fun e w' ⟨V, t, he, ho, hc, hm⟩ => ⟨V, t, he, ho, hc, fun h => (by cases h), fun _ r => (hm r).trans (letter_space r)⟩
  by_cases e4 : c = 68
  · subst e4
    refine (named_big 68 100 (by omega) w).mono fun e w' ⟨V, t, he, ho, hc, hm⟩ => ⟨V, t, he, ho, hc, fun h => (by cases h), fun _ r => (hm r).trans ?_⟩
    rw [letter_digit r, show (namedL 68 r).1 = !digitL r from rfl]
    cases inR r <;> simp
  by_cases e5 : c = 87
  · subst e5
    refine (named_big 87 119 (by omega) w).mono fun e w' ⟨V, t, he, ho, hc, hm⟩ => ⟨V, t, he, ho, hc, fun h => (by cases h), fun _ r => (hm r).trans ?_⟩
    rw [letter_word r, show (namedL 87 r).1 = !wordL r from rfl]
    cases inR r <;> simp
  by_cases e6 : c = 83
  · subst e6
    refine (named_big 83 115 (by omega) w).mono fun e w' ⟨V, t, he, ho, hc, hm⟩ => ⟨V, t, he, ho, hc, fun h => (by cases h), fun _ r => (hm r).trans ?_⟩
    rw [letter_space r, show (namedL 83 r).1 = !spaceL r from rfl]
    cases inR r <;> simp
  have hf : (namedL c 0).2 = false := by
    unfold namedL
    rw [if_neg e1, if_neg e2, if_neg e3, if_neg e4, if_neg e5, if_neg e6]
  rw [hf]
  exact (named_other c h0 h1 ⟨e2, e1, e3, e5, e4, e6⟩ w).mono fun e w' ⟨he, hw⟩ => ⟨_, [], he, by subst hw; exact ⟨nilG _ _, Below.refl _ _⟩, trivial, fun _ => rfl, fun h => (by cases h)⟩
end Go.Proofs.Ytiiclhkibpmgmaa
