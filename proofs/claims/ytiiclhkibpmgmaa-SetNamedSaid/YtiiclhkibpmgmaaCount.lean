/- The program's Count and Only. -/
import Derived.Test.YtiiclhkibpmgmaaOf
namespace Go.Proofs.Ytiiclhkibpmgmaa
open Go Go.RowKit
set_option linter.unusedVariables false

theorem countL_nonneg : ∀ (s : List (Int × Int)) (lo : Int), 0 ≤ lo → CanonF lo s → 0 ≤ countL s ∧ countL s + lo ≤ 1114112 ∨ s = []
  | [], _, _, _ => .inr rfl
  | p :: s, lo, h0, ⟨h1, h2, h3, h4⟩ => by
    left
    rw [countL_cons]
    rcases countL_nonneg s (p.2 + 2) (by omega) h4 with h | h
    · omega
    · subst h
      rw [show countL [] = 0 from rfl]
      omega
theorem countL_le {s : List (Int × Int)} (h : Canon s) : 0 ≤ countL s ∧ countL s ≤ 1114112 := by
  rcases countL_nonneg s 0 (Int.le_refl _) h with h | h
  · omega
  · subst h
    exact ⟨Int.le_refl _, by decide⟩
theorem countL_append (a b : List (Int × Int)) : countL (a ++ b) = countL a + countL b := by
  induction a with
  | nil => rw [List.nil_append, show countL [] = 0 from rfl, Int.zero_add]
  | cons p a ih => rw [List.cons_append, countL_cons, countL_cons, ih]; omega
theorem canonF_take : ∀ (s : List (Int × Int)) (lo : Int) (k : Nat), CanonF lo s → CanonF lo (s.take k)
  | [], _, k, _ => by rw [List.take_nil]; trivial
  | p :: s, lo, 0, _ => trivial
  | p :: s, lo, k + 1, ⟨h1, h2, h3, h4⟩ => ⟨h1, h2, h3, canonF_take s _ k h4⟩

set_option maxHeartbeats 2000000 in
theorem count_any (s t : List (Int × Int)) (A : Option Addr) (n c : Nat) (W : World) (hin : RowG W A n s) (hn : n ≤ 2000000) (ht : Canon t) (hm : ∀ r, hasL t r = hasL s r) :
    Calls Try.prog 22 #[.slice A n c] W fun e w' => e = .returned (.int .i64 (countL t)) ∧ Below W.heap.size W w' := by
  have HC := Lib.hid (of_any s A n c W hin hn)
  have HT := Lib.hid (And.intro ht hm)
  clear hin ht hm
  go_enter Try.func22, Try.ntmps22
  go_wp2_with (go_at_call 9; refine HC.out.mono ?_; rintro e w1 ⟨V, t', rfl, ho, hcan, hmem⟩; have e := canon_one hcan HT.out.1 (fun r => (hmem r).trans (HT.out.2 r).symm); subst e; obtain ⟨A1, c1, rfl, hi1, hs1⟩ := canon_out ho hcan; have HR := Lib.hid hi1.1; have HB := Lib.hid ho.2; clear ho hcan hmem hi1)
  obtain ⟨N, hN⟩ : ∃ N, N = t'.length := ⟨_, rfl⟩
  rw [← hN] at HR hs1 ⊢
  have HN := Lib.hid hN
  clear hN
  go_loopw [3, 9] (fun vs vi wr => ∃ (k : Nat), vs = .int .i64 (countL (t'.take k)) ∧ vi = .int .i64 (k : Int) ∧ k ≤ N ∧ Hid (Below w1.heap.size w1 wr)) (fun _ vi _ => N - (intOf vi).toNat)
  case atStart => exact ⟨0, rfl, rfl, Nat.zero_le _, Lib.hid (Below.refl _ _)⟩
  case round =>
    obtain ⟨k, rfl, rfl, hk, HO⟩ := hrel
    by_cases hlt : k < N
    · obtain ⟨b, o, rfl, hbw, hc⟩ := HR.out.2 (by omega)
      obtain ⟨c0, c1'⟩ := hc k hlt
      have d0 := (HO.out.cell (p := ⟨b, o + k * 2, none⟩) hbw).trans c0
      have d1 := (HO.out.cell (p := ⟨b, o + k * 2 + 1, none⟩) hbw).trans c1'
      have hkt : k < t'.length := by rw [← HN.out]; exact hlt
      have hts := take_snoc hkt
      have hwf := CanonF.wf (Int.le_refl _) HT.out.1 (t'.getD k (0, 0)) (by rw [getD_in k hkt]; exact List.getElem_mem _)
      obtain ⟨p, hp⟩ : ∃ p, p = t'.getD k (0, 0) := ⟨_, rfl⟩
      rw [← hp] at d0 d1 hts hwf
      obtain ⟨x, y⟩ := p
      have hcl := countL_le (canonF_take t' 0 k HT.out.1)
      have he : countL (t'.take (k + 1)) = countL (t'.take k) + (y - x + 1) := by
        rw [hts, countL_append, countL_cons, show countL [] = 0 from rfl, Int.add_zero]
      obtain ⟨C, hC⟩ : ∃ C, C = countL (t'.take k) := ⟨_, rfl⟩
      rw [← hC] at hcl he ⊢
      have HE := Lib.hid he
      have HB2 := Lib.hid (HO.out.trans (((Below.refl wr.heap.size wr).alloc (Nat.le_refl _) (.cells #[.int .i64 x, .int .i64 y] 39)).mono HO.out.size))
      clear hc c0 c1' hp hts hkt hC he
      dsimp only at d0 d1 hwf
      go_wp2
      exact ⟨⟨k + 1, by rw [HE.out], by go_num, by omega, HB2⟩, by simp [intOf]; omega⟩
    · have hkN : k = N := by omega
      subst hkN
      have HE := Lib.hid (show t'.take k = t' from List.take_of_length_le (by rw [← HN.out]; exact Nat.le_refl _))
      go_wp2
      go_ret
      rw [HE.out]
      exact ⟨rfl, HB.out.trans (HO.out.mono HB.out.size)⟩

theorem count_only {t : List (Int × Int)} (h : Canon t) : countL t = 1 ↔ ∃ x, t = [(x, x)] := by
  constructor
  · intro hc
    rcases t with _ | ⟨p, t⟩
    · cases hc
    · obtain ⟨h1, h2, h3, h4⟩ := h
      rw [countL_cons] at hc
      rcases t with _ | ⟨q, t⟩
      · rw [show countL [] = 0 from rfl] at hc
        refine ⟨p.1, ?_⟩
        rw [show p = (p.1, p.1) from Prod.ext rfl (by dsimp only; omega)]
      · obtain ⟨g1, g2, g3, g4⟩ := h4
        rw [countL_cons] at hc
        rcases countL_nonneg t (q.2 + 2) (by omega) g4 with h | h
        · omega
        · subst h
          rw [show countL [] = 0 from rfl] at hc
          omega
  · rintro ⟨x, rfl⟩
    rw [countL_cons, show countL [] = 0 from rfl]
    dsimp only
    omega

set_option maxHeartbeats 2000000 in
theorem only_any (s t : List (Int × Int)) (A : Option Addr) (n c : Nat) (W : World) (hin : RowG W A n s) (hn : n ≤ 2000000) (ht : Canon t) (hm : ∀ r, hasL t r = hasL s r) :
    Calls Try.prog 21 #[.slice A n c] W fun e w' => ∃ x, e = .returned (.tuple #[.int .i64 x, .bool (decide (countL t = 1))]) ∧ (countL t = 1 → hasL s x = true) ∧ (countL t ≠ 1 → x = 0) ∧ Below W.heap.size W w' := by
  have HC := Lib.hid (of_any s A n c W hin hn)
  have HT := Lib.hid (And.intro ht hm)
  clear hin ht hm
  go_enter Try.func21, Try.ntmps21
  go_wp2_with (go_at_call 9; refine HC.out.mono ?_; rintro e w1 ⟨V, t', rfl, ho, hcan, hmem⟩; have e := canon_one hcan HT.out.1 (fun r => (hmem r).trans (HT.out.2 r).symm); subst e; obtain ⟨A1, c1, rfl, hi1, hs1⟩ := canon_out ho hcan; have HR := Lib.hid hi1.1; have HB := Lib.hid ho.2; clear ho hcan hmem hi1)
  have HON := Lib.hid (count_only HT.out.1)
  have hwf := fun p hp => CanonF.wf (Int.le_refl _) HT.out.1 p hp
  rcases t' with _ | ⟨⟨x, y⟩, _ | ⟨q, t2⟩⟩
  · have HF : Hid (decide (countL ([] : List (Int × Int)) = 1) = false ∧ countL ([] : List (Int × Int)) ≠ 1) := Lib.hid ⟨rfl, by decide⟩
    clear hwf
    simp only [List.length_nil]
    go_quiet (fail)
    go_wp2
    go_ret2
    exact ⟨0, by rw [HF.out.1]; rfl, fun h => absurd h HF.out.2, fun _ => rfl, below_drewN HB.out nq⟩
  · obtain ⟨b, o, rfl, hbw, hc⟩ := HR.out.2 (by simp)
    obtain ⟨c0, c1'⟩ := hc 0 (by simp)
    rw [show ([(x, y)] : List (Int × Int)).getD 0 (0, 0) = (x, y) from rfl] at c0 c1'
    have hxy := hwf (x, y) (by simp)
    clear hwf hc
    dsimp only at c0 c1' hxy
    simp only [List.length_cons, List.length_nil, Nat.zero_add] at hs1 ⊢
    rw [Nat.zero_mul, Nat.add_zero] at c0 c1'
    by_cases he : x = y
    · have HF : Hid (decide (countL [(x, y)] = 1) = true ∧ countL [(x, y)] = 1 ∧ hasL s x = true) := Lib.hid (by
        have h1 : countL [(x, y)] = 1 := (HON.out).2 ⟨x, by rw [he]⟩
        refine ⟨decide_eq_true h1, h1, ?_⟩
        rw [← HT.out.2 x, hasL_cons, hasL_nil, Bool.or_false]
        exact decide_eq_true (by dsimp only; omega))
      go_wp2
      go_quiet (fail)
      go_wp2
      go_ret2
      exact ⟨y, by rw [HF.out.1]; rfl, fun _ => he ▸ HF.out.2.2, fun h => absurd HF.out.2.1 h, below_drewN HB.out nq⟩
    · have HF : Hid (decide (countL [(x, y)] = 1) = false ∧ countL [(x, y)] ≠ 1) := Lib.hid (by
        have h1 : countL [(x, y)] ≠ 1 := fun h => by
          obtain ⟨z, hz⟩ := HON.out.1 h
          injection hz with hz _
          injection hz with h1 h2
          omega
        exact ⟨decide_eq_false h1, h1⟩)
      go_wp2
      go_quiet (fail)
      go_wp2
      go_ret2
      exact ⟨0, by rw [HF.out.1]; rfl, fun h => absurd h HF.out.2, fun _ => rfl, below_drewN HB.out nq⟩
  · have HF : Hid (decide (countL ((x, y) :: q :: t2) = 1) = false ∧ countL ((x, y) :: q :: t2) ≠ 1) := Lib.hid (by
      have h1 : countL ((x, y) :: q :: t2) ≠ 1 := fun h => by
        obtain ⟨z, hz⟩ := HON.out.1 h
        injection hz with _ hz
        cases hz
      exact ⟨decide_eq_false h1, h1⟩)
    clear hwf
    obtain ⟨N, hN⟩ : ∃ N, N = ((x, y) :: q :: t2).length := ⟨_, rfl⟩
    rw [← hN] at hs1 ⊢
    have h2 : N ≠ 1 := by rw [hN]; simp
    clear hN
    have h3 : ¬ (N : Int) = 1 := by omega
    have h4 : decide ((N : Int) = 1) = false := decide_eq_false h3
    have h5 : ((N : Int) != 1) = true := by simpa using h3
    have h6 : decide (N = 1) = false := decide_eq_false h2
    go_quiet (fail)
    go_wp2
    go_ret2
    exact ⟨0, by rw [HF.out.1]; rfl, fun h => absurd h HF.out.2, fun _ => rfl, below_drewN HB.out nq⟩
end Go.Proofs.Ytiiclhkibpmgmaa
