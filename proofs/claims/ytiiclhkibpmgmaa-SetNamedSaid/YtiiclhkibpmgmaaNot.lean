/- The program's Not: the gaps of a set. -/
import Derived.Test.YtiiclhkibpmgmaaOf
namespace Go.Proofs.Ytiiclhkibpmgmaa
open Go Go.RowKit
set_option linter.unusedVariables false

/-- What was gone through of the set t's ranges k: u are the gaps ahead of L, where the numbers behind them begin. -/
def Gap (t : List (Int × Int)) (k : Nat) (L : Int) (u : List (Int × Int)) : Prop :=
  0 ≤ L ∧ L ≤ 1114112 ∧ CanonF L (t.drop k) ∧ Canon u ∧ endL 0 u ≤ L ∧ (∀ r, hasL u r = (decide (0 ≤ r ∧ r < L) && !hasL (t.take k) r)) ∧ ∀ r, hasL (t.take k) r = true → r < L
theorem gap_zero {t : List (Int × Int)} (h : Canon t) : Gap t 0 0 [] := by
  refine ⟨Int.le_refl _, by decide, h, trivial, Int.le_refl _, fun r => ?_, fun r hr => by cases hr⟩
  rw [hasL_nil, decide_eq_false (by omega), Bool.false_and]
section
variable {t u : List (Int × Int)} {k : Nat} {L x y : Int}
theorem gap_head (h : Gap t k L u) (hk : k < t.length) (hp : (x, y) = t.getD k (0, 0)) : L ≤ x ∧ x ≤ y ∧ y ≤ 1114111 ∧ CanonF (y + 2) (t.drop (k + 1)) := by
  have hd : t.drop k = (x, y) :: t.drop (k + 1) := by
    rw [List.drop_eq_getElem_cons hk, hp, getD_in k hk]
  have := h.2.2.1
  rw [hd] at this
  exact this
theorem gap_take (hk : k < t.length) (hp : (x, y) = t.getD k (0, 0)) (r : Int) : hasL (t.take (k + 1)) r = (hasL (t.take k) r || decide (x ≤ r ∧ r ≤ y ∧ 0 ≤ r ∧ r ≤ 1114111)) := by
  rw [take_snoc hk, ← hp, hasL_append, hasL_cons, hasL_nil, Bool.or_false]
/-- A range with a gap ahead of it. -/
theorem gap_push (h : Gap t k L u) (hk : k < t.length) (hp : (x, y) = t.getD k (0, 0)) (hL : L < x) : Gap t (k + 1) (y + 1) (u ++ [(L, x - 1)]) := by
  obtain ⟨h1, h2, h3, h4⟩ := gap_head h hk hp
  obtain ⟨g1, g2, g3, g4, g5, g6, g7⟩ := h
  refine ⟨by omega, by omega, h4.mono (by omega), (canonF_snoc _ u 0).2 ⟨g4, g5, by dsimp only; omega, by dsimp only; omega⟩, by rw [endL_snoc]; dsimp only; omega, fun r => ?_, fun r hr => ?_⟩
  · rw [gap_take hk hp, hasL_append, g6 r, hasL_cons, hasL_nil, Bool.or_false]
    cases ht : hasL (t.take k) r with
    | true =>
      have := g7 r ht
      simp
      omega
    | false =>
      rw [Bool.not_false, Bool.and_true, Bool.false_or, ← decide_not, ← Bool.decide_or, ← Bool.decide_and]
      apply decide_eq_decide.2
      dsimp only
      omega
  · rw [gap_take hk hp, Bool.or_eq_true] at hr
    rcases hr with hr | hr
    · have := g7 r hr; omega
    · have := of_decide_eq_true hr; omega
/-- A range with none. -/
theorem gap_skip (h : Gap t k L u) (hk : k < t.length) (hp : (x, y) = t.getD k (0, 0)) (hL : ¬ L < x) : Gap t (k + 1) (y + 1) u := by
  obtain ⟨h1, h2, h3, h4⟩ := gap_head h hk hp
  obtain ⟨g1, g2, g3, g4, g5, g6, g7⟩ := h
  refine ⟨by omega, by omega, h4.mono (by omega), g4, by omega, fun r => ?_, fun r hr => ?_⟩
  · rw [gap_take hk hp, g6 r]
    cases ht : hasL (t.take k) r with
    | true =>
      have := g7 r ht
      simp
    | false =>
      rw [Bool.not_false, Bool.and_true, Bool.false_or, ← decide_not, ← Bool.decide_and]
      apply decide_eq_decide.2
      omega
  · rw [gap_take hk hp, Bool.or_eq_true] at hr
    rcases hr with hr | hr
    · have := g7 r hr; omega
    · have := of_decide_eq_true hr; omega
/-- The last gap. -/
theorem gap_last (h : Gap t t.length L u) (hL : L < 1114112) : Canon (u ++ [(L, 1114111)]) ∧ ∀ r, hasL (u ++ [(L, 1114111)]) r = (inR r && !hasL t r) := by
  obtain ⟨g1, g2, g3, g4, g5, g6, g7⟩ := h
  rw [List.take_length] at g6 g7
  refine ⟨(canonF_snoc _ u 0).2 ⟨g4, g5, by dsimp only; omega, by dsimp only; omega⟩, fun r => ?_⟩
  rw [hasL_append, g6 r, hasL_cons, hasL_nil, Bool.or_false]
  unfold inR
  cases ht : hasL t r with
  | true =>
    have := g7 r ht
    simp
    omega
  | false =>
    rw [Bool.not_false, Bool.and_true, Bool.and_true, ← Bool.decide_or]
    apply decide_eq_decide.2
    dsimp only
    omega
theorem gap_none (h : Gap t t.length L u) (hL : ¬ L < 1114112) : Canon u ∧ ∀ r, hasL u r = (inR r && !hasL t r) := by
  obtain ⟨g1, g2, g3, g4, g5, g6, g7⟩ := h
  rw [List.take_length] at g6 g7
  refine ⟨g4, fun r => ?_⟩
  rw [g6 r]
  congr 1
  unfold inR
  apply decide_eq_decide.2
  omega
end

set_option maxHeartbeats 4000000 in
theorem not_any (s : List (Int × Int)) (A : Option Addr) (n c : Nat) (W : World) (hin : RowG W A n s) (hn : n ≤ 2000000) :
    Calls Try.prog 16 #[.slice A n c] W fun e w' => ∃ V t, e = .returned V ∧ OutG W w' V t ∧ Canon t ∧ ∀ r, hasL t r = (inR r && !hasL s r) := by
  have HC := Lib.hid (of_any s A n c W hin hn)
  clear hin
  go_enter Try.func16, Try.ntmps16
  go_wp2_with (first
    | (go_at_call 9; refine HC.out.mono ?_; rintro e w1 ⟨V, t, rfl, ho, hcan, hmem⟩; obtain ⟨A1, c1, rfl, _, hsm⟩ := canon_out ho hcan; obtain ⟨P2, pc2, w2, happ, hown, hb2⟩ := push_rngs ho.1 [(1114112, 0)] (by omega) (by simp) ho.2; have HA := Lib.hid happ; have HO2 := Lib.hid (And.intro hown hb2); have HT := Lib.hid (And.intro hcan hmem); clear ho hcan hmem happ hown hb2)
    | (at_builtin; refine wpList_append_run rfl _ _ 22 rfl rfl _ _ _ _ rfl rfl HA.out ?_))
  obtain ⟨N, hN⟩ : ∃ N, N = t.length := ⟨_, rfl⟩
  rw [← hN] at HO2 hsm ⊢
  have hrow : RowG w2 P2 (N + 1) (t ++ [(1114112, 0)]) := by
    obtain ⟨A', c', e, h, _⟩ := rowG_of_own HO2.out.1 (by simp [hN])
    injection e with e1 _ _
    rw [e1]
    exact h
  have HR := Lib.hid hrow
  have HN := Lib.hid hN
  clear hrow hN HA
  go_loopw [3, 4, 13] (fun vo vl vi wr => ∃ (k m pc3 : Nat) (P3 : Option Addr) (L : Int) (u : List (Int × Int)), vo = .slice P3 m pc3 ∧ vl = .int .i64 L ∧ vi = .int .i64 (k : Int) ∧ k ≤ N + 1 ∧ m ≤ k ∧ Hid (wr.ownsRow w2.heap.size 39 2 (.slice P3 m pc3) m (cellsG u) ∧ Below w2.heap.size w2 wr ∧ (k ≤ N → Gap t k L u) ∧ (k = N + 1 → Canon u ∧ ∀ r, hasL u r = (inR r && !hasL t r)))) (fun _ _ vi _ => N + 1 - (intOf vi).toNat)
  case atStart => exact ⟨0, 0, 0, none, 0, [], rfl, rfl, rfl, Nat.zero_le _, Nat.le_refl _, Lib.hid ⟨nilG _ _, Below.refl _ _, fun _ => gap_zero HT.out.1, fun h => by omega⟩⟩
  case round =>
    obtain ⟨k, m, pc3, P3, L, u, rfl, rfl, rfl, hk, hm, HO⟩ := hrel
    by_cases hlt : k < N + 1
    · obtain ⟨b, o, rfl, hbw, hc⟩ := HR.out.2 (by omega)
      obtain ⟨c0, c1'⟩ := hc k hlt
      have d0 := (HO.out.2.1.cell (p := ⟨b, o + k * 2, none⟩) hbw).trans c0
      have d1 := (HO.out.2.1.cell (p := ⟨b, o + k * 2 + 1, none⟩) hbw).trans c1'
      have hal := (Below.refl wr.heap.size wr).alloc (Nat.le_refl _)
      have HG := Lib.hid (HO.out.2.2.1 (by omega))
      by_cases hkN : k < N
      · have hgd : (t ++ [(1114112, 0)]).getD k (0, 0) = t.getD k (0, 0) := by
          have := HN.out
          rw [List.getD, List.getD, List.getElem?_append_left (by omega)]
        rw [hgd] at d0 d1
        obtain ⟨p, hp⟩ : ∃ p, p = t.getD k (0, 0) := ⟨_, rfl⟩
        rw [← hp] at d0 d1
        obtain ⟨x, y⟩ := p
        have hkt : k < t.length := by rw [← HN.out]; exact hkN
        obtain ⟨x1, x2, x3, _⟩ := gap_head HG.out hkt hp
        have hL0 := HG.out.1
        clear hc c0 c1' hgd
        dsimp only at d0 d1
        have HALL := Lib.hid (hal (.cells #[.int .i64 x, .int .i64 y] 39))
        clear hal
        by_cases hLx : L < x
        · have hh := gap_push HG.out hkt hp hLx
          have hb3 := HALL.out
          obtain ⟨P', pc', w', happ, hown, hbel, hst⟩ := push_keep (ownG_kept HO.out.1 hb3) [(L, x - 1)] (by omega) (by simp) (then_ HO.out.2.1 hb3)
          have d2 : w'.cell? ⟨wr.heap.size, 1, none⟩ = some (.int .i64 y) := by
            rw [cell_of_row w' wr.heap.size 1 #[.int .i64 x, .int .i64 y] 39 (0, 0) ((hst _ (by simp) (fun e => by have := (row_lt HO.out.1 e).2; omega)).trans (heap_alloc_new wr _))]
            rfl
          rw [show (wr.alloc (.cells #[.int .i64 x, .int .i64 y] 39)).heap.size = wr.heap.size + 1 by simp] at happ
          have HA := Lib.hid happ
          have H2 := Lib.hid (And.intro hown (And.intro hbel hh))
          clear happ hown hbel hb3 hh hp hkt hst
          go_wp2_with (at_builtin; refine wpList_append_run rfl _ _ 22 rfl rfl _ _ _ _ rfl rfl HA.out ?_)
          exact ⟨⟨k + 1, m + 1, pc', P', y + 1, _, rfl, by go_num, by go_num, by omega, by omega, Lib.hid ⟨H2.out.1, H2.out.2.1, fun _ => H2.out.2.2, fun h => by omega⟩⟩, by first | (simp [intOf]; omega) | simp [intOf]⟩
        · have hh := gap_skip HG.out hkt hp hLx
          have hb3 := HALL.out
          have H2 := Lib.hid (And.intro (ownG_kept HO.out.1 hb3) (And.intro (then_ HO.out.2.1 hb3) hh))
          clear hb3 hh hp hkt
          go_wp2
          exact ⟨⟨k + 1, m, pc3, P3, y + 1, _, rfl, by go_num, by go_num, by omega, by omega, Lib.hid ⟨H2.out.1, H2.out.2.1, fun _ => H2.out.2.2, fun h => by omega⟩⟩, by first | (simp [intOf]; omega) | simp [intOf]⟩
      · have hkN2 : k = N := by omega
        subst hkN2
        have hgd : (t ++ [(1114112, 0)]).getD k (0, 0) = (1114112, 0) := by
          rw [HN.out]
          simp [List.getD]
        rw [hgd] at d0 d1
        clear hc c0 c1' hgd
        dsimp only at d0 d1
        have hL0 := HG.out.1
        have hgt : Gap t t.length L u := by have h := HG.out; rwa [HN.out] at h
        have HALL := Lib.hid (hal (.cells #[.int .i64 1114112, .int .i64 0] 39))
        clear hal
        by_cases hLx : L < 1114112
        · have hh := gap_last hgt hLx
          have hb3 := HALL.out
          obtain ⟨P', pc', w', happ, hown, hbel, hst⟩ := push_keep (ownG_kept HO.out.1 hb3) [(L, 1114111)] (by omega) (by simp) (then_ HO.out.2.1 hb3)
          have d2 : w'.cell? ⟨wr.heap.size, 1, none⟩ = some (.int .i64 0) := by
            rw [cell_of_row w' wr.heap.size 1 #[.int .i64 1114112, .int .i64 0] 39 (0, 0) ((hst _ (by simp) (fun e => by have := (row_lt HO.out.1 e).2; omega)).trans (heap_alloc_new wr _))]
            rfl
          rw [show (wr.alloc (.cells #[.int .i64 1114112, .int .i64 0] 39)).heap.size = wr.heap.size + 1 by simp] at happ
          have HA := Lib.hid happ
          have H2 := Lib.hid (And.intro hown (And.intro hbel hh))
          clear happ hown hbel hb3 hh hgt hst
          go_wp2_with (at_builtin; refine wpList_append_run rfl _ _ 22 rfl rfl _ _ _ _ rfl rfl HA.out ?_)
          exact ⟨⟨k + 1, m + 1, pc', P', 1, _, rfl, by go_num, by go_num, by omega, by omega, Lib.hid ⟨H2.out.1, H2.out.2.1, fun h => by omega, fun _ => H2.out.2.2⟩⟩, by first | (simp [intOf]; omega) | simp [intOf]⟩
        · have hh := gap_none hgt hLx
          have hb3 := HALL.out
          have H2 := Lib.hid (And.intro (ownG_kept HO.out.1 hb3) (And.intro (then_ HO.out.2.1 hb3) hh))
          clear hb3 hh hgt
          go_wp2
          exact ⟨⟨k + 1, m, pc3, P3, 1, _, rfl, by go_num, by go_num, by omega, by omega, Lib.hid ⟨H2.out.1, H2.out.2.1, fun h => by omega, fun _ => H2.out.2.2⟩⟩, by first | (simp [intOf]; omega) | simp [intOf]⟩
    · have hkN : k = N + 1 := by omega
      subst hkN
      have HF := Lib.hid (HO.out.2.2.2 rfl)
      go_wp2
      go_ret
      have e : m = u.length := by have := HO.out.1.1; rw [cellsG_length] at this; omega
      subst e
      refine ⟨_, rfl, u, ⟨row_base HO.out.1 (fun j hj => Nat.le_trans HO2.out.2.size (row_lt HO.out.1 hj).1), HO2.out.2.trans (HO.out.2.1.mono HO2.out.2.size)⟩, HF.out.1, fun r => ?_⟩
      rw [HF.out.2 r, HT.out.2 r]
end Go.Proofs.Ytiiclhkibpmgmaa
