/- The program's Of: a set made of ranges. -/
import Derived.Test.YtajnedkjmgjjbaaDoorM15
import Derived.Test.YtajnedkjmgjjbaaDoorM17
import Derived.BigQuiet
import Derived.BigRegion
import Derived.KernelRfl
namespace Go.Proofs.YtajnedkjmgjjbaaDoor
open Go Go.RowKit
set_option linter.unusedVariables false

set_option maxHeartbeats 4000000 in
theorem of_any (s : List (Int × Int)) (A : Option Addr) (n c : Nat) (W : World) (hin : RowG W A n s) (hn : n ≤ 2000000) :
    Calls Tryd.prog 75 #[.slice A n c] W fun e w' => ∃ V t, e = .returned V ∧ OutG W w' V t ∧ Canon t ∧ ∀ r, hasL t r = hasL s r := by
  have HC := Lib.hid (clip_any s A n c W hin hn)
  have HSL := Lib.hid hin.1
  clear hin
  go_enter Tryd.func75, Tryd.ntmps75
  go_wp2_with (first
    | (go_at_call 81; refine HC.out.mono ?_; rintro e w1 ⟨P, q, pc, rfl, hown, hb1⟩; have HQ := Lib.hid (show q = (clipL s).length by { have := hown.1; rw [cellsG_length] at this; omega }); have hqn : q ≤ 2000000 := by { have := clipL_length s; have := HQ.out; have := HSL.out; omega }; have HB1 := Lib.hid hb1; have HS := Lib.hid (sort_any hown (by omega)); clear hown hb1)
    | (go_at_call 82; refine HS.out.mono ?_; rintro e w2 ⟨rfl, t, hperm, hsort, hrow, hb2⟩; have hwf : ∀ p ∈ t, 0 ≤ p.1 ∧ p.1 ≤ p.2 ∧ p.2 ≤ 1114111 := (fun p hp => clipL_mem (hperm.mem_iff.1 hp)); have HT := Lib.hid (And.intro hrow (And.intro hsort (And.intro hwf (show ∀ r, hasL t r = hasL s r from fun r => (hasL_perm hperm r).trans (clipL_has s r))))); have HB2 := Lib.hid (HB1.out.trans (hb2.mono (Nat.le_refl _))); clear hperm hsort hrow hb2 hwf))
  go_loopw [4, 14] (fun vo vi wr => ∃ (k m pc2 : Nat) (P2 : Option Addr) (u : List (Int × Int)), vo = .slice P2 m pc2 ∧ vi = .int .i64 (k : Int) ∧ k ≤ q ∧ m ≤ k ∧ Hid (wr.ownsRow w2.heap.size 42 2 (.slice P2 m pc2) m (cellsG u) ∧ Below w2.heap.size w2 wr ∧ Half t k u)) (fun _ vi _ => q - (intOf vi).toNat)
  case atStart => exact ⟨0, 0, 0, none, [], rfl, rfl, Nat.zero_le _, Nat.le_refl _, Lib.hid ⟨nilG _ _, Below.refl _ _, half_zero t⟩⟩
  case round =>
    obtain ⟨k, m, pc2, P2, u, rfl, rfl, hk, hm, HO⟩ := hrel
    by_cases hlt : k < q
    · obtain ⟨b, o, rfl, hbw, hc⟩ := HT.out.1.2 (by omega)
      obtain ⟨c0, c1⟩ := hc k hlt
      have d0 := (HO.out.2.1.cell (p := ⟨b, o + k * 2, none⟩) hbw).trans c0
      have d1 := (HO.out.2.1.cell (p := ⟨b, o + k * 2 + 1, none⟩) hbw).trans c1
      have hkt : k < t.length := by have := HT.out.1.1; omega
      obtain ⟨p, hp⟩ : ∃ p, p = t.getD k (0, 0) := ⟨_, rfl⟩
      rw [← hp] at d0 d1
      obtain ⟨x, y⟩ := p
      have HP := Lib.hid hp
      have hal := (Below.refl wr.heap.size wr).alloc (Nat.le_refl _) (.cells #[.int .i64 x, .int .i64 y] 42)
      have HKT := Lib.hid hkt
      clear hc c0 c1 hp hkt
      dsimp only at d0 d1
      rcases List.eq_nil_or_concat u with rfl | ⟨v, ⟨z0, z⟩, rfl⟩
      · have hm0 : m = 0 := by have := HO.out.1.1; simp [cellsG] at this; omega
        subst hm0
        have HAL := Lib.hid hal
        clear hal
        go_wp2
        go_quiet (fail)
        have hb3 : Below wr.heap.size wr ((wr.alloc (.cells #[.int .i64 x, .int .i64 y] 42)).drewN nq) := below_drewN HAL.out nq
        obtain ⟨P', pc', w', happ, hown, hbel⟩ := push_rngs (ownG_kept HO.out.1 hb3) [(x, y)] (by omega) (by simp) (then_ HO.out.2.1 hb3)
        rw [show ((wr.alloc (.cells #[.int .i64 x, .int .i64 y] 42)).drewN nq).heap.size = wr.heap.size + 1 by simp] at happ
        have hh := half_push HO.out.2.2 HKT.out HT.out.2.1 HT.out.2.2.1 (fun q' hq' => by cases hq')
        rw [← HP.out] at hh
        have HA := Lib.hid happ
        have H2 := Lib.hid (And.intro hown (And.intro hbel hh))
        clear happ hown hbel hb3 hh
        go_wp2_with (at_builtin; refine wpList_append_run rfl _ _ 23 rfl rfl _ _ _ _ rfl rfl HA.out ?_)
        exact ⟨⟨k + 1, 0 + 1, pc', P', _, rfl, by go_num, by omega, by omega, H2⟩, by simp [intOf]; omega⟩
      · rw [List.concat_eq_append] at HO
        obtain ⟨g, rfl, hmv, hg0, hg1, _, _, c0, c1, hfz, hst⟩ := last_own (ownG_kept HO.out.1 hal) (then_ HO.out.2.1 hal)
        obtain ⟨_, _, hz1, hz2⟩ := (canonF_snoc (z0, z) v 0).1 HO.out.2.2.1
        have hmv2 : v.length = m - 1 := by omega
        rw [hmv2] at c0 c1 hfz hst
        dsimp only at c0 c1
        have hz0 : -1 ≤ z0 := by
          have := CanonF.wf (Int.le_refl _) HO.out.2.2.1 (z0, z) (by simp)
          dsimp only at this; omega
        have hw : IntKind.i64.wrap (z + 1) = z + 1 := by rw [IntKind.wrap_i64]; dsimp only at hz1 hz2; omega
        have hw2 : IntKind.i64.wrap ((m : Int) - 1) = (m : Int) - 1 := by rw [IntKind.wrap_i64]; omega
        have b1 : (0 : Int) ≤ (m : Int) - 1 := by omega
        have b2 : (m : Int) - 1 < (m : Int) := by omega
        have b3 : ((m : Int) - 1).toNat = m - 1 := by omega
        have b4 : (0 : Int) < (m : Int) := by omega
        have d4 : decide (0 < m) = true := decide_eq_true (by omega)
        have HMV := Lib.hid (And.intro hmv hmv2)
        have HST := Lib.hid hst
        have HAL := Lib.hid hal
        clear hmv hmv2 hst hz0 hg0 hz1 hz2 hal
        by_cases hxz : x ≤ z + 1
        · have d5 : decide (x ≤ z + 1) = true := by simpa using hxz
          go_wp2
          go_quiet (fail)
          go_wp2
          go_region
          have hb3 : Below wr.heap.size wr ((wr.alloc (.cells #[.int .i64 x, .int .i64 y] 42)).drewN (nq + 1)) := below_drewN HAL.out (nq + 1)
          obtain ⟨g', hgg, hmv, _, _, _, _, _, _, _, hst⟩ := last_own (ownG_kept HO.out.1 hb3) (then_ HO.out.2.1 hb3)
          injection hgg with hgg
          injection hgg with hgg
          subst hgg
          rw [HMV.out.2] at hst
          have hh := half_join HO.out.2.2 HKT.out HT.out.2.2.1 (by rw [← HP.out]; exact hxz)
          rw [← HP.out] at hh
          have H2 := Lib.hid (And.intro (hst (max z y)).1 (And.intro (hst (max z y)).2 hh))
          clear hmv hst hb3 hh
          go_wp2
          exact ⟨⟨k + 1, m, pc2, _, _, rfl, by go_num, by omega, by omega, H2⟩, by simp [intOf]; omega⟩
        · have d5 : decide (x ≤ z + 1) = false := by simpa using hxz
          go_wp2
          go_quiet (fail)
          have hb3 : Below wr.heap.size wr ((wr.alloc (.cells #[.int .i64 x, .int .i64 y] 42)).drewN nq) := below_drewN HAL.out nq
          obtain ⟨P', pc', w', happ, hown, hbel⟩ := push_rngs (ownG_kept HO.out.1 hb3) [(x, y)] (by omega) (by simp) (then_ HO.out.2.1 hb3)
          rw [show ((wr.alloc (.cells #[.int .i64 x, .int .i64 y] 42)).drewN nq).heap.size = wr.heap.size + 1 by simp] at happ
          have hh := half_push HO.out.2.2 HKT.out HT.out.2.1 HT.out.2.2.1 (fun q' hq' => by
            rw [← HP.out]
            have e : q' = (z0, z) := by simpa using hq'.symm
            rw [e]
            dsimp only
            omega)
          rw [← HP.out] at hh
          have HA := Lib.hid happ
          have H2 := Lib.hid (And.intro hown (And.intro hbel hh))
          clear happ hown hbel hb3 hh
          go_wp2_with (at_builtin; refine wpList_append_run rfl _ _ 23 rfl rfl _ _ _ _ rfl rfl HA.out ?_)
          exact ⟨⟨k + 1, m + 1, pc', P', _, rfl, by go_num, by omega, by omega, H2⟩, by simp [intOf]; omega⟩
    · have hkq : k = q := by omega
      subst hkq
      have HF := Lib.hid (show Canon u ∧ ∀ r, hasL u r = hasL s r from ⟨HO.out.2.2.1, fun r => (HO.out.2.2.2.1 r).trans (by rw [List.take_of_length_le (by have := HT.out.1.1; omega)]; exact HT.out.2.2.2 r)⟩)
      go_wp2
      go_ret
      have e : m = u.length := by have := HO.out.1.1; rw [cellsG_length] at this; omega
      subst e
      exact ⟨_, u, rfl, ⟨row_base HO.out.1 (fun j hj => Nat.le_trans HB2.out.size (row_lt HO.out.1 hj).1), HB2.out.trans (HO.out.2.1.mono HB2.out.size)⟩, HF.out.1, HF.out.2⟩
end Go.Proofs.YtajnedkjmgjjbaaDoor
/- The program's Not: the gaps of a set. -/
namespace Go.Proofs.YtajnedkjmgjjbaaDoor
open Go Go.RowKit
set_option linter.unusedVariables false
set_option maxRecDepth 20000

/-- What was gone through of the set t's ranges k: u are the gaps ahead of L, where the numbers behind them begin. -/
def Gap (t : List (Int × Int)) (k : Nat) (L : Int) (u : List (Int × Int)) : Prop :=
  0 ≤ L ∧ L ≤ 1114112 ∧ CanonF L (t.drop k) ∧ Canon u ∧ endL 0 u ≤ L ∧ (∀ r, hasL u r = (decide (0 ≤ r ∧ r < L) && !hasL (t.take k) r)) ∧ ∀ r, hasL (t.take k) r = true → r < L
theorem gap_zero {t : List (Int × Int)} (h : Canon t) : Gap t 0 0 [] := by
  refine ⟨Int.le_refl _, by decide, h, trivial, Int.le_refl _, fun r => ?_, fun r hr => by cases hr⟩
  rw [hasL_nil, decide_eq_false (by omega), Bool.false_and]
section
variable {t u : List (Int × Int)} {k : Nat} {L x y : Int}
theorem gap_head (h : Gap t k L u) (hk : k < t.length) (hp : (x, y) = t.getD k (0, 0)) : L ≤ x ∧ x ≤ y ∧ y ≤ 1114111 ∧ CanonF (y + 2) (t.drop (k + 1)) := by
  have hd : t.drop k = (x, y) :: t.drop (k + 1) := by
    rw [List.drop_eq_getElem_cons hk, hp, getD_in k hk]
  have := h.2.2.1
  rw [hd] at this
  exact this
theorem gap_take (hk : k < t.length) (hp : (x, y) = t.getD k (0, 0)) (r : Int) : hasL (t.take (k + 1)) r = (hasL (t.take k) r || decide (x ≤ r ∧ r ≤ y ∧ 0 ≤ r ∧ r ≤ 1114111)) := by
  rw [take_snoc hk, ← hp, hasL_append, hasL_cons, hasL_nil, Bool.or_false]
/-- A range with a gap ahead of it. -/
theorem gap_push (h : Gap t k L u) (hk : k < t.length) (hp : (x, y) = t.getD k (0, 0)) (hL : L < x) : Gap t (k + 1) (y + 1) (u ++ [(L, x - 1)]) := by
  obtain ⟨h1, h2, h3, h4⟩ := gap_head h hk hp
  obtain ⟨g1, g2, g3, g4, g5, g6, g7⟩ := h
  refine ⟨by omega, by omega, h4.mono (by omega), (canonF_snoc _ u 0).2 ⟨g4, g5, by dsimp only; omega, by dsimp only; omega⟩, by rw [endL_snoc]; dsimp only; omega, fun r => ?_, fun r hr => ?_⟩
  · rw [gap_take hk hp, hasL_append, g6 r, hasL_cons, hasL_nil, Bool.or_false]
    cases ht : hasL (t.take k) r with
    | true =>
      have := g7 r ht
      simp
      omega
    | false =>
      rw [Bool.not_false, Bool.and_true, Bool.false_or, ← decide_not, ← Bool.decide_or, ← Bool.decide_and]
      apply decide_eq_decide.2
      dsimp only
      omega
  · rw [gap_take hk hp, Bool.or_eq_true] at hr
    rcases hr with hr | hr
    · have := g7 r hr; omega
    · have := of_decide_eq_true hr; omega
/-- A range with none. -/
theorem gap_skip (h : Gap t k L u) (hk : k < t.length) (hp : (x, y) = t.getD k (0, 0)) (hL : ¬ L < x) : Gap t (k + 1) (y + 1) u := by
  obtain ⟨h1, h2, h3, h4⟩ := gap_head h hk hp
  obtain ⟨g1, g2, g3, g4, g5, g6, g7⟩ := h
  refine ⟨by omega, by omega, h4.mono (by omega), g4, by omega, fun r => ?_, fun r hr => ?_⟩
  · rw [gap_take hk hp, g6 r]
    cases ht : hasL (t.take k) r with
    | true =>
      have := g7 r ht
      simp
    | false =>
      rw [Bool.not_false, Bool.and_true, Bool.false_or, ← decide_not, ← Bool.decide_and]
      apply decide_eq_decide.2
      omega
  · rw [gap_take hk hp, Bool.or_eq_true] at hr
    rcases hr with hr | hr
    · have := g7 r hr; omega
    · have := of_decide_eq_true hr; omega
/-- The last gap. -/
theorem gap_last (h : Gap t t.length L u) (hL : L < 1114112) : Canon (u ++ [(L, 1114111)]) ∧ ∀ r, hasL (u ++ [(L, 1114111)]) r = (inR r && !hasL t r) := by
  obtain ⟨g1, g2, g3, g4, g5, g6, g7⟩ := h
  rw [List.take_length] at g6 g7
  refine ⟨(canonF_snoc _ u 0).2 ⟨g4, g5, by dsimp only; omega, by dsimp only; omega⟩, fun r => ?_⟩
  rw [hasL_append, g6 r, hasL_cons, hasL_nil, Bool.or_false]
  unfold inR
  cases ht : hasL t r with
  | true =>
    have := g7 r ht
    simp
    omega
  | false =>
    rw [Bool.not_false, Bool.and_true, Bool.and_true, ← Bool.decide_or]
    apply decide_eq_decide.2
    dsimp only
    omega
theorem gap_none (h : Gap t t.length L u) (hL : ¬ L < 1114112) : Canon u ∧ ∀ r, hasL u r = (inR r && !hasL t r) := by
  obtain ⟨g1, g2, g3, g4, g5, g6, g7⟩ := h
  rw [List.take_length] at g6 g7
  refine ⟨g4, fun r => ?_⟩
  rw [g6 r]
  congr 1
  unfold inR
  apply decide_eq_decide.2
  omega
end

set_option maxHeartbeats 4000000 in
theorem not_any (s : List (Int × Int)) (A : Option Addr) (n c : Nat) (W : World) (hin : RowG W A n s) (hn : n ≤ 2000000) :
    Calls Tryd.prog 71 #[.slice A n c] W fun e w' => ∃ V t, e = .returned V ∧ OutG W w' V t ∧ Canon t ∧ ∀ r, hasL t r = (inR r && !hasL s r) := by
  have HC := Lib.hid (of_any s A n c W hin hn)
  clear hin
  go_enter Tryd.func71, Tryd.ntmps71
  go_wp2_with (first
    | (go_at_call 75; refine HC.out.mono ?_; rintro e w1 ⟨V, t, rfl, ho, hcan, hmem⟩; obtain ⟨A1, c1, rfl, _, hsm⟩ := canon_out ho hcan; obtain ⟨P2, pc2, w2, happ, hown, hb2⟩ := push_rngs ho.1 [(1114112, 0)] (by omega) (by simp) ho.2; have HA := Lib.hid happ; have HO2 := Lib.hid (And.intro hown hb2); have HT := Lib.hid (And.intro hcan hmem); clear ho hcan hmem happ hown hb2)
    | (at_builtin; refine wpList_append_run rfl _ _ 23 rfl rfl _ _ _ _ rfl rfl HA.out ?_))
  obtain ⟨N, hN⟩ : ∃ N, N = t.length := ⟨_, rfl⟩
  rw [← hN] at HO2 hsm ⊢
  have hrow : RowG w2 P2 (N + 1) (t ++ [(1114112, 0)]) := by
    obtain ⟨A', c', e, h, _⟩ := rowG_of_own HO2.out.1 (by simp [hN])
    injection e with e1 _ _
    rw [e1]
    exact h
  have HR := Lib.hid hrow
  have HN := Lib.hid hN
  clear hrow hN HA
  go_loopw [3, 4, 13] (fun vo vl vi wr => ∃ (k m pc3 : Nat) (P3 : Option Addr) (L : Int) (u : List (Int × Int)), vo = .slice P3 m pc3 ∧ vl = .int .i64 L ∧ vi = .int .i64 (k : Int) ∧ k ≤ N + 1 ∧ m ≤ k ∧ Hid (wr.ownsRow w2.heap.size 42 2 (.slice P3 m pc3) m (cellsG u) ∧ Below w2.heap.size w2 wr ∧ (k ≤ N → Gap t k L u) ∧ (k = N + 1 → Canon u ∧ ∀ r, hasL u r = (inR r && !hasL t r)))) (fun _ _ vi _ => N + 1 - (intOf vi).toNat)
  case atStart => exact ⟨0, 0, 0, none, 0, [], rfl, rfl, rfl, Nat.zero_le _, Nat.le_refl _, Lib.hid ⟨nilG _ _, Below.refl _ _, fun _ => gap_zero HT.out.1, fun h => by omega⟩⟩
  case round =>
    obtain ⟨k, m, pc3, P3, L, u, rfl, rfl, rfl, hk, hm, HO⟩ := hrel
    by_cases hlt : k < N + 1
    · obtain ⟨b, o, rfl, hbw, hc⟩ := HR.out.2 (by omega)
      obtain ⟨c0, c1'⟩ := hc k hlt
      have d0 := (HO.out.2.1.cell (p := ⟨b, o + k * 2, none⟩) hbw).trans c0
      have d1 := (HO.out.2.1.cell (p := ⟨b, o + k * 2 + 1, none⟩) hbw).trans c1'
      have hal := (Below.refl wr.heap.size wr).alloc (Nat.le_refl _)
      have HG := Lib.hid (HO.out.2.2.1 (by omega))
      by_cases hkN : k < N
      · have hgd : (t ++ [(1114112, 0)]).getD k (0, 0) = t.getD k (0, 0) := by
          have := HN.out
          rw [List.getD, List.getD, List.getElem?_append_left (by omega)]
        rw [hgd] at d0 d1
        obtain ⟨p, hp⟩ : ∃ p, p = t.getD k (0, 0) := ⟨_, rfl⟩
        rw [← hp] at d0 d1
        obtain ⟨x, y⟩ := p
        have hkt : k < t.length := by rw [← HN.out]; exact hkN
        obtain ⟨x1, x2, x3, _⟩ := gap_head HG.out hkt hp
        have hL0 := HG.out.1
        clear hc c0 c1' hgd
        dsimp only at d0 d1
        have HALL := Lib.hid (hal (.cells #[.int .i64 x, .int .i64 y] 42))
        clear hal
        by_cases hLx : L < x
        · have hh := gap_push HG.out hkt hp hLx
          have hb3 := HALL.out
          obtain ⟨P', pc', w', happ, hown, hbel, hst⟩ := push_keep (ownG_kept HO.out.1 hb3) [(L, x - 1)] (by omega) (by simp) (then_ HO.out.2.1 hb3)
          have d2 : w'.cell? ⟨wr.heap.size, 1, none⟩ = some (.int .i64 y) := by
            rw [cell_of_row w' wr.heap.size 1 #[.int .i64 x, .int .i64 y] 42 (0, 0) ((hst _ (by simp) (fun e => by have := (row_lt HO.out.1 e).2; omega)).trans (heap_alloc_new wr _))]
            rfl
          rw [show (wr.alloc (.cells #[.int .i64 x, .int .i64 y] 42)).heap.size = wr.heap.size + 1 by simp] at happ
          have HA := Lib.hid happ
          have H2 := Lib.hid (And.intro hown (And.intro hbel hh))
          clear happ hown hbel hb3 hh hp hkt hst
          go_wp2_with (at_builtin; refine wpList_append_run rfl _ _ 23 rfl rfl _ _ _ _ rfl rfl HA.out ?_)
          exact ⟨⟨k + 1, m + 1, pc', P', y + 1, _, rfl, by go_num, by go_num, by omega, by omega, Lib.hid ⟨H2.out.1, H2.out.2.1, fun _ => H2.out.2.2, fun h => by omega⟩⟩, by first | (simp [intOf]; omega) | simp [intOf]⟩
        · have hh := gap_skip HG.out hkt hp hLx
          have hb3 := HALL.out
          have H2 := Lib.hid (And.intro (ownG_kept HO.out.1 hb3) (And.intro (then_ HO.out.2.1 hb3) hh))
          clear hb3 hh hp hkt
          go_wp2
          exact ⟨⟨k + 1, m, pc3, P3, y + 1, _, rfl, by go_num, by go_num, by omega, by omega, Lib.hid ⟨H2.out.1, H2.out.2.1, fun _ => H2.out.2.2, fun h => by omega⟩⟩, by first | (simp [intOf]; omega) | simp [intOf]⟩
      · have hkN2 : k = N := by omega
        subst hkN2
        have hgd : (t ++ [(1114112, 0)]).getD k (0, 0) = (1114112, 0) := by
          rw [HN.out]
          simp [List.getD]
        rw [hgd] at d0 d1
        clear hc c0 c1' hgd
        dsimp only at d0 d1
        have hL0 := HG.out.1
        have hgt : Gap t t.length L u := by have h := HG.out; rwa [HN.out] at h
        have HALL := Lib.hid (hal (.cells #[.int .i64 1114112, .int .i64 0] 42))
        clear hal
        by_cases hLx : L < 1114112
        · have hh := gap_last hgt hLx
          have hb3 := HALL.out
          obtain ⟨P', pc', w', happ, hown, hbel, hst⟩ := push_keep (ownG_kept HO.out.1 hb3) [(L, 1114111)] (by omega) (by simp) (then_ HO.out.2.1 hb3)
          have d2 : w'.cell? ⟨wr.heap.size, 1, none⟩ = some (.int .i64 0) := by
            rw [cell_of_row w' wr.heap.size 1 #[.int .i64 1114112, .int .i64 0] 42 (0, 0) ((hst _ (by simp) (fun e => by have := (row_lt HO.out.1 e).2; omega)).trans (heap_alloc_new wr _))]
            rfl
          rw [show (wr.alloc (.cells #[.int .i64 1114112, .int .i64 0] 42)).heap.size = wr.heap.size + 1 by simp] at happ
          have HA := Lib.hid happ
          have H2 := Lib.hid (And.intro hown (And.intro hbel hh))
          clear happ hown hbel hb3 hh hgt hst
          go_wp2_with (at_builtin; refine wpList_append_run rfl _ _ 23 rfl rfl _ _ _ _ rfl rfl HA.out ?_)
          exact ⟨⟨k + 1, m + 1, pc', P', 1, _, rfl, by go_num, by go_num, by omega, by omega, Lib.hid ⟨H2.out.1, H2.out.2.1, fun h => by omega, fun _ => H2.out.2.2⟩⟩, by first | (simp [intOf]; omega) | simp [intOf]⟩
        · have hh := gap_none hgt hLx
          have hb3 := HALL.out
          have H2 := Lib.hid (And.intro (ownG_kept HO.out.1 hb3) (And.intro (then_ HO.out.2.1 hb3) hh))
          clear hb3 hh hgt
          go_wp2
          exact ⟨⟨k + 1, m, pc3, P3, 1, _, rfl, by go_num, by go_num, by omega, by omega, Lib.hid ⟨H2.out.1, H2.out.2.1, fun h => by omega, fun _ => H2.out.2.2⟩⟩, by first | (simp [intOf]; omega) | simp [intOf]⟩
    · have hkN : k = N + 1 := by omega
      subst hkN
      have HF := Lib.hid (HO.out.2.2.2 rfl)
      go_wp2
      go_ret
      have e : m = u.length := by have := HO.out.1.1; rw [cellsG_length] at this; omega
      subst e
      refine ⟨_, rfl, u, ⟨row_base HO.out.1 (fun j hj => Nat.le_trans HO2.out.2.size (row_lt HO.out.1 hj).1), HO2.out.2.trans (HO.out.2.1.mono HO2.out.2.size)⟩, HF.out.1, fun r => ?_⟩
      rw [HF.out.2 r, HT.out.2 r]
end Go.Proofs.YtajnedkjmgjjbaaDoor
/- The program's Named. -/
namespace Go.Proofs.YtajnedkjmgjjbaaDoor
open Go Go.RowKit
set_option linter.unusedVariables false
set_option maxRecDepth 20000
set_option linter.unusedSimpArgs false

/-- A letter's ranges. -/
def letterL (c : Int) : List (Int × Int) := if c = 119 then [(65, 90), (97, 122), (95, 95)] ++ [(48, 57)] else if c = 100 then [(48, 57)] else [(32, 32), (9, 13)]
theorem rowG_own {w : World} {B : Nat} {P : Option Addr} {q pc : Nat} {s : List (Int × Int)} (h : w.ownsRow B 42 2 (.slice P q pc) q (cellsG s)) : RowG w P q s := by
  obtain ⟨A', c', e, h, _⟩ := rowG_of_own h (by have := h.1; rw [cellsG_length] at this; omega)
  injection e with e1 _ _
  rw [e1]
  exact h

set_option maxHeartbeats 2000000 in
theorem named_small (c : Int) (hc : c = 119 ∨ c = 100 ∨ c = 115) (W : World) :
    Calls Tryd.prog 79 #[.int .u8 c] W fun e w' => ∃ V t, e = .returned (.tuple #[V, .bool true]) ∧ OutG W w' V t ∧ Canon t ∧ ∀ r, hasL t r = hasL (letterL c) r := by
  rcases hc with rfl | rfl | rfl
  · obtain ⟨P1, pc1, w1, ha1, ho1, hb1⟩ := push_rngs (nilG W W.heap.size) [(65, 90), (97, 122), (95, 95)] (by simp) (by simp) (Below.refl _ _)
    simp only [List.length_cons, List.length_nil, Nat.zero_add, Nat.reduceAdd, List.nil_append] at ha1 ho1
    obtain ⟨P2, pc2, w2, ha2, ho2, hb2⟩ := push_rngs ho1 [(48, 57)] (by simp) (by simp) hb1
    simp only [List.length_cons, List.length_nil, Nat.zero_add, Nat.reduceAdd, List.nil_append] at ha2 ho2
    have HF := Lib.hid (of_any _ _ _ pc2 _ (rowG_own ho2) (by simp))
    have HA1 := Lib.hid ha1
    have HA2 := Lib.hid ha2
    have HB := Lib.hid hb2
    clear ha1 ho1 hb1 ha2 ho2 hb2
    go_enter Tryd.func79, Tryd.ntmps79
    go_wp2_with (first
      | (at_builtin; refine wpList_append_run rfl _ _ 23 rfl rfl _ _ _ _ rfl rfl HA1.out ?_)
      | (at_builtin; refine wpList_append_run rfl _ _ 23 rfl rfl _ _ _ _ rfl rfl HA2.out ?_)
      | (go_at_call 75; refine HF.out.mono ?_; rintro e w3 ⟨V, t, rfl, ho, hcan, hmem⟩; have HO := Lib.hid (And.intro ho (And.intro hcan hmem)); clear ho hcan hmem))
    go_ret2
    exact ⟨V, t, rfl, ⟨row_base HO.out.1.1 (fun j hj => Nat.le_trans HB.out.size (row_lt HO.out.1.1 hj).1), then_ HB.out HO.out.1.2⟩, HO.out.2.1, fun r => HO.out.2.2 r⟩
  · obtain ⟨P1, pc1, w1, ha1, ho1, hb1⟩ := push_rngs (nilG W W.heap.size) [(48, 57)] (by simp) (by simp) (Below.refl _ _)
    simp only [List.length_cons, List.length_nil, Nat.zero_add, Nat.reduceAdd, List.nil_append] at ha1 ho1
    have HF := Lib.hid (of_any _ _ _ pc1 _ (rowG_own ho1) (by simp))
    have HA1 := Lib.hid ha1
    have HB := Lib.hid hb1
    clear ha1 ho1 hb1
    go_enter Tryd.func79, Tryd.ntmps79
    go_wp2_with (first
      | (at_builtin; refine wpList_append_run rfl _ _ 23 rfl rfl _ _ _ _ rfl rfl HA1.out ?_)
      | (go_at_call 75; refine HF.out.mono ?_; rintro e w3 ⟨V, t, rfl, ho, hcan, hmem⟩; have HO := Lib.hid (And.intro ho (And.intro hcan hmem)); clear ho hcan hmem))
    go_ret2
    exact ⟨V, t, rfl, ⟨row_base HO.out.1.1 (fun j hj => Nat.le_trans HB.out.size (row_lt HO.out.1.1 hj).1), then_ HB.out HO.out.1.2⟩, HO.out.2.1, fun r => HO.out.2.2 r⟩
  · obtain ⟨P1, pc1, w1, ha1, ho1, hb1⟩ := push_rngs (nilG W W.heap.size) [(32, 32), (9, 13)] (by simp) (by simp) (Below.refl _ _)
    simp only [List.length_cons, List.length_nil, Nat.zero_add, Nat.reduceAdd, List.nil_append] at ha1 ho1
    have HF := Lib.hid (of_any _ _ _ pc1 _ (rowG_own ho1) (by simp))
    have HA1 := Lib.hid ha1
    have HB := Lib.hid hb1
    clear ha1 ho1 hb1
    go_enter Tryd.func79, Tryd.ntmps79
    go_wp2_with (first
      | (at_builtin; refine wpList_append_run rfl _ _ 23 rfl rfl _ _ _ _ rfl rfl HA1.out ?_)
      | (go_at_call 75; refine HF.out.mono ?_; rintro e w3 ⟨V, t, rfl, ho, hcan, hmem⟩; have HO := Lib.hid (And.intro ho (And.intro hcan hmem)); clear ho hcan hmem))
    go_ret2
    exact ⟨V, t, rfl, ⟨row_base HO.out.1.1 (fun j hj => Nat.le_trans HB.out.size (row_lt HO.out.1.1 hj).1), then_ HB.out HO.out.1.2⟩, HO.out.2.1, fun r => HO.out.2.2 r⟩

set_option maxHeartbeats 2000000 in
theorem named_big (c d : Int) (hc : c = 87 ∧ d = 119 ∨ c = 68 ∧ d = 100 ∨ c = 83 ∧ d = 115) (W : World) :
    Calls Tryd.prog 79 #[.int .u8 c] W fun e w' => ∃ V t, e = .returned (.tuple #[V, .bool true]) ∧ OutG W w' V t ∧ Canon t ∧ ∀ r, hasL t r = (inR r && !hasL (letterL d) r) := by
  have hs := named_small d (by omega) W
  rcases hc with ⟨rfl, rfl⟩ | ⟨rfl, rfl⟩ | ⟨rfl, rfl⟩
  all_goals
    have HS := Lib.hid hs
    clear hs
    go_enter Tryd.func79, Tryd.ntmps79
    go_wp2_with (first
      | (go_at_call 79; refine HS.out.mono ?_; rintro e w1 ⟨V1, u, rfl, ho, hcan, hmem⟩; obtain ⟨A1, c1, rfl, hi, hsm⟩ := canon_out ho hcan; have HM := Lib.hid (And.intro ho.2 hmem); have HN := Lib.hid (not_any u A1 u.length c1 w1 hi.1 (by omega)); clear ho hcan hmem hi)
      | (go_at_call 71; refine HN.out.mono ?_; rintro e w2 ⟨V, t, rfl, ho, hcan, hmem⟩; have HO := Lib.hid (And.intro ho (And.intro hcan hmem)); clear ho hcan hmem))
    go_ret2
    exact ⟨V, t, rfl, ⟨row_base HO.out.1.1 (fun j hj => Nat.le_trans HM.out.1.size (row_lt HO.out.1.1 hj).1), then_ HM.out.1 HO.out.1.2⟩, HO.out.2.1, fun r => by rw [HO.out.2.2 r, HM.out.2 r]⟩

theorem named_other (c : Int) (h0 : 0 ≤ c) (h1 : c < 256) (h2 : c ≠ 119 ∧ c ≠ 100 ∧ c ≠ 115 ∧ c ≠ 87 ∧ c ≠ 68 ∧ c ≠ 83) (W : World) :
    Calls Tryd.prog 79 #[.int .u8 c] W fun e w' => e = .returned (.tuple #[.slice none 0 0, .bool false]) ∧ W = w' := by
  obtain ⟨n1, n2, n3, n4, n5, n6⟩ := h2
  go_enter Tryd.func79, Tryd.ntmps79
  go_wp2
  go_ret2
  exact ⟨rfl, rfl⟩

theorem letter_word (r : Int) : hasL (letterL 119) r = (inR r && wordL r) := by
  unfold letterL inR wordL digitL
  rw [if_pos rfl, hasL_append]
  simp only [hasL_cons, hasL_nil, Bool.or_false, Bool.beq_eq_decide_eq, ← Bool.decide_or, ← Bool.decide_and]
  apply decide_eq_decide.2
  omega
theorem letter_digit (r : Int) : hasL (letterL 100) r = (inR r && digitL r) := by
  unfold letterL inR digitL
  rw [if_neg (by decide), if_pos rfl]
  simp only [hasL_cons, hasL_nil, Bool.or_false, ← Bool.decide_or, ← Bool.decide_and]
  apply decide_eq_decide.2
  omega
theorem letter_space (r : Int) : hasL (letterL 115) r = (inR r && spaceL r) := by
  unfold letterL inR spaceL
  rw [if_neg (by decide), if_neg (by decide)]
  rw [show (r == 32) = decide (r = 32) from rfl]
  simp only [hasL_cons, hasL_nil, Bool.or_false, ← Bool.decide_or, ← Bool.decide_and]
  apply decide_eq_decide.2
  omega

theorem named_any (w : World) (c : Int) (h0 : 0 ≤ c) (h1 : c < 256) :
    Calls Tryd.prog 79 #[.int .u8 c] w fun e w' => ∃ V t, e = .returned (.tuple #[V, .bool (namedL c 0).2]) ∧ OutG w w' V t ∧ Canon t ∧ ((namedL c 0).2 = false → t = []) ∧ ((namedL c 0).2 = true → ∀ r, hasL t r = (inR r && (namedL c r).1)) := by
  by_cases e1 : c = 100
  · subst e1
    exact (named_small 100 (by omega) w).mono fun e w' ⟨V, t, he, ho, hc, hm⟩ => ⟨V, t, he, ho, hc, fun h => (by cases h), fun _ r => (hm r).trans (letter_digit r)⟩
  by_cases e2 : c = 119
  · subst e2
    exact (named_small 119 (by omega) w).mono fun e w' ⟨V, t, he, ho, hc, hm⟩ => ⟨V, t, he, ho, hc, fun h => (by cases h), fun _ r => (hm r).trans (letter_word r)⟩
  by_cases e3 : c = 115
  · subst e3
    exact (named_small 115 (by omega) w).mono fun e w' ⟨V, t, he, ho, hc, hm⟩ => ⟨V, t, he, ho, hc, fun h => (by cases h), fun _ r => (hm r).trans (letter_space r)⟩
  by_cases e4 : c = 68
  · subst e4
    refine (named_big 68 100 (by omega) w).mono fun e w' ⟨V, t, he, ho, hc, hm⟩ => ⟨V, t, he, ho, hc, fun h => (by cases h), fun _ r => (hm r).trans ?_⟩
    rw [letter_digit r, show (namedL 68 r).1 = !digitL r from rfl]
    cases inR r <;> simp
  by_cases e5 : c = 87
  · subst e5
    refine (named_big 87 119 (by omega) w).mono fun e w' ⟨V, t, he, ho, hc, hm⟩ => ⟨V, t, he, ho, hc, fun h => (by cases h), fun _ r => (hm r).trans ?_⟩
    rw [letter_word r, show (namedL 87 r).1 = !wordL r from rfl]
    cases inR r <;> simp
  by_cases e6 : c = 83
  · subst e6
    refine (named_big 83 115 (by omega) w).mono fun e w' ⟨V, t, he, ho, hc, hm⟩ => ⟨V, t, he, ho, hc, fun h => (by cases h), fun _ r => (hm r).trans ?_⟩
    rw [letter_space r, show (namedL 83 r).1 = !spaceL r from rfl]
    cases inR r <;> simp
  have hf : (namedL c 0).2 = false := by
    unfold namedL
    rw [if_neg e1, if_neg e2, if_neg e3, if_neg e4, if_neg e5, if_neg e6]
  rw [hf]
  exact (named_other c h0 h1 ⟨e2, e1, e3, e5, e4, e6⟩ w).mono fun e w' ⟨he, hw⟩ => ⟨_, [], he, by subst hw; exact ⟨nilG _ _, Below.refl _ _⟩, trivial, fun _ => rfl, fun h => (by cases h)⟩
end Go.Proofs.YtajnedkjmgjjbaaDoor
/- The document's examples of package parse. -/
namespace Go.Proofs.YtajnedkjmgjjbaaDoor
open Go Go.RowKit
set_option linter.unusedVariables false
set_option maxRecDepth 20000

/-- What the program's set answers. -/
theorem facesS : FacesS where
  of w A n c s h hn := of_any s A n c w h (by omega)
  no w A n c s h hn := not_any s A n c w h (by omega)
  named w c h0 h1 := named_any w c h0 h1
  noName c h0 h1 h w := named_other c h0 h1 h w

def awakeT : Wood := .cons 5 [] 0 0 (.cons 1 [(97, 97)] 0 0 .nil (.cons 6 [] 0 (-1) (.cons 1 [(98, 98)] 0 0 .nil .nil) .nil)) .nil
theorem awake_tree : parseT ⟨#[97, 124, 98, 42]⟩ = some awakeT := by kernel_rfl
theorem awake_none : parseT ⟨#[97, 42, 42]⟩ = none := by kernel_rfl
theorem itoa_two {a b : Nat} (ha : 0 < a) (ha2 : a < 10) (hb : b < 10) : Lib.itoa ((10 * a + b : Nat) : Int) = [UInt8.ofNat (48 + a), UInt8.ofNat (48 + b)] := by
  unfold Lib.itoa
  rw [if_neg (by omega)]
  rw [show (((10 * a + b : Nat) : Int)).toNat = 10 * a + b by omega, decDigits_big (by omega), decDigits_small (u := (10 * a + b) / 10) (by omega), decDigits_small (u := (10 * a + b) % 10) (by omega), show (10 * a + b) / 10 = a by omega, show (10 * a + b) % 10 = b by omega]
  rfl
theorem awake_show : oneB awakeT = ⟨#[97, 108, 116, 40, 99, 104, 97, 114, 123, 57, 55, 125, 44, 114, 101, 112, 123, 48, 32, 45, 49, 125, 40, 99, 104, 97, 114, 123, 57, 56, 125, 41, 41]⟩ := by
  have d1 : digB 97 = ⟨#[57, 55]⟩ := by unfold digB; rw [show (97 : Int) = ((10 * 9 + 7 : Nat) : Int) from rfl, itoa_two (by decide) (by decide) (by decide)]; rfl
  have d2 : digB 98 = ⟨#[57, 56]⟩ := by unfold digB; rw [show (98 : Int) = ((10 * 9 + 8 : Nat) : Int) from rfl, itoa_two (by decide) (by decide) (by decide)]; rfl
  have d3 : digB 0 = ⟨#[48]⟩ := by unfold digB Lib.itoa; rw [if_neg (by decide), decDigits_small (by decide)]; rfl
  have d4 : digB (-1) = ⟨#[45, 49]⟩ := by unfold digB Lib.itoa; rw [if_pos (by decide), decDigits_small (by decide)]; rfl
  show nodeB 5 [] 0 0 (joinB (strB [44]) [nodeB 1 [(97, 97)] 0 0 ByteArray.empty, nodeB 6 [] 0 (-1) (joinB (strB [44]) [nodeB 1 [(98, 98)] 0 0 ByteArray.empty])]) = _
  unfold nodeB
  simp only [setB, List.map, joinB, rngB, d1, d2, d3, d4]
  rfl

theorem parse_some {s : ByteArray} {T : Wood} (h : parseT s = some T) (hs : s.size ≤ 200) (w : World) :
    Calls Tryd.prog 9 #[.string s] w fun e w' => ∃ x : NV, e = .returned (.tuple #[x.val, .int .i64 0]) ∧ NodesIn (fun b => w.heap.size ≤ b) w' [x] T ∧ Below w.heap.size w w' := by
  refine (parse_any facesS s w).mono fun e w' hv => ?_
  obtain ⟨hb, ⟨h2, _⟩ | ⟨_, h2, _⟩ | ⟨x, n, _, h2, he, hN⟩⟩ := hv
  · omega
  · rw [h] at h2; cases h2
  · rw [h] at h2
    injection h2 with h2
    subst h2
    exact ⟨x, he, hN, hb⟩
theorem parse_no {s : ByteArray} (h : parseT s = none) (hs : s.size ≤ 200) (w : World) :
    Calls Tryd.prog 9 #[.string s] w fun e w' => e = .returned (.tuple #[zeroNV.val, .int .i64 15]) ∧ Below w.heap.size w w' := by
  refine (parse_any facesS s w).mono fun e w' hv => ?_
  obtain ⟨hb, ⟨h2, _⟩ | ⟨_, _, he⟩ | ⟨x, n, _, h2, he, hN⟩⟩ := hv
  · omega
  · exact ⟨he, hb⟩
  · rw [h] at h2; cases h2
theorem NodesIn.below {F : Nat → Prop} {w w' : World} {xs : List NV} {T : Wood} (h : NodesIn F w xs T) (hb : Below w.heap.size w w') : NodesIn F w' xs T := h.move hb.size fun b hF hlt => ⟨hF, hb.block b hlt⟩
theorem NodesIn.one' {F : Nat → Prop} {w : World} {x : NV} {T : Wood} (h : NodesIn F w [x] T) : NodeIn F w (.agg #[.int .i64 x.op, .slice x.A x.ns x.cs, .int .i64 x.mn, .int .i64 x.mx, .slice x.D x.nk x.ck]) T := h.one
theorem awake_wf : WfW awakeT := by
  have i : ∀ n : Int, -1000 ≤ n ∧ n ≤ 1000 → In64 n := fun n h => by unfold In64; omega
  have e : ∀ p ∈ ([] : List (Int × Int)), In64 p.1 ∧ In64 p.2 := fun p hp => by cases hp
  have c : ∀ k : Int, -1000 ≤ k ∧ k ≤ 1000 → ∀ p ∈ [(k, k)], In64 p.1 ∧ In64 p.2 := fun k hk p hp => by
    rw [List.mem_singleton] at hp; subst hp; exact ⟨i _ hk, i _ hk⟩
  exact ⟨⟨i _ (by decide), i _ (by decide), i _ (by decide), e⟩, ⟨⟨i _ (by decide), i _ (by decide), i _ (by decide), c _ (by decide)⟩, trivial, ⟨i _ (by decide), i _ (by decide), i _ (by decide), e⟩, ⟨⟨i _ (by decide), i _ (by decide), i _ (by decide), c _ (by decide)⟩, trivial, trivial⟩, trivial⟩, trivial⟩
set_option maxHeartbeats 2000000 in
theorem awake_any (w : World) (ht : Tab w.heap.size w) : Calls Tryd.prog 8 #[] w fun e w' => e = .returned (.bool true) ∧ Below w.heap.size w w' := by
  have HP1 := Lib.hid (parse_some awake_tree (by decide) w)
  have HP2 := Lib.hid fun w => parse_no awake_none (by decide) w
  have HTB := Lib.hid ht
  have hsh := awake_show
  obtain ⟨R, hR⟩ : ∃ R, R = oneB awakeT := ⟨_, rfl⟩
  rw [← hR] at hsh
  have HR := Lib.hid hR
  subst hsh
  clear hR ht
  go_enter Tryd.func8, Tryd.ntmps8
  go_wp2_with (first
    | (go_at_call 9; (with_reducible refine HP1.out.mono ?_); rintro e w1 ⟨x, rfl, hN, hb⟩; have H1 := Lib.hid (And.intro hN hb); clear hN hb; simp only [NV.val])
    | (go_at_call 9; (with_reducible refine (HP2.out _).mono ?_); rintro e w2 ⟨rfl, hb⟩; have hb2 : Below w.heap.size w w2 := (H1.out.2.alloc H1.out.2.size (.cells #[.int .i64 x.op, .slice x.A x.ns x.cs, .int .i64 x.mn, .int .i64 x.mx, .slice x.D x.nk x.ck] 26)).trans (hb.mono (Nat.le_trans H1.out.2.size (by simp))); have hbx : w2.heap[w1.heap.size]? = _ := (hb.block _ (by simp)).trans (heap_alloc_new w1 (.cells #[.int .i64 x.op, .slice x.A x.ns x.cs, .int .i64 x.mn, .int .i64 x.mx, .slice x.D x.nk x.ck] 26)); have H2 := Lib.hid (And.intro hb2 (H1.out.1.below (((Below.refl _ _).alloc (Nat.le_refl _) (.cells #[.int .i64 x.op, .slice x.A x.ns x.cs, .int .i64 x.mn, .int .i64 x.mx, .slice x.D x.nk x.ck] 26)).trans (hb.mono (by simp))))); obtain ⟨p0, p1, p2, p3, p4, _⟩ := box_facts hbx; have up := fun (j : Nat) (v : Value) (h : w2.cell? ⟨w1.heap.size, j, none⟩ = some v) => (((Below.refl w2.heap.size w2).alloc (Nat.le_refl _) (.cells #[.int .i64 0, .slice none 0 0, .int .i64 0, .int .i64 0, .slice none 0 0] 26)).cell (p := ⟨w1.heap.size, j, none⟩) (Nat.lt_of_lt_of_le (by simp) hb.size)).trans h; have d0 := up _ _ p0; have d1 := up _ _ p1; have d2 := up _ _ p2; have d3 := up _ _ p3; have d4 := up _ _ p4; clear hb2 hbx hb up; simp only [zeroNV, NV.val])
    | (go_at_call 13; (with_reducible refine (pshow_any awakeT (fun b => w.heap.size ≤ b) _ _ ((H2.out.2.below ((Below.refl _ _).alloc (Nat.le_refl _) (.cells #[.int .i64 0, .slice none 0 0, .int .i64 0, .int .i64 0, .slice none 0 0] 26))).one') awake_wf (by decide) ((HTB.out.on (H2.out.1.alloc H2.out.1.size (.cells #[.int .i64 0, .slice none 0 0, .int .i64 0, .int .i64 0, .slice none 0 0] 26))).up (Nat.le_trans H2.out.1.size (by simp)))).mono ?_); rintro e w3 ⟨rfl, hb⟩; rw [← HR.out]; have H3 := Lib.hid hb; clear hb))
  go_ret
  exact ⟨rfl, (H2.out.1.alloc H2.out.1.size _).trans (H3.out.mono (Nat.le_trans H2.out.1.size (by simp)))⟩
end Go.Proofs.YtajnedkjmgjjbaaDoor
