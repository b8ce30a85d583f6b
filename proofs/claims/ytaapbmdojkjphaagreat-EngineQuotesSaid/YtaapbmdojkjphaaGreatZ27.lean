/- Texts. -/
import Derived.Test.YtaapbmdojkjphaaGreatZ01
import Derived.Test.YtaapbmdojkjphaaGreatZ02
import Derived.Test.YtaapbmdojkjphaaGreatZ03
import Derived.Test.YtaapbmdojkjphaaGreatZ05
import Derived.Test.YtaapbmdojkjphaaGreatZ11
import Derived.Test.YtaapbmdojkjphaaGreatZ23
import Derived.Test.YtaapbmdojkjphaaGreatZ26
import Derived.Lib.MinMax
import Derived.BigQuiet
import Derived.BigRegion
namespace Go.Proofs.YtaapbmdojkjphaaGreat
open Go Go.RowKit
set_option linter.unusedVariables false
set_option maxRecDepth 20000
def Gap (t : List (Int × Int)) (k : Nat) (L : Int) (u : List (Int × Int)) : Prop :=
  0 ≤ L ∧ L ≤ 1114112 ∧ CanonF L (t.drop k) ∧ Canon u ∧ endL 0 u ≤ L ∧ (∀ r, hasL u r = (decide (0 ≤ r ∧ r < L) && !hasL (t.take k) r)) ∧ ∀ r, hasL (t.take k) r = true → r < L
theorem gap_zero {t : List (Int × Int)} (h : Canon t) : Gap t 0 0 [] := by
  refine ⟨Int.le_refl _, by decide, h, trivial, Int.le_refl _, fun r => ?_, fun r hr => by cases hr⟩
  rw [hasL_nil, decide_eq_false (by omega), Bool.false_and]
section
variable {t u : List (Int × Int)} {k : Nat} {L x y : Int}
theorem gap_head (h : Gap t k L u) (hk : k < t.length) (hp : (x, y) = t.getD k (0, 0)) : L ≤ x ∧ x ≤ y ∧ y ≤ 1114111 ∧ CanonF (y + 2) (t.drop (k + 1)) := by
  have hd : t.drop k = (x, y) :: t.drop (k + 1) := by
    rw [List.drop_eq_getElem_cons hk, hp, getD_in k hk]
  have := h.2.2.1
  rw [hd] at this
  exact this
theorem gap_take (hk : k < t.length) (hp : (x, y) = t.getD k (0, 0)) (r : Int) : hasL (t.take (k + 1)) r = (hasL (t.take k) r || decide (x ≤ r ∧ r ≤ y ∧ 0 ≤ r ∧ r ≤ 1114111)) := by
  rw [take_snoc hk, ← hp, hasL_append, hasL_cons, hasL_nil, Bool.or_false]
theorem gap_push (h : Gap t k L u) (hk : k < t.length) (hp : (x, y) = t.getD k (0, 0)) (hL : L < x) : Gap t (k + 1) (y + 1) (u ++ [(L, x - 1)]) := by
  obtain ⟨h1, h2, h3, h4⟩ := gap_head h hk hp
  obtain ⟨g1, g2, g3, g4, g5, g6, g7⟩ := h
  refine ⟨by omega, by omega, h4.mono (by omega), (canonF_snoc _ u 0).2 ⟨g4, g5, by dsimp only; omega, by dsimp only; omega⟩, by rw [endL_snoc]; dsimp only; omega, fun r => ?_, fun r hr => ?_⟩
  · rw [gap_take hk hp, hasL_append, g6 r, hasL_cons, hasL_nil, Bool.or_false]
    cases ht : hasL (t.take k) r with
    | true =>
      have := g7 r ht
      simp
      omega
    | false =>
      rw [Bool.not_false, Bool.and_true, Bool.false_or, ← decide_not, ← Bool.decide_or, ← Bool.decide_and]
      apply decide_eq_decide.2
      dsimp only
      omega
  · rw [gap_take hk hp, Bool.or_eq_true] at hr
    rcases hr with hr | hr
    · have := g7 r hr; omega
    · have := of_decide_eq_true hr; omega
theorem gap_skip (h : Gap t k L u) (hk : k < t.length) (hp : (x, y) = t.getD k (0, 0)) (hL : ¬ L < x) : Gap t (k + 1) (y + 1) u := by
  obtain ⟨h1, h2, h3, h4⟩ := gap_head h hk hp
  obtain ⟨g1, g2, g3, g4, g5, g6, g7⟩ := h
  refine ⟨by omega, by omega, h4.mono (by omega), g4, by omega, fun r => ?_, fun r hr => ?_⟩
  · rw [gap_take hk hp, g6 r]
    cases ht : hasL (t.take k) r with
    | true =>
      have := g7 r ht
      simp
    | false =>
      rw [Bool.not_false, Bool.and_true, Bool.false_or, ← decide_not, ← Bool.decide_and]
      apply decide_eq_decide.2
      omega
  · rw [gap_take hk hp, Bool.or_eq_true] at hr
    rcases hr with hr | hr
    · have := g7 r hr; omega
    · have := of_decide_eq_true hr; omega
theorem gap_last (h : Gap t t.length L u) (hL : L < 1114112) : Canon (u ++ [(L, 1114111)]) ∧ ∀ r, hasL (u ++ [(L, 1114111)]) r = (inR r && !hasL t r) := by
  obtain ⟨g1, g2, g3, g4, g5, g6, g7⟩ := h
  rw [List.take_length] at g6 g7
  refine ⟨(canonF_snoc _ u 0).2 ⟨g4, g5, by dsimp only; omega, by dsimp only; omega⟩, fun r => ?_⟩
  rw [hasL_append, g6 r, hasL_cons, hasL_nil, Bool.or_false]
  unfold inR
  cases ht : hasL t r with
  | true =>
    have := g7 r ht
    simp
    omega
  | false =>
    rw [Bool.not_false, Bool.and_true, Bool.and_true, ← Bool.decide_or]
    apply decide_eq_decide.2
    dsimp only
    omega
theorem gap_none (h : Gap t t.length L u) (hL : ¬ L < 1114112) : Canon u ∧ ∀ r, hasL u r = (inR r && !hasL t r) := by
  obtain ⟨g1, g2, g3, g4, g5, g6, g7⟩ := h
  rw [List.take_length] at g6 g7
  refine ⟨g4, fun r => ?_⟩
  rw [g6 r]
  congr 1
  unfold inR
  apply decide_eq_decide.2
  omega
end
set_option maxHeartbeats 4000000 in
theorem not_any (s : List (Int × Int)) (A : Option Addr) (n c : Nat) (W : World) (hin : RowG W A n s) (hn : n ≤ 2000000) :
    Calls Tryz.prog 142 #[.slice A n c] W fun e w' => ∃ V t, e = .returned V ∧ OutG W w' V t ∧ Canon t ∧ ∀ r, hasL t r = (inR r && !hasL s r) := by
  have HC := Lib.hid (of_any s A n c W hin hn)
  clear hin
  go_enter Tryz.func142, Tryz.ntmps142
  go_wp2_with (first
    | (go_at_call 107; refine HC.out.mono ?_; rintro e w1 ⟨V, t, rfl, ho, hcan, hmem⟩; obtain ⟨A1, c1, rfl, _, hsm⟩ := canon_out ho hcan; obtain ⟨P2, pc2, w2, happ, hown, hb2⟩ := push_rngs ho.1 [(1114112, 0)] (by omega) (by simp) ho.2; have HA := Lib.hid happ; have HO2 := Lib.hid (And.intro hown hb2); have HT := Lib.hid (And.intro hcan hmem); clear ho hcan hmem happ hown hb2)
    | (at_builtin; refine wpList_append_run rfl _ _ 24 rfl rfl _ _ _ _ rfl rfl HA.out ?_))
  obtain ⟨N, hN⟩ : ∃ N, N = t.length := ⟨_, rfl⟩
  rw [← hN] at HO2 hsm ⊢
  have hrow : RowG w2 P2 (N + 1) (t ++ [(1114112, 0)]) := by
    obtain ⟨A', c', e, h, _⟩ := rowG_of_own HO2.out.1 (by simp [hN])
    injection e with e1 _ _
    rw [e1]
    exact h
  have HR := Lib.hid hrow
  have HN := Lib.hid hN
  clear hrow hN HA
  go_loopw [3, 4, 13] (fun vo vl vi wr => ∃ (k m pc3 : Nat) (P3 : Option Addr) (L : Int) (u : List (Int × Int)), vo = .slice P3 m pc3 ∧ vl = .int .i64 L ∧ vi = .int .i64 (k : Int) ∧ k ≤ N + 1 ∧ m ≤ k ∧ Hid (wr.ownsRow w2.heap.size 74 2 (.slice P3 m pc3) m (cellsG u) ∧ Below w2.heap.size w2 wr ∧ (k ≤ N → Gap t k L u) ∧ (k = N + 1 → Canon u ∧ ∀ r, hasL u r = (inR r && !hasL t r)))) (fun _ _ vi _ => N + 1 - (intOf vi).toNat)
  case atStart => exact ⟨0, 0, 0, none, 0, [], rfl, rfl, rfl, Nat.zero_le _, Nat.le_refl _, Lib.hid ⟨nilG _ _, Below.refl _ _, fun _ => gap_zero HT.out.1, fun h => by omega⟩⟩
  case round =>
    obtain ⟨k, m, pc3, P3, L, u, rfl, rfl, rfl, hk, hm, HO⟩ := hrel
    by_cases hlt : k < N + 1
    · obtain ⟨b, o, rfl, hbw, hc⟩ := HR.out.2 (by omega)
      obtain ⟨c0, c1'⟩ := hc k hlt
      have d0 := (HO.out.2.1.cell (p := ⟨b, o + k * 2, none⟩) hbw).trans c0
      have d1 := (HO.out.2.1.cell (p := ⟨b, o + k * 2 + 1, none⟩) hbw).trans c1'
      have hal := (Below.refl wr.heap.size wr).alloc (Nat.le_refl _)
      have HG := Lib.hid (HO.out.2.2.1 (by omega))
      by_cases hkN : k < N
      · have hgd : (t ++ [(1114112, 0)]).getD k (0, 0) = t.getD k (0, 0) := by
          have := HN.out
          rw [List.getD, List.getD, List.getElem?_append_left (by omega)]
        rw [hgd] at d0 d1
        obtain ⟨p, hp⟩ : ∃ p, p = t.getD k (0, 0) := ⟨_, rfl⟩
        rw [← hp] at d0 d1
        obtain ⟨x, y⟩ := p
        have hkt : k < t.length := by rw [← HN.out]; exact hkN
        obtain ⟨x1, x2, x3, _⟩ := gap_head HG.out hkt hp
        have hL0 := HG.out.1
        clear hc c0 c1' hgd
        dsimp only at d0 d1
        have HALL := Lib.hid (hal (.cells #[.int .i64 x, .int .i64 y] 74))
        clear hal
        by_cases hLx : L < x
        · have hh := gap_push HG.out hkt hp hLx
          have hb3 := HALL.out
          obtain ⟨P', pc', w', happ, hown, hbel, hst⟩ := push_keep (ownG_kept HO.out.1 hb3) [(L, x - 1)] (by omega) (by simp) (then_ HO.out.2.1 hb3)
          have d2 : w'.cell? ⟨wr.heap.size, 1, none⟩ = some (.int .i64 y) := by
            rw [cell_of_row w' wr.heap.size 1 #[.int .i64 x, .int .i64 y] 74 (0, 0) ((hst _ (by simp) (fun e => by have := (row_lt HO.out.1 e).2; omega)).trans (heap_alloc_new wr _))]
            rfl
          rw [show (wr.alloc (.cells #[.int .i64 x, .int .i64 y] 74)).heap.size = wr.heap.size + 1 by simp] at happ
          have HA := Lib.hid happ
          have H2 := Lib.hid (And.intro hown (And.intro hbel hh))
          clear happ hown hbel hb3 hh hp hkt hst
          go_wp2_with (at_builtin; refine wpList_append_run rfl _ _ 24 rfl rfl _ _ _ _ rfl rfl HA.out ?_)
          exact ⟨⟨k + 1, m + 1, pc', P', y + 1, _, rfl, by go_num, by go_num, by omega, by omega, Lib.hid ⟨H2.out.1, H2.out.2.1, fun _ => H2.out.2.2, fun h => by omega⟩⟩, by first | (simp [intOf]; omega) | simp [intOf]⟩
        · have hh := gap_skip HG.out hkt hp hLx
          have hb3 := HALL.out
          have H2 := Lib.hid (And.intro (ownG_kept HO.out.1 hb3) (And.intro (then_ HO.out.2.1 hb3) hh))
          clear hb3 hh hp hkt
          go_wp2
          exact ⟨⟨k + 1, m, pc3, P3, y + 1, _, rfl, by go_num, by go_num, by omega, by omega, Lib.hid ⟨H2.out.1, H2.out.2.1, fun _ => H2.out.2.2, fun h => by omega⟩⟩, by first | (simp [intOf]; omega) | simp [intOf]⟩
      · have hkN2 : k = N := by omega
        subst hkN2
        have hgd : (t ++ [(1114112, 0)]).getD k (0, 0) = (1114112, 0) := by
          rw [HN.out]
          simp [List.getD]
        rw [hgd] at d0 d1
        clear hc c0 c1' hgd
        dsimp only at d0 d1
        have hL0 := HG.out.1
        have hgt : Gap t t.length L u := by have h := HG.out; rwa [HN.out] at h
        have HALL := Lib.hid (hal (.cells #[.int .i64 1114112, .int .i64 0] 74))
        clear hal
        by_cases hLx : L < 1114112
        · have hh := gap_last hgt hLx
          have hb3 := HALL.out
          obtain ⟨P', pc', w', happ, hown, hbel, hst⟩ := push_keep (ownG_kept HO.out.1 hb3) [(L, 1114111)] (by omega) (by simp) (then_ HO.out.2.1 hb3)
          have d2 : w'.cell? ⟨wr.heap.size, 1, none⟩ = some (.int .i64 0) := by
            rw [cell_of_row w' wr.heap.size 1 #[.int .i64 1114112, .int .i64 0] 74 (0, 0) ((hst _ (by simp) (fun e => by have := (row_lt HO.out.1 e).2; omega)).trans (heap_alloc_new wr _))]
            rfl
          rw [show (wr.alloc (.cells #[.int .i64 1114112, .int .i64 0] 74)).heap.size = wr.heap.size + 1 by simp] at happ
          have HA := Lib.hid happ
          have H2 := Lib.hid (And.intro hown (And.intro hbel hh))
          clear happ hown hbel hb3 hh hgt hst
          go_wp2_with (at_builtin; refine wpList_append_run rfl _ _ 24 rfl rfl _ _ _ _ rfl rfl HA.out ?_)
          exact ⟨⟨k + 1, m + 1, pc', P', 1, _, rfl, by go_num, by go_num, by omega, by omega, Lib.hid ⟨H2.out.1, H2.out.2.1, fun h => by omega, fun _ => H2.out.2.2⟩⟩, by first | (simp [intOf]; omega) | simp [intOf]⟩
        · have hh := gap_none hgt hLx
          have hb3 := HALL.out
          have H2 := Lib.hid (And.intro (ownG_kept HO.out.1 hb3) (And.intro (then_ HO.out.2.1 hb3) hh))
          clear hb3 hh hgt
          go_wp2
          exact ⟨⟨k + 1, m, pc3, P3, 1, _, rfl, by go_num, by go_num, by omega, by omega, Lib.hid ⟨H2.out.1, H2.out.2.1, fun h => by omega, fun _ => H2.out.2.2⟩⟩, by first | (simp [intOf]; omega) | simp [intOf]⟩
    · have hkN : k = N + 1 := by omega
      subst hkN
      have HF := Lib.hid (HO.out.2.2.2 rfl)
      go_wp2
      go_ret
      have e : m = u.length := by have := HO.out.1.1; rw [cellsG_length] at this; omega
      subst e
      refine ⟨_, rfl, u, ⟨row_base HO.out.1 (fun j hj => Nat.le_trans HO2.out.2.size (row_lt HO.out.1 hj).1), HO2.out.2.trans (HO.out.2.1.mono HO2.out.2.size)⟩, HF.out.1, fun r => ?_⟩
      rw [HF.out.2 r, HT.out.2 r]
end Go.Proofs.YtaapbmdojkjphaaGreat
namespace Go.Proofs.YtaapbmdojkjphaaGreat
open Go Go.RowKit
set_option linter.unusedVariables false
set_option maxRecDepth 20000
set_option linter.unusedSimpArgs false
def letterL (c : Int) : List (Int × Int) := if c = 119 then [(65, 90), (97, 122), (95, 95)] ++ [(48, 57)] else if c = 100 then [(48, 57)] else [(32, 32), (9, 13)]
theorem rowG_own {w : World} {B : Nat} {P : Option Addr} {q pc : Nat} {s : List (Int × Int)} (h : w.ownsRow B 74 2 (.slice P q pc) q (cellsG s)) : RowG w P q s := by
  obtain ⟨A', c', e, h, _⟩ := rowG_of_own h (by have := h.1; rw [cellsG_length] at this; omega)
  injection e with e1 _ _
  rw [e1]
  exact h
set_option maxHeartbeats 2000000 in
theorem named_small (c : Int) (hc : c = 119 ∨ c = 100 ∨ c = 115) (W : World) :
    Calls Tryz.prog 154 #[.int .u8 c] W fun e w' => ∃ V t, e = .returned (.tuple #[V, .bool true]) ∧ OutG W w' V t ∧ Canon t ∧ ∀ r, hasL t r = hasL (letterL c) r := by
  rcases hc with rfl | rfl | rfl
  · obtain ⟨P1, pc1, w1, ha1, ho1, hb1⟩ := push_rngs (nilG W W.heap.size) [(65, 90), (97, 122), (95, 95)] (by simp) (by simp) (Below.refl _ _)
    simp only [List.length_cons, List.length_nil, Nat.zero_add, Nat.reduceAdd, List.nil_append] at ha1 ho1
    obtain ⟨P2, pc2, w2, ha2, ho2, hb2⟩ := push_rngs ho1 [(48, 57)] (by simp) (by simp) hb1
    simp only [List.length_cons, List.length_nil, Nat.zero_add, Nat.reduceAdd, List.nil_append] at ha2 ho2
    have HF := Lib.hid (of_any _ _ _ pc2 _ (rowG_own ho2) (by simp))
    have HA1 := Lib.hid ha1
    have HA2 := Lib.hid ha2
    have HB := Lib.hid hb2
    clear ha1 ho1 hb1 ha2 ho2 hb2
    go_enter Tryz.func154, Tryz.ntmps154
    go_wp2_with (first
      | (at_builtin; refine wpList_append_run rfl _ _ 24 rfl rfl _ _ _ _ rfl rfl HA1.out ?_)
      | (at_builtin; refine wpList_append_run rfl _ _ 24 rfl rfl _ _ _ _ rfl rfl HA2.out ?_)
      | (go_at_call 107; refine HF.out.mono ?_; rintro e w3 ⟨V, t, rfl, ho, hcan, hmem⟩; have HO := Lib.hid (And.intro ho (And.intro hcan hmem)); clear ho hcan hmem))
    go_ret2
    exact ⟨V, t, rfl, ⟨row_base HO.out.1.1 (fun j hj => Nat.le_trans HB.out.size (row_lt HO.out.1.1 hj).1), then_ HB.out HO.out.1.2⟩, HO.out.2.1, fun r => HO.out.2.2 r⟩
  · obtain ⟨P1, pc1, w1, ha1, ho1, hb1⟩ := push_rngs (nilG W W.heap.size) [(48, 57)] (by simp) (by simp) (Below.refl _ _)
    simp only [List.length_cons, List.length_nil, Nat.zero_add, Nat.reduceAdd, List.nil_append] at ha1 ho1
    have HF := Lib.hid (of_any _ _ _ pc1 _ (rowG_own ho1) (by simp))
    have HA1 := Lib.hid ha1
    have HB := Lib.hid hb1
    clear ha1 ho1 hb1
    go_enter Tryz.func154, Tryz.ntmps154
    go_wp2_with (first
      | (at_builtin; refine wpList_append_run rfl _ _ 24 rfl rfl _ _ _ _ rfl rfl HA1.out ?_)
      | (go_at_call 107; refine HF.out.mono ?_; rintro e w3 ⟨V, t, rfl, ho, hcan, hmem⟩; have HO := Lib.hid (And.intro ho (And.intro hcan hmem)); clear ho hcan hmem))
    go_ret2
    exact ⟨V, t, rfl, ⟨row_base HO.out.1.1 (fun j hj => Nat.le_trans HB.out.size (row_lt HO.out.1.1 hj).1), then_ HB.out HO.out.1.2⟩, HO.out.2.1, fun r => HO.out.2.2 r⟩
  · obtain ⟨P1, pc1, w1, ha1, ho1, hb1⟩ := push_rngs (nilG W W.heap.size) [(32, 32), (9, 13)] (by simp) (by simp) (Below.refl _ _)
    simp only [List.length_cons, List.length_nil, Nat.zero_add, Nat.reduceAdd, List.nil_append] at ha1 ho1
    have HF := Lib.hid (of_any _ _ _ pc1 _ (rowG_own ho1) (by simp))
    have HA1 := Lib.hid ha1
    have HB := Lib.hid hb1
    clear ha1 ho1 hb1
    go_enter Tryz.func154, Tryz.ntmps154
    go_wp2_with (first
      | (at_builtin; refine wpList_append_run rfl _ _ 24 rfl rfl _ _ _ _ rfl rfl HA1.out ?_)
      | (go_at_call 107; refine HF.out.mono ?_; rintro e w3 ⟨V, t, rfl, ho, hcan, hmem⟩; have HO := Lib.hid (And.intro ho (And.intro hcan hmem)); clear ho hcan hmem))
    go_ret2
    exact ⟨V, t, rfl, ⟨row_base HO.out.1.1 (fun j hj => Nat.le_trans HB.out.size (row_lt HO.out.1.1 hj).1), then_ HB.out HO.out.1.2⟩, HO.out.2.1, fun r => HO.out.2.2 r⟩
set_option maxHeartbeats 2000000 in
theorem named_big (c d : Int) (hc : c = 87 ∧ d = 119 ∨ c = 68 ∧ d = 100 ∨ c = 83 ∧ d = 115) (W : World) :
    Calls Tryz.prog 154 #[.int .u8 c] W fun e w' => ∃ V t, e = .returned (.tuple #[V, .bool true]) ∧ OutG W w' V t ∧ Canon t ∧ ∀ r, hasL t r = (inR r && !hasL (letterL d) r) := by
  have hs := named_small d (by omega) W
  rcases hc with ⟨rfl, rfl⟩ | ⟨rfl, rfl⟩ | ⟨rfl, rfl⟩
  all_goals
    have HS := Lib.hid hs
    clear hs
    go_enter Tryz.func154, Tryz.ntmps154
    go_wp2_with (first
      | (go_at_call 154; refine HS.out.mono ?_; rintro e w1 ⟨V1, u, rfl, ho, hcan, hmem⟩; obtain ⟨A1, c1, rfl, hi, hsm⟩ := canon_out ho hcan; have HM := Lib.hid (And.intro ho.2 hmem); have HN := Lib.hid (not_any u A1 u.length c1 w1 hi.1 (by omega)); clear ho hcan hmem hi)
      | (go_at_call 142; refine HN.out.mono ?_; rintro e w2 ⟨V, t, rfl, ho, hcan, hmem⟩; have HO := Lib.hid (And.intro ho (And.intro hcan hmem)); clear ho hcan hmem))
    go_ret2
    exact ⟨V, t, rfl, ⟨row_base HO.out.1.1 (fun j hj => Nat.le_trans HM.out.1.size (row_lt HO.out.1.1 hj).1), then_ HM.out.1 HO.out.1.2⟩, HO.out.2.1, fun r => by rw [HO.out.2.2 r, HM.out.2 r]⟩
theorem named_other (c : Int) (h0 : 0 ≤ c) (h1 : c < 256) (h2 : c ≠ 119 ∧ c ≠ 100 ∧ c ≠ 115 ∧ c ≠ 87 ∧ c ≠ 68 ∧ c ≠ 83) (W : World) :
    Calls Tryz.prog 154 #[.int .u8 c] W fun e w' => e = .returned (.tuple #[.slice none 0 0, .bool false]) ∧ W = w' := by
  obtain ⟨n1, n2, n3, n4, n5, n6⟩ := h2
  go_enter Tryz.func154, Tryz.ntmps154
  go_wp2
  go_ret2
  exact ⟨rfl, rfl⟩
theorem letter_word (r : Int) : hasL (letterL 119) r = (inR r && wordL r) := by
  unfold letterL inR wordL digitL
  rw [if_pos rfl, hasL_append]
  simp only [hasL_cons, hasL_nil, Bool.or_false, Bool.beq_eq_decide_eq, ← Bool.decide_or, ← Bool.decide_and]
  apply decide_eq_decide.2
  omega
theorem letter_digit (r : Int) : hasL (letterL 100) r = (inR r && digitL r) := by
  unfold letterL inR digitL
  rw [if_neg (by decide), if_pos rfl]
  simp only [hasL_cons, hasL_nil, Bool.or_false, ← Bool.decide_or, ← Bool.decide_and]
  apply decide_eq_decide.2
  omega
theorem letter_space (r : Int) : hasL (letterL 115) r = (inR r && spaceL r) := by
  unfold letterL inR spaceL
  rw [if_neg (by decide), if_neg (by decide)]
  rw [show (r == 32) = decide (r = 32) from rfl]
  simp only [hasL_cons, hasL_nil, Bool.or_false, ← Bool.decide_or, ← Bool.decide_and]
  apply decide_eq_decide.2
  omega
theorem named_any (w : World) (c : Int) (h0 : 0 ≤ c) (h1 : c < 256) :
    Calls Tryz.prog 154 #[.int .u8 c] w fun e w' => ∃ V t, e = .returned (.tuple #[V, .bool (namedL c 0).2]) ∧ OutG w w' V t ∧ Canon t ∧ ((namedL c 0).2 = false → t = []) ∧ ((namedL c 0).2 = true → ∀ r, hasL t r = (inR r && (namedL c r).1)) := by
  by_cases e1 : c = 100
  · subst e1
    exact (named_small 100 (by omega) w).mono fun e w' ⟨V, t, he, ho, hc, hm⟩ => ⟨V, t, he, ho, hc, fun h => (by cases h), fun _ r => (hm r).trans (letter_digit r)⟩
  by_cases e2 : c = 119
  · subst e2
    exact (named_small 119 (by omega) w).mono fun e w' ⟨V, t, he, ho, hc, hm⟩ => ⟨V, t, he, ho, hc, fun h => (by cases h), fun _ r => (hm r).trans (letter_word r)⟩
  by_cases e3 : c = 115
  · subst e3
    exact (named_small 115 (by omega) w).mono fun e w' ⟨V, t, he, ho, hc, hm⟩ => ⟨V, t, he, ho, hc, fun h => (by cases h), fun _ r => (hm r).trans (letter_space r)⟩
  by_cases e4 : c = 68
  · subst e4
    refine (named_big 68 100 (by omega) w).mono fun e w' ⟨V, t, he, ho, hc, hm⟩ => ⟨V, t, he, ho, hc, fun h => (by cases h), fun _ r => (hm r).trans ?_⟩
    rw [letter_digit r, show (namedL 68 r).1 = !digitL r from rfl]
    cases inR r <;> simp
  by_cases e5 : c = 87
  · subst e5
    refine (named_big 87 119 (by omega) w).mono fun e w' ⟨V, t, he, ho, hc, hm⟩ => ⟨V, t, he, ho, hc, fun h => (by cases h), fun _ r => (hm r).trans ?_⟩
    rw [letter_word r, show (namedL 87 r).1 = !wordL r from rfl]
    cases inR r <;> simp
  by_cases e6 : c = 83
  · subst e6
    refine (named_big 83 115 (by omega) w).mono fun e w' ⟨V, t, he, ho, hc, hm⟩ => ⟨V, t, he, ho, hc, fun h => (by cases h), fun _ r => (hm r).trans ?_⟩
    rw [letter_space r, show (namedL 83 r).1 = !spaceL r from rfl]
    cases inR r <;> simp
  have hf : (namedL c 0).2 = false := by
    unfold namedL
    rw [if_neg e1, if_neg e2, if_neg e3, if_neg e4, if_neg e5, if_neg e6]
  rw [hf]
  exact (named_other c h0 h1 ⟨e2, e1, e3, e5, e4, e6⟩ w).mono fun e w' ⟨he, hw⟩ => ⟨_, [], he, by subst hw; exact ⟨nilG _ _, Below.refl _ _⟩, trivial, fun _ => rfl, fun h => (by cases h)⟩
end Go.Proofs.YtaapbmdojkjphaaGreat
namespace Go.Proofs.YtaapbmdojkjphaaGreat
open Go Go.RowKit
set_option linter.unusedVariables false
set_option maxRecDepth 20000
theorem facesP : FacesS where
  of w A n c s h hn := of_any s A n c w h (by omega)
  no w A n c s h hn := not_any s A n c w h (by omega)
  named w c h0 h1 := named_any w c h0 h1
  noName c h0 h1 h w := named_other c h0 h1 h w
theorem pparse_one {s : ByteArray} {T : Wood} (h : parseT s = some T) (hs : s.size ≤ 200) (w : World) :
    Calls Tryz.prog 19 #[.string s] w fun e w' => ∃ x : NV, e = .returned (.tuple #[x.val, .int .i64 0]) ∧ NodesIn (fun b => w.heap.size ≤ b) w' [x] T ∧ Below w.heap.size w w' := by
  refine (parse_any facesP s w).mono fun e w' hv => ?_
  obtain ⟨hb, ⟨h2, _⟩ | ⟨_, h2, _⟩ | ⟨x, n, _, h2, he, hN⟩⟩ := hv
  · omega
  · rw [h] at h2; cases h2
  · rw [h] at h2
    injection h2 with h2
    subst h2
    exact ⟨x, he, hN, hb⟩
end Go.Proofs.YtaapbmdojkjphaaGreat
namespace Go.Proofs.YtaapbmdojkjphaaGreat
open Go Go.RowKit
set_option linter.unusedVariables false
set_option maxRecDepth 20000
def onlyV : List (Int × Int) → Int × Bool
  | [(a, b)] => if a = b then (a, true) else (0, false)
  | _ => (0, false)
set_option maxHeartbeats 4000000 in
theorem only_any (s : List (Int × Int)) (A : Option Addr) (n c : Nat) (W : World) (hin : RowG W A n s) (hc : Canon s) (hn : n ≤ 2000000) :
    Calls Tryz.prog 71 #[.slice A n c] W fun e w' => e = .returned (.tuple #[.int .i64 (onlyV s).1, .bool (onlyV s).2]) ∧ Below W.heap.size W w' := by
  have HO := Lib.hid ((of_any s A n c W hin hn).mono (R' := fun e w' => ∃ A' c', e = .returned (.slice A' s.length c') ∧ RowG w' A' s.length s ∧ Below W.heap.size W w') (by
    rintro e w' ⟨V, t, rfl, hO, hct, hh⟩
    obtain rfl := canon_one hct hc hh
    obtain ⟨A', c', rfl, hG, _⟩ := canon_out hO hct
    exact ⟨A', c', rfl, hG.row, hO.2⟩))
  clear hin
  obtain ⟨N, hN⟩ : ∃ N, N = s.length := ⟨_, rfl⟩
  rw [← hN] at HO
  by_cases h1 : N = 1
  · obtain ⟨⟨x, y⟩, rfl⟩ : ∃ p, s = [p] := by
      match s, hN with
      | [p], _ => exact ⟨p, rfl⟩
      | [], h => simp at h; omega
      | _ :: _ :: _, h => simp at h; omega
    subst h1
    have HV : Hid ((x = y → onlyV [(x, y)] = (x, true)) ∧ (¬ x = y → onlyV [(x, y)] = (0, false))) := Lib.hid ⟨fun h => by simp [onlyV, h], fun h => by simp [onlyV, h]⟩
    clear hN hc
    obtain ⟨v, hv⟩ : ∃ v, v = onlyV [(x, y)] := ⟨_, rfl⟩
    rw [← hv] at HV ⊢
    clear hv
    by_cases hxy : x = y
    · have e := HV.out.1 hxy
      subst e
      subst hxy
      go_enter Tryz.func71, Tryz.ntmps71
      go_wp2_with (go_at_call 107; (with_reducible refine HO.out.mono ?_); rintro e w1 ⟨A', c', rfl, hG, hb⟩; obtain ⟨b, o, rfl, hbl, hcl⟩ := hG.2 (by omega); obtain ⟨c0, c1⟩ := hcl 0 (by omega); simp only [Nat.zero_mul, Nat.add_zero, List.getD_cons_zero] at c0 c1; have HB := Lib.hid hb; clear hG hcl hb)
      go_quiet (fail)
      go_wp2
      go_ret2
      exact ⟨rfl, below_drewN HB.out _⟩
    · have e := HV.out.2 hxy
      subst e
      have hb1 : (x == y) = false := by simp [hxy]
      have hb2 : (x != y) = true := by simp [hxy]
      go_enter Tryz.func71, Tryz.ntmps71
      go_wp2_with (go_at_call 107; (with_reducible refine HO.out.mono ?_); rintro e w1 ⟨A', c', rfl, hG, hb⟩; obtain ⟨b, o, rfl, hbl, hcl⟩ := hG.2 (by omega); obtain ⟨c0, c1⟩ := hcl 0 (by omega); simp only [Nat.zero_mul, Nat.add_zero, List.getD_cons_zero] at c0 c1; have HB := Lib.hid hb; clear hG hcl hb)
      go_quiet (fail)
      go_wp2
      go_ret2
      exact ⟨rfl, below_drewN HB.out _⟩
  · have HV : Hid (onlyV s = (0, false)) := Lib.hid (by
      match s, hN with
      | [p], h => simp at h; omega
      | [], h => rfl
      | _ :: _ :: _, h => rfl)
    have hb1 : ((N : Int) == 1) = false := by simp; omega
    have hb2 : ((N : Int) != 1) = true := by simp; omega
    have hni : ¬ (N : Int) = 1 := by omega
    rw [HV.out]
    clear hN hc h1
    go_enter Tryz.func71, Tryz.ntmps71
    go_wp2_with (go_at_call 107; (with_reducible refine HO.out.mono ?_); rintro e w1 ⟨A', c', rfl, hG, hb⟩; have HB := Lib.hid hb; clear hG hb)
    go_quiet (fail)
    go_wp2
    go_ret2
    exact ⟨rfl, below_drewN HB.out _⟩
theorem char_is (s : List (Int × Int)) : charP s = if (onlyV s).2 = true ∧ isI (onlyV s).1 = true then (strOfNums (putI (onlyV s).1), true) else (ByteArray.empty, false) := by
  match s with
  | [] => rfl
  | [(a, b)] => by_cases h : a = b <;> by_cases h2 : isI a = true <;> simp [charP, onlyV, h, h2] <;> (try (subst h; simp [h2]))
  | _ :: _ :: _ => rfl
set_option maxHeartbeats 4000000 in
theorem pchar_any (s : List (Int × Int)) (A : Option Addr) (n c : Nat) (W : World) (hin : RowG W A n s) (hc : Canon s) (hn : n ≤ 2000000) :
    Calls Tryz.prog 41 #[.slice A n c] W fun e w' => e = .returned (.tuple #[.string (charP s).1, .bool (charP s).2]) ∧ Below W.heap.size W w' := by
  have HO := Lib.hid (only_any s A n c W hin hc hn)
  have hch := char_is s
  obtain ⟨⟨r, ok⟩, hv⟩ : ∃ v, v = onlyV s := ⟨_, rfl⟩
  rw [← hv] at HO hch
  dsimp only at HO hch
  clear hin hv
  rcases ok with _ | _
  · rw [if_neg (by simp)] at hch
    rw [hch]
    dsimp only
    clear hch
    go_enter Tryz.func41, Tryz.ntmps41
    go_wp2_with (go_at_call 71; (with_reducible refine HO.out.mono ?_); rintro e w1 ⟨rfl, hb⟩; have HB := Lib.hid hb; clear hb)
    go_ret2
    exact ⟨rfl, HB.out⟩
  · have HI := Lib.hid (fun w => is_any r w)
    rcases hi : isI r with _ | _
    · rw [hi] at hch HI
      rw [if_neg (by simp)] at hch
      rw [hch]
      dsimp only
      clear hch
      go_enter Tryz.func41, Tryz.ntmps41
      go_wp2_with (first
        | (go_at_call 71; (with_reducible refine HO.out.mono ?_); rintro e w1 ⟨rfl, hb⟩; have HB := Lib.hid hb; clear hb)
        | (go_at_call 54; (with_reducible refine (HI.out _).mono ?_); rintro e w1 ⟨rfl, rfl⟩))
      go_ret2
      exact ⟨rfl, HB.out⟩
    · rw [hi] at hch HI
      rw [if_pos (by simp)] at hch
      rw [hch]
      dsimp only
      have HP := Lib.hid (fun w => put_any r w)
      have hs : sndI r = r := by unfold sndI; rw [if_pos hi]
      unfold putN at HP
      rw [hs] at HP
      have HL := Lib.hid (putI_short r)
      obtain ⟨l, hl⟩ : ∃ l, l = putI r := ⟨_, rfl⟩
      rw [← hl] at HP HL ⊢
      obtain ⟨S, hS⟩ : ∃ S, S = strOfNums l := ⟨_, rfl⟩
      rw [← hS]
      have HS := Lib.hid hS
      clear hch hs hi hl hS
      go_enter Tryz.func41, Tryz.ntmps41
      go_wp2_with (first
        | (go_at_call 71; (with_reducible refine HO.out.mono ?_); rintro e w1 ⟨rfl, hb⟩; have HB := Lib.hid hb; clear hb)
        | (go_at_call 54; (with_reducible refine (HI.out _).mono ?_); rintro e w1 ⟨rfl, rfl⟩)
        | (go_at_call 45; (with_reducible refine (HP.out _).mono ?_); rintro e w2 ⟨rfl, hw2⟩; have s1 := strRow w2 (some ⟨w1.heap.size, 0, none⟩) l.length l.length l (by rw [hw2]; exact RowI.new .u8 w1 l 5); rw [← HS.out] at s1; have HB2 := Lib.hid (show Below W.heap.size W w2 by rw [hw2]; exact HB.out.alloc HB.out.size _); clear hw2))
      go_ret2
      exact ⟨rfl, HB2.out⟩
end Go.Proofs.YtaapbmdojkjphaaGreat
namespace Go.Proofs.YtaapbmdojkjphaaGreat
open Go Go.RowKit
set_option linter.unusedVariables false
set_option maxRecDepth 20000
theorem rowP_step {acc s : ByteArray} {t : List Pre} (h : ¬ 200 < (acc ++ s).size) : rowP acc ((s, true) :: t) = rowP (acc ++ s) t := by rw [rowP, if_neg h, if_pos rfl]
theorem rowP_cut {acc s : ByteArray} {b : Bool} {t : List Pre} (h : 200 < (acc ++ s).size) : rowP acc ((s, b) :: t) = ((acc ++ s).extract 0 200, false) := by rw [rowP, if_pos h]
theorem rowP_end {acc s : ByteArray} {t : List Pre} (h : ¬ 200 < (acc ++ s).size) : rowP acc ((s, false) :: t) = (acc ++ s, false) := by rw [rowP, if_neg h]; rfl
set_option maxHeartbeats 4000000 in
theorem row_kids (g : Nat) (n : Nat) (P : List Pre) (hP : P.length = n) (hsz : ∀ p ∈ P, p.1.size ≤ 200) (hn : n ≤ 100000) (w : World)
    (HC : ∀ (j : Nat) (p : Pre), P[j]? = some p → ∀ w', Below w.heap.size w w' → Calls Tryz.prog 73 #[.int .i64 (j : Int), .pointer (some ⟨g, 0, none⟩)] w' fun e w'' => e = .returned (.tuple #[.string p.1, .bool p.2]) ∧ Below w'.heap.size w' w'') :
    Calls Tryz.prog 72 #[.int .i64 (n : Int), .func (.func 73) #[] #[.pointer (some ⟨g, 0, none⟩)]] w fun e w' => e = .returned (.tuple #[.string (rowP ByteArray.empty P).1, .bool (rowP ByteArray.empty P).2]) ∧ Below w.heap.size w w' := by
  have HK := Lib.hid HC
  have HP := Lib.hid (And.intro hP hsz)
  obtain ⟨R, hR⟩ : ∃ R, R = rowP ByteArray.empty P := ⟨_, rfl⟩
  rw [← hR]
  have HR := Lib.hid hR
  have hni : (n : Int) ≤ 100000 := by omega
  clear HC hP hsz hR
  go_enter Tryz.func72, Tryz.ntmps72
  go_wp2_with fail
  go_loopw [6, 11] (fun v6 v11 wr => ∃ (k c : Nat) (A : Option Addr) (S : ByteArray), v6 = .slice A S.size c ∧ v11 = .int .i64 (k : Int) ∧ k ≤ n ∧ Hid (S.size ≤ 200 ∧ Buf w.heap.size wr (.slice A S.size c) S ∧ rowP S (P.drop k) = R ∧ Below w.heap.size w wr)) (fun _ v11 _ => n - (intOf v11).toNat)
  case atStart => exact ⟨0, 0, none, ByteArray.empty, rfl, rfl, Nat.zero_le _, Lib.hid ⟨by simp, Buf.nil_ _ _, by rw [List.drop_zero, HR.out], Below.refl _ _⟩⟩
  case round =>
    obtain ⟨k, c, A, S, rfl, rfl, hkn, H⟩ := hrel
    by_cases hlt : k < n
    · obtain ⟨⟨s, b⟩, hp⟩ : ∃ p, P[k]? = some p := ⟨_, List.getElem?_eq_getElem (by rw [HP.out.1]; exact hlt)⟩
      have hdr : P.drop k = (s, b) :: P.drop (k + 1) := by
        rw [List.drop_eq_getElem_cons (by rw [HP.out.1]; exact hlt)]
        congr 1
        exact Option.some.inj ((List.getElem?_eq_getElem _).symm.trans hp)
      have hs2 := HP.out.2 _ (List.mem_of_getElem? hp)
      have hrow := H.out.2.2.1
      rw [hdr] at hrow
      have HCk := Lib.hid (HK.out k (s, b) hp wr H.out.2.2.2)
      have hki : (k : Int) < (n : Int) := by omega
      have HX := Lib.hid (And.intro hrow (And.intro hs2 hlt))
      obtain ⟨Z, hZ⟩ : ∃ Z, Z = S ++ s := ⟨_, rfl⟩
      have hZs : Z.size = S.size + s.size := by rw [hZ, ByteArray.size_append]
      have HZ := Lib.hid (And.intro hZ hZs)
      have hZ4 : (Z.size : Int) ≤ 400 := by have := H.out.1; dsimp only at hs2; omega
      clear hdr hrow hp hs2 hlt hkn hZ hZs
      by_cases hbig : 200 < Z.size
      · have hb1 : (200 : Int) < (Z.size : Int) := by omega
        have e := HX.out.1
        rw [rowP_cut (by rw [← HZ.out.1]; exact hbig), ← HZ.out.1] at e
        have HE := Lib.hid e
        have HB := Lib.hid hbig
        clear e hbig
        go_wp2_with (first
          | (go_at_call 73; (with_reducible refine HCk.out.mono ?_); rintro e w1 ⟨rfl, hb1⟩; obtain ⟨V', w2, happ, hbuf, hfr⟩ := buf_str (own_kept H.out.2.1 hb1) s (Nat.le_trans H.out.2.2.2.size hb1.size) (by have := H.out.1; have := HX.out.2.1; dsimp only at this; omega); rw [← HZ.out.1] at hbuf; obtain ⟨A', c', rfl, hrw, hc1, hc2⟩ := hbuf.slice; have HAPP := Lib.hid happ; have u1 := upto_200 A' Z.size c' (by have := HB.out; omega); have s1 := strRow w2 A' 200 c' _ (rowI_to hrw (Nat.le_of_lt HB.out)); rw [take_str] at s1; have H2 := Lib.hid (H.out.2.2.2.trans ((hb1.mono H.out.2.2.2.size).trans hfr.1)); clear happ hbuf hfr hrw hc1 hc2 hb1)
          | (at_builtin; refine wpList_append2 rfl (.tmp 20) (.tmp 21) 41 9 rfl rfl _ _ _ _ rfl rfl HAPP.out ?_))
        go_ret2
        exact ⟨by rw [← HE.out]; rfl, H2.out⟩
      · have hb1 : ¬ (200 : Int) < (Z.size : Int) := by omega
        have HB := Lib.hid hbig
        clear hbig
        rcases b with _ | _
        · have e := HX.out.1
          rw [rowP_end (by rw [← HZ.out.1]; exact HB.out), ← HZ.out.1] at e
          have HE := Lib.hid e
          clear e
          go_wp2_with (first
            | (go_at_call 73; (with_reducible refine HCk.out.mono ?_); rintro e w1 ⟨rfl, hb1⟩; obtain ⟨V', w2, happ, hbuf, hfr⟩ := buf_str (own_kept H.out.2.1 hb1) s (Nat.le_trans H.out.2.2.2.size hb1.size) (by have := H.out.1; have := HX.out.2.1; dsimp only at this; omega); rw [← HZ.out.1] at hbuf; obtain ⟨A', c', rfl, hrw, hc1, hc2⟩ := hbuf.slice; have HAPP := Lib.hid happ; have s1 := strRow w2 A' Z.size c' _ hrw; rw [strOfNums_nums] at s1; have H2 := Lib.hid (H.out.2.2.2.trans ((hb1.mono H.out.2.2.2.size).trans hfr.1)); clear happ hbuf hfr hrw hc1 hc2 hb1)
            | (at_builtin; refine wpList_append2 rfl (.tmp 20) (.tmp 21) 41 9 rfl rfl _ _ _ _ rfl rfl HAPP.out ?_))
          go_ret2
          exact ⟨by rw [← HE.out]; rfl, H2.out⟩
        · have e := HX.out.1
          rw [rowP_step (by rw [← HZ.out.1]; exact HB.out), ← HZ.out.1] at e
          have HE := Lib.hid e
          clear e
          go_wp2_with (first
            | (go_at_call 73; (with_reducible refine HCk.out.mono ?_); rintro e w1 ⟨rfl, hb1⟩; obtain ⟨V', w2, happ, hbuf, hfr⟩ := buf_str (own_kept H.out.2.1 hb1) s (Nat.le_trans H.out.2.2.2.size hb1.size) (by have := H.out.1; have := HX.out.2.1; dsimp only at this; omega); rw [← HZ.out.1] at hbuf; obtain ⟨A', c', rfl, hrw, hc1, hc2⟩ := hbuf.slice; have HAPP := Lib.hid happ; have H2 := Lib.hid (And.intro hbuf (H.out.2.2.2.trans ((hb1.mono H.out.2.2.2.size).trans hfr.1))); clear happ hbuf hfr hrw hc1 hc2 hb1)
            | (at_builtin; refine wpList_append2 rfl (.tmp 20) (.tmp 21) 41 9 rfl rfl _ _ _ _ rfl rfl HAPP.out ?_))
          exact ⟨⟨k + 1, c', A', Z, rfl, rfl, HX.out.2.2, Lib.hid ⟨Nat.le_of_not_lt HB.out, H2.out.1, HE.out, H2.out.2⟩⟩, by have := HX.out.2.2; simp [intOf]; omega⟩
    · obtain rfl : k = n := by omega
      have e := H.out.2.2.1
      rw [List.drop_of_length_le (by rw [HP.out.1]; exact Nat.le_refl _), rowP] at e
      obtain ⟨A1, c1, e1, hrw, _, _⟩ := H.out.2.1.slice
      injection e1 with e1 _ e3
      subst e1
      subst e3
      have s1 := strRow wr A S.size c _ hrw
      rw [strOfNums_nums] at s1
      have HE := Lib.hid e
      clear e hrw
      go_wp2
      go_ret2
      exact ⟨by rw [← HE.out]; rfl, H.out.2.2.2⟩
set_option maxHeartbeats 4000000 in
theorem row_times (g h : Nat) (n : Nat) (P : List Pre) (hP : P.length = n) (hsz : ∀ p ∈ P, p.1.size ≤ 200) (hn : n ≤ 100000) (w : World)
    (HC : ∀ (j : Nat) (p : Pre), P[j]? = some p → ∀ w', Below w.heap.size w w' → Calls Tryz.prog 75 #[.int .i64 (j : Int), .pointer (some ⟨g, 0, none⟩), .pointer (some ⟨h, 0, none⟩)] w' fun e w'' => e = .returned (.tuple #[.string p.1, .bool p.2]) ∧ Below w'.heap.size w' w'') :
    Calls Tryz.prog 72 #[.int .i64 (n : Int), .func (.func 75) #[] #[.pointer (some ⟨g, 0, none⟩), .pointer (some ⟨h, 0, none⟩)]] w fun e w' => e = .returned (.tuple #[.string (rowP ByteArray.empty P).1, .bool (rowP ByteArray.empty P).2]) ∧ Below w.heap.size w w' := by
  have HK := Lib.hid HC
  have HP := Lib.hid (And.intro hP hsz)
  obtain ⟨R, hR⟩ : ∃ R, R = rowP ByteArray.empty P := ⟨_, rfl⟩
  rw [← hR]
  have HR := Lib.hid hR
  have hni : (n : Int) ≤ 100000 := by omega
  clear HC hP hsz hR
  go_enter Tryz.func72, Tryz.ntmps72
  go_wp2_with fail
  go_loopw [6, 11] (fun v6 v11 wr => ∃ (k c : Nat) (A : Option Addr) (S : ByteArray), v6 = .slice A S.size c ∧ v11 = .int .i64 (k : Int) ∧ k ≤ n ∧ Hid (S.size ≤ 200 ∧ Buf w.heap.size wr (.slice A S.size c) S ∧ rowP S (P.drop k) = R ∧ Below w.heap.size w wr)) (fun _ v11 _ => n - (intOf v11).toNat)
  case atStart => exact ⟨0, 0, none, ByteArray.empty, rfl, rfl, Nat.zero_le _, Lib.hid ⟨by simp, Buf.nil_ _ _, by rw [List.drop_zero, HR.out], Below.refl _ _⟩⟩
  case round =>
    obtain ⟨k, c, A, S, rfl, rfl, hkn, H⟩ := hrel
    by_cases hlt : k < n
    · obtain ⟨⟨s, b⟩, hp⟩ : ∃ p, P[k]? = some p := ⟨_, List.getElem?_eq_getElem (by rw [HP.out.1]; exact hlt)⟩
      have hdr : P.drop k = (s, b) :: P.drop (k + 1) := by
        rw [List.drop_eq_getElem_cons (by rw [HP.out.1]; exact hlt)]
        congr 1
        exact Option.some.inj ((List.getElem?_eq_getElem _).symm.trans hp)
      have hs2 := HP.out.2 _ (List.mem_of_getElem? hp)
      have hrow := H.out.2.2.1
      rw [hdr] at hrow
      have HCk := Lib.hid (HK.out k (s, b) hp wr H.out.2.2.2)
      have hki : (k : Int) < (n : Int) := by omega
      have HX := Lib.hid (And.intro hrow (And.intro hs2 hlt))
      obtain ⟨Z, hZ⟩ : ∃ Z, Z = S ++ s := ⟨_, rfl⟩
      have hZs : Z.size = S.size + s.size := by rw [hZ, ByteArray.size_append]
      have HZ := Lib.hid (And.intro hZ hZs)
      have hZ4 : (Z.size : Int) ≤ 400 := by have := H.out.1; dsimp only at hs2; omega
      clear hdr hrow hp hs2 hlt hkn hZ hZs
      by_cases hbig : 200 < Z.size
      · have hb1 : (200 : Int) < (Z.size : Int) := by omega
        have e := HX.out.1
        rw [rowP_cut (by rw [← HZ.out.1]; exact hbig), ← HZ.out.1] at e
        have HE := Lib.hid e
        have HB := Lib.hid hbig
        clear e hbig
        go_wp2_with (first
          | (go_at_call 75; (with_reducible refine HCk.out.mono ?_); rintro e w1 ⟨rfl, hb1⟩; obtain ⟨V', w2, happ, hbuf, hfr⟩ := buf_str (own_kept H.out.2.1 hb1) s (Nat.le_trans H.out.2.2.2.size hb1.size) (by have := H.out.1; have := HX.out.2.1; dsimp only at this; omega); rw [← HZ.out.1] at hbuf; obtain ⟨A', c', rfl, hrw, hc1, hc2⟩ := hbuf.slice; have HAPP := Lib.hid happ; have u1 := upto_200 A' Z.size c' (by have := HB.out; omega); have s1 := strRow w2 A' 200 c' _ (rowI_to hrw (Nat.le_of_lt HB.out)); rw [take_str] at s1; have H2 := Lib.hid (H.out.2.2.2.trans ((hb1.mono H.out.2.2.2.size).trans hfr.1)); clear happ hbuf hfr hrw hc1 hc2 hb1)
          | (at_builtin; refine wpList_append2 rfl (.tmp 20) (.tmp 21) 41 9 rfl rfl _ _ _ _ rfl rfl HAPP.out ?_))
        go_ret2
        exact ⟨by rw [← HE.out]; rfl, H2.out⟩
      · have hb1 : ¬ (200 : Int) < (Z.size : Int) := by omega
        have HB := Lib.hid hbig
        clear hbig
        rcases b with _ | _
        · have e := HX.out.1
          rw [rowP_end (by rw [← HZ.out.1]; exact HB.out), ← HZ.out.1] at e
          have HE := Lib.hid e
          clear e
          go_wp2_with (first
            | (go_at_call 75; (with_reducible refine HCk.out.mono ?_); rintro e w1 ⟨rfl, hb1⟩; obtain ⟨V', w2, happ, hbuf, hfr⟩ := buf_str (own_kept H.out.2.1 hb1) s (Nat.le_trans H.out.2.2.2.size hb1.size) (by have := H.out.1; have := HX.out.2.1; dsimp only at this; omega); rw [← HZ.out.1] at hbuf; obtain ⟨A', c', rfl, hrw, hc1, hc2⟩ := hbuf.slice; have HAPP := Lib.hid happ; have s1 := strRow w2 A' Z.size c' _ hrw; rw [strOfNums_nums] at s1; have H2 := Lib.hid (H.out.2.2.2.trans ((hb1.mono H.out.2.2.2.size).trans hfr.1)); clear happ hbuf hfr hrw hc1 hc2 hb1)
            | (at_builtin; refine wpList_append2 rfl (.tmp 20) (.tmp 21) 41 9 rfl rfl _ _ _ _ rfl rfl HAPP.out ?_))
          go_ret2
          exact ⟨by rw [← HE.out]; rfl, H2.out⟩
        · have e := HX.out.1
          rw [rowP_step (by rw [← HZ.out.1]; exact HB.out), ← HZ.out.1] at e
          have HE := Lib.hid e
          clear e
          go_wp2_with (first
            | (go_at_call 75; (with_reducible refine HCk.out.mono ?_); rintro e w1 ⟨rfl, hb1⟩; obtain ⟨V', w2, happ, hbuf, hfr⟩ := buf_str (own_kept H.out.2.1 hb1) s (Nat.le_trans H.out.2.2.2.size hb1.size) (by have := H.out.1; have := HX.out.2.1; dsimp only at this; omega); rw [← HZ.out.1] at hbuf; obtain ⟨A', c', rfl, hrw, hc1, hc2⟩ := hbuf.slice; have HAPP := Lib.hid happ; have H2 := Lib.hid (And.intro hbuf (H.out.2.2.2.trans ((hb1.mono H.out.2.2.2.size).trans hfr.1))); clear happ hbuf hfr hrw hc1 hc2 hb1)
            | (at_builtin; refine wpList_append2 rfl (.tmp 20) (.tmp 21) 41 9 rfl rfl _ _ _ _ rfl rfl HAPP.out ?_))
          exact ⟨⟨k + 1, c', A', Z, rfl, rfl, HX.out.2.2, Lib.hid ⟨Nat.le_of_not_lt HB.out, H2.out.1, HE.out, H2.out.2⟩⟩, by have := HX.out.2.2; simp [intOf]; omega⟩
    · obtain rfl : k = n := by omega
      have e := H.out.2.2.1
      rw [List.drop_of_length_le (by rw [HP.out.1]; exact Nat.le_refl _), rowP] at e
      obtain ⟨A1, c1, e1, hrw, _, _⟩ := H.out.2.1.slice
      injection e1 with e1 _ e3
      subst e1
      subst e3
      have s1 := strRow wr A S.size c _ hrw
      rw [strOfNums_nums] at s1
      have HE := Lib.hid e
      clear e hrw
      go_wp2
      go_ret2
      exact ⟨by rw [← HE.out]; rfl, H.out.2.2.2⟩
end Go.Proofs.YtaapbmdojkjphaaGreat
namespace Go.Proofs.YtaapbmdojkjphaaGreat
open Go Go.RowKit
set_option linter.unusedVariables false
set_option maxRecDepth 20000
def PreC (w0 : World) (v : Value) (p : Pre) : Prop :=
  ∀ w, Below w0.heap.size w0 w → Calls Tryz.prog 21 #[v] w fun e w' => e = .returned (.tuple #[.string p.1, .bool p.2]) ∧ Below w.heap.size w w'
def KidsC (F : Nat → Prop) (w0 : World) (D : Option Addr) (nk : Nat) (K : Wood) : Prop :=
  KidsAt F w0 D nk K ∧ ∀ j, j < nk → ∀ v, NodeIn F w0 v (K.nth j) → PreC w0 v ((prefs K)[j]?.getD (ByteArray.empty, false))
section
variable {F : Nat → Prop} {w0 : World} {D : Option Addr} {nk ck : Nat} {K : Wood}
set_option maxHeartbeats 4000000 in
theorem tog1_any (h : KidsC F w0 D nk K) (hnk : nk ≤ 100000) (g : Nat) (j : Nat) (hj : j < nk) (w : World) (hb : Below w0.heap.size w0 w) (hg : w.cell? ⟨g, 0, none⟩ = some (.slice D nk ck)) (p : Pre) (hp : (prefs K)[j]? = some p) :
    Calls Tryz.prog 73 #[.int .i64 (j : Int), .pointer (some ⟨g, 0, none⟩)] w fun e w' => e = .returned (.tuple #[.string p.1, .bool p.2]) ∧ Below w.heap.size w w' := by
  obtain ⟨b, o, op, s, mn, mx, k', A', D', ns, cs, nk', ck', rfl, hbl, e, c0, c1, c2, c3, c4, hin⟩ := h.1.kid hj
  have hpr := h.2 j hj _ hin w hb
  rw [hp, Option.getD_some] at hpr
  have HP := Lib.hid hpr
  have up : ∀ i v, w0.cell? ⟨b, i, none⟩ = some v → w.cell? ⟨b, i, none⟩ = some v := fun i v hv => (hb.cell (p := ⟨b, i, none⟩) hbl).trans hv
  have d0 := up _ _ c0
  have d1 := up _ _ c1
  have d2 := up _ _ c2
  have d3 := up _ _ c3
  have d4 := up _ _ c4
  have hji : (j : Int) < (nk : Int) := by omega
  have hj0 : (0 : Int) ≤ (j : Int) := by omega
  clear up c0 c1 c2 c3 c4 hin e hpr h hp hb hj
  go_enter Tryz.func73, Tryz.ntmps73
  go_wp2_with (go_at_call 21; (with_reducible refine HP.out.mono ?_); rintro e w1 ⟨rfl, hb1⟩; have HB := Lib.hid hb1; clear hb1)
  go_ret2
  exact ⟨rfl, HB.out⟩
set_option maxHeartbeats 4000000 in
theorem ptogether_any (h : KidsC F w0 D nk K) (hnk : nk ≤ 100000) (hsz : ∀ p ∈ prefs K, p.1.size ≤ 200) (w : World) (hb : Below w0.heap.size w0 w) :
    Calls Tryz.prog 42 #[.slice D nk ck] w fun e w' => e = .returned (.tuple #[.string (rowP ByteArray.empty (prefs K)).1, .bool (rowP ByteArray.empty (prefs K)).2]) ∧ Below w.heap.size w w' := by
  have hb1 : Below w.heap.size w (w.alloc (.cells #[.slice D nk ck] 25)) := (Below.refl _ _).alloc (Nat.le_refl _) _
  have hR := row_kids w.heap.size nk (prefs K) (by rw [prefs_len, h.1.1]) hsz hnk (w.alloc (.cells #[.slice D nk ck] 25)) (fun j p hp w' hw' => by
    have hj : j < nk := by have := (List.getElem?_eq_some_iff.1 hp).1; rwa [prefs_len, h.1.1] at this
    exact tog1_any h hnk w.heap.size j hj w' ((hb.trans (hb1.mono hb.size)).trans (hw'.mono (Nat.le_trans hb.size (by simp)))) ((hw'.cell (p := ⟨w.heap.size, 0, none⟩) (by simp)).trans (cell_of_row _ w.heap.size 0 _ _ (0, 0) (heap_alloc_new w _))) p hp)
  have HR := Lib.hid hR
  have HB := Lib.hid hb1
  clear hR hb1 h hsz hb
  go_enter Tryz.func42, Tryz.ntmps42
  go_wp2_with (go_at_call 72; (with_reducible refine HR.out.mono ?_); rintro e w1 ⟨rfl, hb1⟩; have HB1 := Lib.hid hb1; clear hb1)
  go_ret2
  exact ⟨rfl, HB.out.trans (HB1.out.mono (by simp))⟩
end
end Go.Proofs.YtaapbmdojkjphaaGreat
