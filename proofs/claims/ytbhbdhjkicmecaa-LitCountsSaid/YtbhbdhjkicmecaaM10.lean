/- The document's class. -/
import Derived.Test.YtbhbdhjkicmecaaM05
import Derived.Test.YtbhbdhjkicmecaaM09
namespace Go.Proofs.Ytbhbdhjkicmecaa
open Go Go.RowKit
set_option linter.unusedVariables false
set_option maxRecDepth 20000

theorem own_none {w : World} {B : Nat} {e : TypeId} {sz : Nat} {P : Option Addr} {q pc n : Nat} {xs : List Value} (h : w.ownsRow B e sz (.slice P q pc) n xs) : P = none → q = 0 ∧ pc = 0 := fun hP => by
  rcases h.2 with ⟨h, _⟩ | ⟨g, cap, cur, h, _⟩
  · injection h with h1 h2 h3; exact ⟨h2, h3⟩
  · injection h with h1; rw [hP] at h1; cases h1
/-- What class answers. -/
def clsV (W w' : World) (e : Ending) (r : Option (List (Int × Int) × List Int)) (l : List Int) : Prop :=
  match r with
  | none => e = .returned (.tuple #[.slice none 0 0, .int .i64 0])
  | some (s, rest) => ∃ (P : Option Addr) (q pc k : Nat), e = .returned (.tuple #[.slice P q pc, .int .i64 (k : Int)]) ∧ 1 ≤ k ∧ k ≤ l.length ∧ rest = l.drop k ∧ w'.ownsRow W.heap.size 58 2 (.slice P q pc) q (cellsG s)
/-- What is left to read, at a place of the class. -/
def ClsAt (R : Option (List (Int × Int) × List Int)) (l : List Int) (j : Nat) (xs : List (Int × Int)) (p : Nat) : Prop :=
  ∃ f, l.length - j + 1 ≤ f ∧ R = partsL f (l.drop j) xs (decide (0 < p))
theorem getD_drop9 (l : List Int) (j : Nat) : (l.drop j).headD 0 = l.getD j 0 := by
  rw [List.headD_eq_head?_getD, List.head?_drop]; rfl
theorem ClsAt.shut {R : Option (List (Int × Int) × List Int)} {l : List Int} {j : Nat} {xs : List (Int × Int)} {p : Nat} (h : ClsAt R l j xs p) (hj : j < l.length) (h93 : l.getD j 0 = 93) (hp : 0 < p) : R = some (xs, l.drop (j + 1)) := by
  obtain ⟨f, hf, rfl⟩ := h
  obtain ⟨f, rfl⟩ : ∃ g, f = g + 1 := ⟨f - 1, by omega⟩
  rw [List.drop_eq_getElem_cons hj, show l[j] = 93 by rw [← h93]; simp [List.getD, hj], decide_eq_true hp]
  rfl
theorem ClsAt.none_ {R : Option (List (Int × Int) × List Int)} {l : List Int} {j : Nat} {xs : List (Int × Int)} {p : Nat} (h : ClsAt R l j xs p) (hno : ¬ (0 < p ∧ l.getD j 0 = 93)) (hp : partL (l.drop j) = none) : R = none := by
  obtain ⟨f, hf, rfl⟩ := h
  obtain ⟨f, rfl⟩ : ∃ g, f = g + 1 := ⟨f - 1, by omega⟩
  rw [partsL_part f xs (by rw [decide_eq_true_iff, getD_drop9]; exact hno), hp]
theorem ClsAt.next {R : Option (List (Int × Int) × List Int)} {l : List Int} {j : Nat} {xs : List (Int × Int)} {p : Nat} (h : ClsAt R l j xs p) (hno : ¬ (0 < p ∧ l.getD j 0 = 93)) {s : List (Int × Int)} {k : Nat} (hk : 0 < k) (hkl : j + k ≤ l.length) (hp : partL (l.drop j) = some (s, l.drop (j + k))) : ClsAt R l (j + k) (xs ++ s) (p + 1) := by
  obtain ⟨f, hf, rfl⟩ := h
  obtain ⟨f, rfl⟩ : ∃ g, f = g + 1 := ⟨f - 1, by omega⟩
  refine ⟨f, by omega, ?_⟩
  rw [partsL_part f xs (by rw [decide_eq_true_iff, getD_drop9]; exact hno), hp, decide_eq_true (show 0 < p + 1 by omega)]
end Go.Proofs.Ytbhbdhjkicmecaa
/- The document's class: the walk. -/
namespace Go.Proofs.Ytbhbdhjkicmecaa
open Go Go.RowKit
set_option linter.unusedVariables false
set_option maxRecDepth 20000

set_option maxHeartbeats 8000000 in
theorem rclass_yes (l : List Int) (A : Option Addr) (n c : Nat) (W : World) (hr : RowI .i64 W A n l) (hn : n ≤ 200) (hnc : n ≤ c) (hw : ∀ x ∈ l, 0 ≤ x ∧ x ≤ 1114111) (h0 : 0 < n) (e0 : l.getD 0 0 ≠ 94)
    (R : Option (List (Int × Int) × List Int)) (hR : ClsAt R l 0 [] 0) :
    Calls Try.prog 22 #[.slice A n c] W fun e w' => clsV W w' e (R.map fun p => (setOf fun r => hasL p.1 r != false, p.2)) l ∧ Below W.heap.size W w' := by
  have hlen := hr.1
  obtain ⟨b, o, rfl, hb, hc⟩ := hr.2 h0
  have c0 := hc 0 h0
  rw [Nat.add_zero] at c0
  obtain ⟨x, hx⟩ : ∃ x, x = l.getD 0 0 := ⟨_, rfl⟩
  rw [← hx] at c0 e0
  have e1 : (x == 94) = false := by simpa using e0
  have HC := Lib.hid hc
  have HRW := Lib.hid hr
  have HL := Lib.hid hlen
  have HWF := Lib.hid hw
  have HR := Lib.hid hR
  clear hr hc hx hlen hw hR
  go_enter Try.func22, Try.ntmps22
  go_wp2_with fail
  go_loopw [4, 6, 7] (fun va vs vp wr => ∃ (j q pc p : Nat) (P : Option Addr) (xs : List (Int × Int)), va = .int .i64 (j : Int) ∧ vs = .slice P q pc ∧ vp = .int .i64 (p : Int) ∧ j ≤ n ∧ p ≤ j ∧ q ≤ 5 * j ∧
    Hid (wr.ownsRow W.heap.size 58 2 (.slice P q pc) q (cellsG xs) ∧ Below W.heap.size W wr ∧ WfP xs ∧ ClsAt R l j xs p)) (fun va _ _ _ => n - (intOf va).toNat)
  case atStart => exact ⟨0, 0, 0, 0, none, [], rfl, rfl, rfl, by omega, by omega, by omega, Lib.hid ⟨nilG _ _, Below.refl _ _, fun p hp => absurd hp (by simp), HR.out⟩⟩
  case round =>
    obtain ⟨j, q, pc, p, P, xs, rfl, rfl, rfl, hj, hp, hq, HO⟩ := hrel
    by_cases hjn : j < n
    · have cj := (HO.out.2.1.cell (p := ⟨b, o + j, none⟩) hb).trans (HC.out j hjn)
      obtain ⟨y, hy⟩ : ∃ y, y = l.getD j 0 := ⟨_, rfl⟩
      rw [← hy] at cj
      by_cases hsh : 0 < p ∧ y = 93
      · obtain ⟨hp0, rfl⟩ := hsh
        have HE := Lib.hid (HO.out.2.2.2.shut (by rw [HL.out]; exact hjn) hy.symm hp0)
        have HM := Lib.hid (made_any xs P q pc false wr (rowG_own9 HO.out.1) (by omega) HO.out.2.2.1)
        clear hy
        go_wp2_with (go_at_call 38; (with_reducible refine HM.out.mono ?_); rintro e w2 ⟨P2, q2, pc2, rfl, ho, hb2⟩; have HO2 := Lib.hid (And.intro ho hb2); clear ho hb2)
        go_ret2
        refine ⟨?_, HO.out.2.1.trans (HO2.out.2.mono HO.out.2.1.size)⟩
        rw [HE.out]
        exact ⟨P2, q2, pc2, j + 1, by go_num, by omega, by rw [HL.out]; omega, rfl, row_base HO2.out.1 (fun x hx => Nat.le_trans HO.out.2.1.size (row_lt HO2.out.1 hx).1)⟩
      · have HNO := Lib.hid (show ¬ (0 < p ∧ l.getD j 0 = 93) by rw [← hy]; exact hsh)
        have hsub : RowI .i64 W (some ⟨b, o + j, none⟩) (n - j) (l.drop j) := by
          have h := rowI_from HRW.out hj
          rwa [show Option.map (fun x => x.add j) (some (⟨b, o, none⟩ : Addr)) = some ⟨b, o + j, none⟩ by simp [Addr.add]] at h
        have HP := Lib.hid fun w (h : Below W.heap.size W w) => rpoint_any (l.drop j) (some ⟨b, o + j, none⟩) (n - j) (c - j) w (hsub.below h (Nat.le_refl _)) (by omega)
        have h3 : ¬ (y = 93 ∧ 0 < p) := fun h => hsh ⟨h.2, h.1⟩
        have HPB := Lib.hid (HP.out wr HO.out.2.1)
        clear HP hsub
        rcases hpt : ptL (l.drop j) with _ | ⟨s, is, l1⟩
        · have HE := Lib.hid (HO.out.2.2.2.none_ HNO.out (partL_none hpt))
          have HX := Lib.hid hpt
          clear hpt hy hsh
          by_cases hy93 : y = 93
          · subst hy93
            have hp0 : ¬ 0 < p := fun h => h3 ⟨rfl, h⟩
            clear h3
            go_wp2_with (go_at_call 39; (with_reducible refine HPB.out.mono ?_); rintro e w2 ⟨hv, hb2⟩; unfold ptV at hv; rw [HX.out] at hv; dsimp only at hv; subst hv; have HB2 := Lib.hid hb2; clear hb2)
            go_ret2
            refine ⟨?_, HO.out.2.1.trans (HB2.out.mono HO.out.2.1.size)⟩
            rw [HE.out]
            rfl
          · have e93 : (y == 93) = false := by simpa using hy93
            clear h3
            go_wp2_with (go_at_call 39; (with_reducible refine HPB.out.mono ?_); rintro e w2 ⟨hv, hb2⟩; unfold ptV at hv; rw [HX.out] at hv; dsimp only at hv; subst hv; have HB2 := Lib.hid hb2; clear hb2)
            go_ret2
            refine ⟨?_, HO.out.2.1.trans (HB2.out.mono HO.out.2.1.size)⟩
            rw [HE.out]
            rfl
        · obtain ⟨hws, hsl, his, k, k1, k2, hl1⟩ := ptL_is (fun z hz => HWF.out z (List.mem_of_mem_drop hz)) hpt
          rw [List.length_drop, HL.out] at k2
          rw [List.drop_drop] at hl1
          have HX := Lib.hid hpt
          have HWS := Lib.hid hws
          have h93 : y ≠ 93 ∨ ¬ 0 < p := by
            by_cases h : y = 93
            · exact .inr fun h2 => h3 ⟨h, h2⟩
            · exact .inl h
          clear h3 hsh hy hpt hws
          by_cases hjk : is = true ∧ j + k < n ∧ l.getD (j + k) 0 = 45
          · obtain ⟨rfl, hjk2, hz⟩ := hjk
            obtain ⟨v, rfl⟩ := his rfl
            have hwv := HWS.out (v, v) (by simp)
            have hl2 : l.drop (j + k) = 45 :: l.drop (j + k + 1) := by
              have h : j + k < l.length := by rw [HL.out]; exact hjk2
              rw [List.drop_eq_getElem_cons h, show l[j + k] = 45 by rw [← hz]; simp [List.getD, h]]
            have HPL := Lib.hid (partL_dash (l := l.drop j) (x := v) (l2 := l.drop (j + k + 1)) (by rw [HX.out, hl1, hl2]))
            have ck := (HO.out.2.1.cell (p := ⟨b, o + (j + k), none⟩) hb).trans (HC.out (j + k) hjk2)
            rw [hz] at ck
            have hkk : Hid (∀ k', 1 ≤ k' → k' ≤ (l.drop j).length → l1 = (l.drop j).drop k' → k' = k) := Lib.hid fun k' h1 h2 h3 => by
              have h4 := congrArg List.length (hl1.symm.trans h3)
              rw [List.drop_drop, List.length_drop, List.length_drop, HL.out] at h4
              rw [List.length_drop, HL.out] at h2
              omega
            have HPI := Lib.hid fun (e : Ending) (w2 : World) (hv : ptV wr w2 e (l.drop j)) (hb2 : Below wr.heap.size wr w2) => show ∃ (g2 pc2 : Nat), e = .returned (.tuple #[.slice (some ⟨g2, 0, none⟩) 1 pc2, .bool true, .int .i64 (k : Int)]) ∧ g2 < w2.heap.size ∧ w2.cell? ⟨g2, 0, none⟩ = some (.int .i64 v) by
              unfold ptV at hv
              rw [HX.out] at hv
              dsimp only at hv
              obtain ⟨P2, q2, pc2, k', rfl, h1, h2, h3, ho⟩ := hv
              obtain ⟨g, rfl, hn1, hg1, hg2, _, _, hc1, _⟩ := last_own (v := []) (q := (v, v)) ho hb2
              rw [hkk.out k' h1 h2 h3]
              subst hn1
              exact ⟨g, pc2, rfl, hg2, hc1⟩
            clear hl2 hz hl1 his hsl hkk
            have hsub2 : RowI .i64 W (some ⟨b, o + (j + k + 1), none⟩) (n - (j + k + 1)) (l.drop (j + k + 1)) := by
              have h := rowI_from HRW.out (m := j + k + 1) (by omega)
              rwa [show Option.map (fun x => x.add (j + k + 1)) (some (⟨b, o, none⟩ : Addr)) = some ⟨b, o + (j + k + 1), none⟩ by simp [Addr.add]] at h
            have HP2 := Lib.hid fun w (h : Below W.heap.size W w) => rpoint_any (l.drop (j + k + 1)) (some ⟨b, o + (j + k + 1), none⟩) (n - (j + k + 1)) (c - (j + k + 1)) w (hsub2.below h (Nat.le_refl _)) (by omega)
            clear hsub2
            by_cases hj3 : j + k + 1 < n
            · rcases hpt2 : ptL (l.drop (j + k + 1)) with _ | ⟨t, too, l3⟩
              · have HE := Lib.hid (HO.out.2.2.2.none_ HNO.out (by rw [HPL.out, hpt2]))
                have HX2 := Lib.hid hpt2
                clear hpt2
                go_wp2_with (first
                  | (go_at_call 39; (with_reducible refine HPB.out.mono ?_); rintro e w2 ⟨hv, hb2⟩; obtain ⟨g2, pc2, rfl, hg2, cv⟩ := HPI.out _ _ hv hb2; clear hv; have ck2 := (hb2.cell (p := ⟨b, o + (j + k), none⟩) (Nat.lt_of_lt_of_le hb HO.out.2.1.size)).trans ck; have HB2 := Lib.hid (HO.out.2.1.trans (hb2.mono HO.out.2.1.size)); clear hb2)
                  | (go_at_call 39; (with_reducible refine (HP2.out _ HB2.out).mono ?_); rintro e w3 ⟨hv, hb3⟩; unfold ptV at hv; rw [HX2.out] at hv; dsimp only at hv; subst hv; have HB3 := Lib.hid (HB2.out.trans (hb3.mono HB2.out.size)); clear hb3))
                all_goals
                  go_quiet (fail)
                  go_wp2
                  go_ret2
                  refine ⟨?_, below_drewN HB3.out _⟩
                  rw [HE.out]
                  rfl
              · obtain ⟨_, _, his2, k', k3, k4, hl3⟩ := ptL_is (fun z hz => HWF.out z (List.mem_of_mem_drop hz)) hpt2
                rw [List.length_drop, HL.out] at k4
                rw [List.drop_drop] at hl3
                cases too with
                | false =>
                  have HE := Lib.hid (HO.out.2.2.2.none_ HNO.out (by rw [HPL.out, hpt2]))
                  have HX2 := Lib.hid hpt2
                  clear hpt2 hl3 his2
                  have HPI2 := Lib.hid fun (w2 : World) (e : Ending) (w3 : World) (hv : ptV w2 w3 e (l.drop (j + k + 1))) => show ∃ (P3 : Option Addr) (q3 pc3 m : Nat), e = .returned (.tuple #[.slice P3 q3 pc3, .bool false, .int .i64 (m : Int)]) ∧ 1 ≤ m by
                    unfold ptV at hv
                    rw [HX2.out] at hv
                    dsimp only at hv
                    obtain ⟨P3, q3, pc3, m, rfl, h1, _⟩ := hv
                    exact ⟨P3, q3, pc3, m, rfl, h1⟩
                  go_wp2_with (first
                    | (go_at_call 39; (with_reducible refine HPB.out.mono ?_); rintro e w2 ⟨hv, hb2⟩; obtain ⟨g2, pc2, rfl, hg2, cv⟩ := HPI.out _ _ hv hb2; clear hv; have ck2 := (hb2.cell (p := ⟨b, o + (j + k), none⟩) (Nat.lt_of_lt_of_le hb HO.out.2.1.size)).trans ck; have HB2 := Lib.hid (HO.out.2.1.trans (hb2.mono HO.out.2.1.size)); have HBW2 := Lib.hid hb2; clear hb2)
                    | (go_at_call 39; (with_reducible refine (HP2.out _ HB2.out).mono ?_); rintro e w3 ⟨hv, hb3⟩; obtain ⟨P3, q3, pc3, m, rfl, hm1⟩ := HPI2.out _ _ _ hv; clear hv; have hm2 : ¬ (m : Int) = 0 := by omega
                       have hm3 : ((m : Int) == 0) = false := by simpa using hm2
                       have HB3 := Lib.hid (HB2.out.trans (hb3.mono HB2.out.size)); clear hb3))
                  all_goals
                    go_quiet (fail)
                    go_wp2
                    go_ret2
                    refine ⟨?_, below_drewN HB3.out _⟩
                    rw [HE.out]
                    rfl
                | true =>
                  obtain ⟨u, rfl⟩ := his2 rfl
                  have HX2 := Lib.hid hpt2
                  have HPI2 := Lib.hid fun (w2 : World) (e : Ending) (w3 : World) (hv : ptV w2 w3 e (l.drop (j + k + 1))) (hb3 : Below w2.heap.size w2 w3) => show ∃ (g3 pc3 : Nat), e = .returned (.tuple #[.slice (some ⟨g3, 0, none⟩) 1 pc3, .bool true, .int .i64 (k' : Int)]) ∧ g3 < w3.heap.size ∧ w3.cell? ⟨g3, 0, none⟩ = some (.int .i64 u) by
                    unfold ptV at hv
                    rw [HX2.out] at hv
                    dsimp only at hv
                    obtain ⟨P2, q2, pc2, m, rfl, h1, h2, h3, ho⟩ := hv
                    obtain ⟨g, rfl, hn1, hg1, hg2, _, _, hc1, _⟩ := last_own (v := []) (q := (u, u)) ho hb3
                    have hmk : m = k' := by
                      have h4 := congrArg List.length (hl3.symm.trans h3)
                      rw [List.drop_drop, List.length_drop, List.length_drop, HL.out] at h4
                      rw [List.length_drop, HL.out] at h2
                      omega
                    subst hmk
                    subst hn1
                    exact ⟨g, pc2, rfl, hg2, hc1⟩
                  have hm2 : ¬ (k' : Int) = 0 := by omega
                  have hm3 : ((k' : Int) == 0) = false := by simpa using hm2
                  by_cases huv : u < v
                  · have HE := Lib.hid (HO.out.2.2.2.none_ HNO.out (by rw [HPL.out, hpt2]; dsimp only; rw [if_pos (by exact huv)]))
                    clear hpt2 hl3 his2
                    go_wp2_with (first
                      | (go_at_call 39; (with_reducible refine HPB.out.mono ?_); rintro e w2 ⟨hv, hb2⟩; obtain ⟨g2, pc2, rfl, hg2, cv⟩ := HPI.out _ _ hv hb2; clear hv; have ck2 := (hb2.cell (p := ⟨b, o + (j + k), none⟩) (Nat.lt_of_lt_of_le hb HO.out.2.1.size)).trans ck; have HB2 := Lib.hid (HO.out.2.1.trans (hb2.mono HO.out.2.1.size)); have HBW2 := Lib.hid hb2; clear hb2)
                      | (go_at_call 39; (with_reducible refine (HP2.out _ HB2.out).mono ?_); rintro e w3 ⟨hv, hb3⟩; obtain ⟨g3, pc3, rfl, hg3, cu⟩ := HPI2.out _ _ _ hv hb3; clear hv; have cv3 := (hb3.cell (p := ⟨g2, 0, none⟩) hg2).trans cv; have HS23 := Lib.hid hb3.size; have HB3 := Lib.hid (HB2.out.trans (hb3.mono HB2.out.size)); have HBW3 := Lib.hid (HBW2.out.trans (hb3.mono HBW2.out.size)); clear hb3))
                    all_goals
                      go_quiet (fail)
                      go_wp2
                      go_ret2
                      refine ⟨?_, below_drewN HB3.out _⟩
                      rw [HE.out]
                      rfl
                  · have HN := Lib.hid (HO.out.2.2.2.next (s := [(v, u)]) (k := k + 1 + k') HNO.out (by omega) (by rw [HL.out]; omega) (by rw [HPL.out, hpt2]; dsimp only; rw [if_neg (by exact huv), hl3, show j + (k + 1 + k') = j + k + 1 + k' by omega]; rfl))
                    have hwu := (ptL_is (fun z hz => HWF.out z (List.mem_of_mem_drop hz)) hpt2).1 (u, u) (by simp)
                    have HWU := Lib.hid (wfP_one (a := v) (b := u) hwv.1 (by omega) hwu.2.2)
                    clear hpt2 hl3 his2 hwu hwv
                    go_wp2_with (first
                      | (go_at_call 39; (with_reducible refine HPB.out.mono ?_); rintro e w2 ⟨hv, hb2⟩; obtain ⟨g2, pc2, rfl, hg2, cv⟩ := HPI.out _ _ hv hb2; clear hv; have ck2 := (hb2.cell (p := ⟨b, o + (j + k), none⟩) (Nat.lt_of_lt_of_le hb HO.out.2.1.size)).trans ck; have HB2 := Lib.hid (HO.out.2.1.trans (hb2.mono HO.out.2.1.size)); have HBW2 := Lib.hid hb2; clear hb2)
                      | (go_at_call 39; (with_reducible refine (HP2.out _ HB2.out).mono ?_); rintro e w3 ⟨hv, hb3⟩; obtain ⟨g3, pc3, rfl, hg3, cu⟩ := HPI2.out _ _ _ hv hb3; clear hv; have cv3 := (hb3.cell (p := ⟨g2, 0, none⟩) hg2).trans cv; have HS23 := Lib.hid hb3.size; have HB3 := Lib.hid (HB2.out.trans (hb3.mono HB2.out.size)); have HBW3 := Lib.hid (HBW2.out.trans (hb3.mono HBW2.out.size)); clear hb3))
                    all_goals
                      go_quiet (fail)
                      obtain ⟨X, hX⟩ : ∃ X, X = w3.drewN nq := ⟨_, rfl⟩
                      rw [← hX]
                      have hXb : Below w3.heap.size w3 X := by rw [hX]; exact below_drewN (Below.refl _ _) nq
                      have cvX := (hXb.cell (p := ⟨g2, 0, none⟩) (Nat.lt_of_lt_of_le hg2 (show w2.heap.size ≤ w3.heap.size from HS23.out))).trans cv3
                      have cuX := (hXb.cell (p := ⟨g3, 0, none⟩) hg3).trans cu
                      have HXW := Lib.hid (HB3.out.trans (hXb.mono HB3.out.size))
                      have HXR := Lib.hid (HBW3.out.trans (hXb.mono HBW3.out.size))
                      clear hX hXb
                      go_wp2_with fail
                      go_region
                      obtain ⟨P', pc', w', happ, hown, hbel⟩ := app_inG (W := W) (ownG_kept (ownG_alloc (row_base (ownG_kept HO.out.1 HXR.out) (fun x hx => (row_lt HO.out.1 hx).1)) (.cells (cellsG [(v, u)]).toArray 58)) ((Below.refl _ _).drew)) ((rowG_made X [(v, u)]).below ((Below.refl _ _).drew) (Nat.le_refl _)) (c := 1) (fun e => by cases e) (by omega) (by simp) ((HXW.out.alloc HXW.out.size _).drew)
                      simp only [List.length_cons, List.length_nil, Nat.zero_add] at happ hown
                      have HA := Lib.hid happ
                      have HOC := Lib.hid (And.intro hown hbel)
                      clear happ hown hbel
                      go_wp2_with (at_builtin; refine wpList_append_run rfl _ _ 28 rfl rfl _ _ _ _ rfl rfl HA.out ?_)
                      exact ⟨⟨j + (k + 1 + k'), q + 1, pc', p + 1, P', xs ++ [(v, u)], by go_num, rfl, by go_num, by omega, by omega, by omega, Lib.hid ⟨HOC.out.1, HOC.out.2, HO.out.2.2.1.append HWU.out, HN.out⟩⟩, by simp [intOf]; omega⟩
            · have HE := Lib.hid (HO.out.2.2.2.none_ HNO.out (by rw [HPL.out, List.drop_eq_nil_of_le (by rw [HL.out]; omega)]; rfl))
              have HPN := Lib.hid fun (A : Option Addr) (N C : Nat) (w : World) (hN : N = 0) (_ : Below W.heap.size W w) => rpoint_any [] A N C w ⟨hN.symm, fun h => absurd h (by omega)⟩ (by omega)
              clear HP2
              rcases Nat.lt_or_ge (j + k + 1) c with hjc | hjc
              · go_wp2_with (first
                  | (go_at_call 39; (with_reducible refine HPB.out.mono ?_); rintro e w2 ⟨hv, hb2⟩; obtain ⟨g2, pc2, rfl, hg2, cv⟩ := HPI.out _ _ hv hb2; clear hv; have ck2 := (hb2.cell (p := ⟨b, o + (j + k), none⟩) (Nat.lt_of_lt_of_le hb HO.out.2.1.size)).trans ck; have HB2 := Lib.hid (HO.out.2.1.trans (hb2.mono HO.out.2.1.size)); have HBW2 := Lib.hid hb2; clear hb2)
                  | (go_at_call 39; refine (HPN.out _ _ _ _ (by omega) HB2.out).mono ?_; rintro e w3 ⟨hv, hb3⟩; unfold ptV at hv; dsimp only [ptL] at hv; subst hv; have HB3 := Lib.hid (HB2.out.trans (hb3.mono HB2.out.size)); clear hb3))
                all_goals
                  go_quiet (fail)
                  go_wp2
                  go_ret2
                  refine ⟨?_, below_drewN HB3.out _⟩
                  rw [HE.out]
                  rfl
              · have hjc2 : c = j + k + 1 := by omega
                subst hjc2
                go_wp2_with (first
                  | (go_at_call 39; (with_reducible refine HPB.out.mono ?_); rintro e w2 ⟨hv, hb2⟩; obtain ⟨g2, pc2, rfl, hg2, cv⟩ := HPI.out _ _ hv hb2; clear hv; have ck2 := (hb2.cell (p := ⟨b, o + (j + k), none⟩) (Nat.lt_of_lt_of_le hb HO.out.2.1.size)).trans ck; have HB2 := Lib.hid (HO.out.2.1.trans (hb2.mono HO.out.2.1.size)); have HBW2 := Lib.hid hb2; clear hb2)
                  | (go_at_call 39; refine (HPN.out _ _ _ _ (by omega) HB2.out).mono ?_; rintro e w3 ⟨hv, hb3⟩; unfold ptV at hv; dsimp only [ptL] at hv; subst hv; have HB3 := Lib.hid (HB2.out.trans (hb3.mono HB2.out.size)); clear hb3))
                all_goals
                  go_quiet (fail)
                  go_wp2
                  go_ret2
                  refine ⟨?_, below_drewN HB3.out _⟩
                  rw [HE.out]
                  rfl
          · have HPL := Lib.hid (partL_plain HX.out (by
              rw [hl1, getD_drop9]
              rcases Bool.eq_false_or_eq_true is with h | h
              · refine .inr fun h2 => hjk ⟨h, ?_, h2⟩
                rcases Nat.lt_or_ge (j + k) n with h4 | h4
                · exact h4
                · rw [show l.getD (j + k) 0 = 0 by simp [List.getD, List.getElem?_eq_none (show l.length ≤ j + k by rw [HL.out]; exact h4)]] at h2; exact absurd h2 (by decide)
              · exact .inl h))
            rw [hl1] at HPL HX
            have HN := Lib.hid (HO.out.2.2.2.next HNO.out k1 (by rw [HL.out]; omega) HPL.out)
            have HPI := Lib.hid fun (e : Ending) (w2 : World) (hv : ptV wr w2 e (l.drop j)) => show ∃ (P2 : Option Addr) (q2 pc2 : Nat), e = .returned (.tuple #[.slice P2 q2 pc2, .bool is, .int .i64 (k : Int)]) ∧ q2 ≤ 5 ∧ w2.ownsRow wr.heap.size 58 2 (.slice P2 q2 pc2) q2 (cellsG s) by
              unfold ptV at hv
              rw [HX.out] at hv
              dsimp only at hv
              obtain ⟨P2, q2, pc2, k', rfl, h1, h2, h3, ho⟩ := hv
              have hkk : k' = k := by
                have h4 := congrArg List.length h3
                rw [List.drop_drop, List.length_drop, List.length_drop, HL.out] at h4
                rw [List.length_drop, HL.out] at h2
                omega
              subst hkk
              exact ⟨P2, q2, pc2, rfl, by have h := ho.1; rw [cellsG_length] at h; omega, ho⟩
            have hcl := cj
            by_cases hjk2 : j + k < n
            · have ck := (HO.out.2.1.cell (p := ⟨b, o + (j + k), none⟩) hb).trans (HC.out (j + k) hjk2)
              obtain ⟨z, hz⟩ : ∃ z, z = l.getD (j + k) 0 := ⟨_, rfl⟩
              rw [← hz] at ck hjk
              clear hz
              cases is with
              | false =>
                clear hjk
                go_wp2_with (first
                  | (go_at_call 39; (with_reducible refine HPB.out.mono ?_); rintro e w2 ⟨hv, hb2⟩; obtain ⟨P2, q2, pc2, rfl, hq2, ho2⟩ := HPI.out _ _ hv; clear hv; obtain ⟨P', pc', w', happ, hown, hbel⟩ := app_inG (W := W) (c := pc2) (row_base (ownG_kept HO.out.1 hb2) (fun x hx => (row_lt HO.out.1 hx).1)) (rowG_own9 ho2) (own_none ho2) (by omega) (by omega) (HO.out.2.1.trans (hb2.mono HO.out.2.1.size)); have HA := Lib.hid happ; have HOC := Lib.hid (And.intro hown hbel); clear happ hown hbel ho2 hb2)
                  | (at_builtin; refine wpList_append_run rfl _ _ 28 rfl rfl _ _ _ _ rfl rfl HA.out ?_))
                all_goals exact ⟨⟨j + k, q + q2, pc', p + 1, P', xs ++ s, by go_num, rfl, by go_num, by omega, by omega, by omega, Lib.hid ⟨HOC.out.1, HOC.out.2, HO.out.2.2.1.append HWS.out, HN.out⟩⟩, by simp [intOf]; omega⟩
              | true =>
                have e45 : (z == 45) = false := by
                  have h : z ≠ 45 := fun h => hjk ⟨rfl, hjk2, h⟩
                  simpa using h
                clear hjk
                go_wp2_with (first
                  | (go_at_call 39; (with_reducible refine HPB.out.mono ?_); rintro e w2 ⟨hv, hb2⟩; obtain ⟨P2, q2, pc2, rfl, hq2, ho2⟩ := HPI.out _ _ hv; clear hv; have ck2 := (hb2.cell (p := ⟨b, o + (j + k), none⟩) (Nat.lt_of_lt_of_le hb HO.out.2.1.size)).trans ck; obtain ⟨P', pc', w', happ, hown, hbel⟩ := app_inG (W := W) (c := pc2) (row_base (ownG_kept HO.out.1 hb2) (fun x hx => (row_lt HO.out.1 hx).1)) (rowG_own9 ho2) (own_none ho2) (by omega) (by omega) (HO.out.2.1.trans (hb2.mono HO.out.2.1.size)); have HA := Lib.hid happ; have HOC := Lib.hid (And.intro hown hbel); clear happ hown hbel ho2 hb2)
                  | (at_builtin; refine wpList_append_run rfl _ _ 28 rfl rfl _ _ _ _ rfl rfl HA.out ?_))
                all_goals exact ⟨⟨j + k, q + q2, pc', p + 1, P', xs ++ s, by go_num, rfl, by go_num, by omega, by omega, by omega, Lib.hid ⟨HOC.out.1, HOC.out.2, HO.out.2.2.1.append HWS.out, HN.out⟩⟩, by simp [intOf]; omega⟩
            · have HXX := HPI
              clear hjk
              go_wp2_with (first
                | (go_at_call 39; (with_reducible refine HPB.out.mono ?_); rintro e w2 ⟨hv, hb2⟩; obtain ⟨P2, q2, pc2, rfl, hq2, ho2⟩ := HPI.out _ _ hv; clear hv; obtain ⟨P', pc', w', happ, hown, hbel⟩ := app_inG (W := W) (c := pc2) (row_base (ownG_kept HO.out.1 hb2) (fun x hx => (row_lt HO.out.1 hx).1)) (rowG_own9 ho2) (own_none ho2) (by omega) (by omega) (HO.out.2.1.trans (hb2.mono HO.out.2.1.size)); have HA := Lib.hid happ; have HOC := Lib.hid (And.intro hown hbel); clear happ hown hbel ho2 hb2)
                | (at_builtin; refine wpList_append_run rfl _ _ 28 rfl rfl _ _ _ _ rfl rfl HA.out ?_))
              all_goals exact ⟨⟨j + k, q + q2, pc', p + 1, P', xs ++ s, by go_num, rfl, by go_num, by omega, by omega, by omega, Lib.hid ⟨HOC.out.1, HOC.out.2, HO.out.2.2.1.append HWS.out, HN.out⟩⟩, by simp [intOf]; omega⟩
    · have hjn2 : j = n := by omega
      subst hjn2
      have HE := Lib.hid (HO.out.2.2.2.none_ (fun h => by have h2 := h.2; rw [show l.getD j 0 = 0 by simp [List.getD, List.getElem?_eq_none (Nat.le_of_eq HL.out)]] at h2; exact absurd h2 (by decide)) (by rw [List.drop_eq_nil_of_le (by rw [HL.out]; exact Nat.le_refl _)]; rfl))
      have HP := Lib.hid fun (A : Option Addr) (C : Nat) => rpoint_any [] A 0 C wr ⟨rfl, fun h => absurd h (by omega)⟩ (by omega)
      rcases Nat.lt_or_ge j c with hjc | hjc
      · go_wp2_with (go_at_call 39; refine (HP.out _ _).mono ?_; rintro e w2 ⟨hv, hb2⟩; have HB2 := Lib.hid hb2; clear hb2; unfold ptV at hv; dsimp only [ptL] at hv; subst hv)
        go_ret2
        refine ⟨?_, HO.out.2.1.trans (HB2.out.mono HO.out.2.1.size)⟩
        rw [HE.out]
        rfl
      · have hjc2 : c = j := by omega
        subst hjc2
        go_wp2_with (go_at_call 39; refine (HP.out _ _).mono ?_; rintro e w2 ⟨hv, hb2⟩; have HB2 := Lib.hid hb2; clear hb2; unfold ptV at hv; dsimp only [ptL] at hv; subst hv)
        go_ret2
        refine ⟨?_, HO.out.2.1.trans (HB2.out.mono HO.out.2.1.size)⟩
        rw [HE.out]
        rfl
end Go.Proofs.Ytbhbdhjkicmecaa
/- The document's class: the walk. -/
namespace Go.Proofs.Ytbhbdhjkicmecaa
open Go Go.RowKit
set_option linter.unusedVariables false
set_option maxRecDepth 20000

set_option maxHeartbeats 8000000 in
theorem rclass_not (l : List Int) (A : Option Addr) (n c : Nat) (W : World) (hr : RowI .i64 W A n l) (hn : n ≤ 200) (hnc : n ≤ c) (hw : ∀ x ∈ l, 0 ≤ x ∧ x ≤ 1114111) (h0 : 0 < n) (e0 : l.getD 0 0 = 94)
    (R : Option (List (Int × Int) × List Int)) (hR : ClsAt R l 1 [] 0) :
    Calls Try.prog 22 #[.slice A n c] W fun e w' => clsV W w' e (R.map fun p => (setOf fun r => hasL p.1 r != true, p.2)) l ∧ Below W.heap.size W w' := by
  have hlen := hr.1
  obtain ⟨b, o, rfl, hb, hc⟩ := hr.2 h0
  have c0 := hc 0 h0
  rw [Nat.add_zero] at c0
  obtain ⟨x, hx⟩ : ∃ x, x = l.getD 0 0 := ⟨_, rfl⟩
  rw [← hx] at c0 e0
  subst e0
  have HC := Lib.hid hc
  have HRW := Lib.hid hr
  have HL := Lib.hid hlen
  have HWF := Lib.hid hw
  have HR := Lib.hid hR
  clear hr hc hx hlen hw hR
  go_enter Try.func22, Try.ntmps22
  go_wp2_with fail
  go_loopw [4, 6, 7] (fun va vs vp wr => ∃ (j q pc p : Nat) (P : Option Addr) (xs : List (Int × Int)), va = .int .i64 (j : Int) ∧ vs = .slice P q pc ∧ vp = .int .i64 (p : Int) ∧ j ≤ n ∧ p ≤ j ∧ q ≤ 5 * j ∧
    Hid (wr.ownsRow W.heap.size 58 2 (.slice P q pc) q (cellsG xs) ∧ Below W.heap.size W wr ∧ WfP xs ∧ ClsAt R l j xs p)) (fun va _ _ _ => n - (intOf va).toNat)
  case atStart => exact ⟨1, 0, 0, 0, none, [], rfl, rfl, rfl, by omega, by omega, by omega, Lib.hid ⟨nilG _ _, Below.refl _ _, fun p hp => absurd hp (by simp), HR.out⟩⟩
  case round =>
    obtain ⟨j, q, pc, p, P, xs, rfl, rfl, rfl, hj, hp, hq, HO⟩ := hrel
    by_cases hjn : j < n
    · have cj := (HO.out.2.1.cell (p := ⟨b, o + j, none⟩) hb).trans (HC.out j hjn)
      obtain ⟨y, hy⟩ : ∃ y, y = l.getD j 0 := ⟨_, rfl⟩
      rw [← hy] at cj
      by_cases hsh : 0 < p ∧ y = 93
      · obtain ⟨hp0, rfl⟩ := hsh
        have HE := Lib.hid (HO.out.2.2.2.shut (by rw [HL.out]; exact hjn) hy.symm hp0)
        have HM := Lib.hid (made_any xs P q pc true wr (rowG_own9 HO.out.1) (by omega) HO.out.2.2.1)
        clear hy
        go_wp2_with (go_at_call 38; (with_reducible refine HM.out.mono ?_); rintro e w2 ⟨P2, q2, pc2, rfl, ho, hb2⟩; have HO2 := Lib.hid (And.intro ho hb2); clear ho hb2)
        go_ret2
        refine ⟨?_, HO.out.2.1.trans (HO2.out.2.mono HO.out.2.1.size)⟩
        rw [HE.out]
        exact ⟨P2, q2, pc2, j + 1, by go_num, by omega, by rw [HL.out]; omega, rfl, row_base HO2.out.1 (fun x hx => Nat.le_trans HO.out.2.1.size (row_lt HO2.out.1 hx).1)⟩
      · have HNO := Lib.hid (show ¬ (0 < p ∧ l.getD j 0 = 93) by rw [← hy]; exact hsh)
        have hsub : RowI .i64 W (some ⟨b, o + j, none⟩) (n - j) (l.drop j) := by
          have h := rowI_from HRW.out hj
          rwa [show Option.map (fun x => x.add j) (some (⟨b, o, none⟩ : Addr)) = some ⟨b, o + j, none⟩ by simp [Addr.add]] at h
        have HP := Lib.hid fun w (h : Below W.heap.size W w) => rpoint_any (l.drop j) (some ⟨b, o + j, none⟩) (n - j) (c - j) w (hsub.below h (Nat.le_refl _)) (by omega)
        have h3 : ¬ (y = 93 ∧ 0 < p) := fun h => hsh ⟨h.2, h.1⟩
        have HPB := Lib.hid (HP.out wr HO.out.2.1)
        clear HP hsub
        rcases hpt : ptL (l.drop j) with _ | ⟨s, is, l1⟩
        · have HE := Lib.hid (HO.out.2.2.2.none_ HNO.out (partL_none hpt))
          have HX := Lib.hid hpt
          clear hpt hy hsh
          by_cases hy93 : y = 93
          · subst hy93
            have hp0 : ¬ 0 < p := fun h => h3 ⟨rfl, h⟩
            clear h3
            go_wp2_with (go_at_call 39; (with_reducible refine HPB.out.mono ?_); rintro e w2 ⟨hv, hb2⟩; unfold ptV at hv; rw [HX.out] at hv; dsimp only at hv; subst hv; have HB2 := Lib.hid hb2; clear hb2)
            go_ret2
            refine ⟨?_, HO.out.2.1.trans (HB2.out.mono HO.out.2.1.size)⟩
            rw [HE.out]
            rfl
          · have e93 : (y == 93) = false := by simpa using hy93
            clear h3
            go_wp2_with (go_at_call 39; (with_reducible refine HPB.out.mono ?_); rintro e w2 ⟨hv, hb2⟩; unfold ptV at hv; rw [HX.out] at hv; dsimp only at hv; subst hv; have HB2 := Lib.hid hb2; clear hb2)
            go_ret2
            refine ⟨?_, HO.out.2.1.trans (HB2.out.mono HO.out.2.1.size)⟩
            rw [HE.out]
            rfl
        · obtain ⟨hws, hsl, his, k, k1, k2, hl1⟩ := ptL_is (fun z hz => HWF.out z (List.mem_of_mem_drop hz)) hpt
          rw [List.length_drop, HL.out] at k2
          rw [List.drop_drop] at hl1
          have HX := Lib.hid hpt
          have HWS := Lib.hid hws
          have h93 : y ≠ 93 ∨ ¬ 0 < p := by
            by_cases h : y = 93
            · exact .inr fun h2 => h3 ⟨h, h2⟩
            · exact .inl h
          clear h3 hsh hy hpt hws
          by_cases hjk : is = true ∧ j + k < n ∧ l.getD (j + k) 0 = 45
          · obtain ⟨rfl, hjk2, hz⟩ := hjk
            obtain ⟨v, rfl⟩ := his rfl
            have hwv := HWS.out (v, v) (by simp)
            have hl2 : l.drop (j + k) = 45 :: l.drop (j + k + 1) := by
              have h : j + k < l.length := by rw [HL.out]; exact hjk2
              rw [List.drop_eq_getElem_cons h, show l[j + k] = 45 by rw [← hz]; simp [List.getD, h]]
            have HPL := Lib.hid (partL_dash (l := l.drop j) (x := v) (l2 := l.drop (j + k + 1)) (by rw [HX.out, hl1, hl2]))
            have ck := (HO.out.2.1.cell (p := ⟨b, o + (j + k), none⟩) hb).trans (HC.out (j + k) hjk2)
            rw [hz] at ck
            have hkk : Hid (∀ k', 1 ≤ k' → k' ≤ (l.drop j).length → l1 = (l.drop j).drop k' → k' = k) := Lib.hid fun k' h1 h2 h3 => by
              have h4 := congrArg List.length (hl1.symm.trans h3)
              rw [List.drop_drop, List.length_drop, List.length_drop, HL.out] at h4
              rw [List.length_drop, HL.out] at h2
              omega
            have HPI := Lib.hid fun (e : Ending) (w2 : World) (hv : ptV wr w2 e (l.drop j)) (hb2 : Below wr.heap.size wr w2) => show ∃ (g2 pc2 : Nat), e = .returned (.tuple #[.slice (some ⟨g2, 0, none⟩) 1 pc2, .bool true, .int .i64 (k : Int)]) ∧ g2 < w2.heap.size ∧ w2.cell? ⟨g2, 0, none⟩ = some (.int .i64 v) by
              unfold ptV at hv
              rw [HX.out] at hv
              dsimp only at hv
              obtain ⟨P2, q2, pc2, k', rfl, h1, h2, h3, ho⟩ := hv
              obtain ⟨g, rfl, hn1, hg1, hg2, _, _, hc1, _⟩ := last_own (v := []) (q := (v, v)) ho hb2
              rw [hkk.out k' h1 h2 h3]
              subst hn1
              exact ⟨g, pc2, rfl, hg2, hc1⟩
            clear hl2 hz hl1 his hsl hkk
            have hsub2 : RowI .i64 W (some ⟨b, o + (j + k + 1), none⟩) (n - (j + k + 1)) (l.drop (j + k + 1)) := by
              have h := rowI_from HRW.out (m := j + k + 1) (by omega)
              rwa [show Option.map (fun x => x.add (j + k + 1)) (some (⟨b, o, none⟩ : Addr)) = some ⟨b, o + (j + k + 1), none⟩ by simp [Addr.add]] at h
            have HP2 := Lib.hid fun w (h : Below W.heap.size W w) => rpoint_any (l.drop (j + k + 1)) (some ⟨b, o + (j + k + 1), none⟩) (n - (j + k + 1)) (c - (j + k + 1)) w (hsub2.below h (Nat.le_refl _)) (by omega)
            clear hsub2
            by_cases hj3 : j + k + 1 < n
            · rcases hpt2 : ptL (l.drop (j + k + 1)) with _ | ⟨t, too, l3⟩
              · have HE := Lib.hid (HO.out.2.2.2.none_ HNO.out (by rw [HPL.out, hpt2]))
                have HX2 := Lib.hid hpt2
                clear hpt2
                go_wp2_with (first
                  | (go_at_call 39; (with_reducible refine HPB.out.mono ?_); rintro e w2 ⟨hv, hb2⟩; obtain ⟨g2, pc2, rfl, hg2, cv⟩ := HPI.out _ _ hv hb2; clear hv; have ck2 := (hb2.cell (p := ⟨b, o + (j + k), none⟩) (Nat.lt_of_lt_of_le hb HO.out.2.1.size)).trans ck; have HB2 := Lib.hid (HO.out.2.1.trans (hb2.mono HO.out.2.1.size)); clear hb2)
                  | (go_at_call 39; (with_reducible refine (HP2.out _ HB2.out).mono ?_); rintro e w3 ⟨hv, hb3⟩; unfold ptV at hv; rw [HX2.out] at hv; dsimp only at hv; subst hv; have HB3 := Lib.hid (HB2.out.trans (hb3.mono HB2.out.size)); clear hb3))
                all_goals
                  go_quiet (fail)
                  go_wp2
                  go_ret2
                  refine ⟨?_, below_drewN HB3.out _⟩
                  rw [HE.out]
                  rfl
              · obtain ⟨_, _, his2, k', k3, k4, hl3⟩ := ptL_is (fun z hz => HWF.out z (List.mem_of_mem_drop hz)) hpt2
                rw [List.length_drop, HL.out] at k4
                rw [List.drop_drop] at hl3
                cases too with
                | false =>
                  have HE := Lib.hid (HO.out.2.2.2.none_ HNO.out (by rw [HPL.out, hpt2]))
                  have HX2 := Lib.hid hpt2
                  clear hpt2 hl3 his2
                  have HPI2 := Lib.hid fun (w2 : World) (e : Ending) (w3 : World) (hv : ptV w2 w3 e (l.drop (j + k + 1))) => show ∃ (P3 : Option Addr) (q3 pc3 m : Nat), e = .returned (.tuple #[.slice P3 q3 pc3, .bool false, .int .i64 (m : Int)]) ∧ 1 ≤ m by
                    unfold ptV at hv
                    rw [HX2.out] at hv
                    dsimp only at hv
                    obtain ⟨P3, q3, pc3, m, rfl, h1, _⟩ := hv
                    exact ⟨P3, q3, pc3, m, rfl, h1⟩
                  go_wp2_with (first
                    | (go_at_call 39; (with_reducible refine HPB.out.mono ?_); rintro e w2 ⟨hv, hb2⟩; obtain ⟨g2, pc2, rfl, hg2, cv⟩ := HPI.out _ _ hv hb2; clear hv; have ck2 := (hb2.cell (p := ⟨b, o + (j + k), none⟩) (Nat.lt_of_lt_of_le hb HO.out.2.1.size)).trans ck; have HB2 := Lib.hid (HO.out.2.1.trans (hb2.mono HO.out.2.1.size)); have HBW2 := Lib.hid hb2; clear hb2)
                    | (go_at_call 39; (with_reducible refine (HP2.out _ HB2.out).mono ?_); rintro e w3 ⟨hv, hb3⟩; obtain ⟨P3, q3, pc3, m, rfl, hm1⟩ := HPI2.out _ _ _ hv; clear hv; have hm2 : ¬ (m : Int) = 0 := by omega
                       have hm3 : ((m : Int) == 0) = false := by simpa using hm2
                       have HB3 := Lib.hid (HB2.out.trans (hb3.mono HB2.out.size)); clear hb3))
                  all_goals
                    go_quiet (fail)
                    go_wp2
                    go_ret2
                    refine ⟨?_, below_drewN HB3.out _⟩
                    rw [HE.out]
                    rfl
                | true =>
                  obtain ⟨u, rfl⟩ := his2 rfl
                  have HX2 := Lib.hid hpt2
                  have HPI2 := Lib.hid fun (w2 : World) (e : Ending) (w3 : World) (hv : ptV w2 w3 e (l.drop (j + k + 1))) (hb3 : Below w2.heap.size w2 w3) => show ∃ (g3 pc3 : Nat), e = .returned (.tuple #[.slice (some ⟨g3, 0, none⟩) 1 pc3, .bool true, .int .i64 (k' : Int)]) ∧ g3 < w3.heap.size ∧ w3.cell? ⟨g3, 0, none⟩ = some (.int .i64 u) by
                    unfold ptV at hv
                    rw [HX2.out] at hv
                    dsimp only at hv
                    obtain ⟨P2, q2, pc2, m, rfl, h1, h2, h3, ho⟩ := hv
                    obtain ⟨g, rfl, hn1, hg1, hg2, _, _, hc1, _⟩ := last_own (v := []) (q := (u, u)) ho hb3
                    have hmk : m = k' := by
                      have h4 := congrArg List.length (hl3.symm.trans h3)
                      rw [List.drop_drop, List.length_drop, List.length_drop, HL.out] at h4
                      rw [List.length_drop, HL.out] at h2
                      omega
                    subst hmk
                    subst hn1
                    exact ⟨g, pc2, rfl, hg2, hc1⟩
                  have hm2 : ¬ (k' : Int) = 0 := by omega
                  have hm3 : ((k' : Int) == 0) = false := by simpa using hm2
                  by_cases huv : u < v
                  · have HE := Lib.hid (HO.out.2.2.2.none_ HNO.out (by rw [HPL.out, hpt2]; dsimp only; rw [if_pos (by exact huv)]))
                    clear hpt2 hl3 his2
                    go_wp2_with (first
                      | (go_at_call 39; (with_reducible refine HPB.out.mono ?_); rintro e w2 ⟨hv, hb2⟩; obtain ⟨g2, pc2, rfl, hg2, cv⟩ := HPI.out _ _ hv hb2; clear hv; have ck2 := (hb2.cell (p := ⟨b, o + (j + k), none⟩) (Nat.lt_of_lt_of_le hb HO.out.2.1.size)).trans ck; have HB2 := Lib.hid (HO.out.2.1.trans (hb2.mono HO.out.2.1.size)); have HBW2 := Lib.hid hb2; clear hb2)
                      | (go_at_call 39; (with_reducible refine (HP2.out _ HB2.out).mono ?_); rintro e w3 ⟨hv, hb3⟩; obtain ⟨g3, pc3, rfl, hg3, cu⟩ := HPI2.out _ _ _ hv hb3; clear hv; have cv3 := (hb3.cell (p := ⟨g2, 0, none⟩) hg2).trans cv; have HS23 := Lib.hid hb3.size; have HB3 := Lib.hid (HB2.out.trans (hb3.mono HB2.out.size)); have HBW3 := Lib.hid (HBW2.out.trans (hb3.mono HBW2.out.size)); clear hb3))
                    all_goals
                      go_quiet (fail)
                      go_wp2
                      go_ret2
                      refine ⟨?_, below_drewN HB3.out _⟩
                      rw [HE.out]
                      rfl
                  · have HN := Lib.hid (HO.out.2.2.2.next (s := [(v, u)]) (k := k + 1 + k') HNO.out (by omega) (by rw [HL.out]; omega) (by rw [HPL.out, hpt2]; dsimp only; rw [if_neg (by exact huv), hl3, show j + (k + 1 + k') = j + k + 1 + k' by omega]; rfl))
                    have hwu := (ptL_is (fun z hz => HWF.out z (List.mem_of_mem_drop hz)) hpt2).1 (u, u) (by simp)
                    have HWU := Lib.hid (wfP_one (a := v) (b := u) hwv.1 (by omega) hwu.2.2)
                    clear hpt2 hl3 his2 hwu hwv
                    go_wp2_with (first
                      | (go_at_call 39; (with_reducible refine HPB.out.mono ?_); rintro e w2 ⟨hv, hb2⟩; obtain ⟨g2, pc2, rfl, hg2, cv⟩ := HPI.out _ _ hv hb2; clear hv; have ck2 := (hb2.cell (p := ⟨b, o + (j + k), none⟩) (Nat.lt_of_lt_of_le hb HO.out.2.1.size)).trans ck; have HB2 := Lib.hid (HO.out.2.1.trans (hb2.mono HO.out.2.1.size)); have HBW2 := Lib.hid hb2; clear hb2)
                      | (go_at_call 39; (with_reducible refine (HP2.out _ HB2.out).mono ?_); rintro e w3 ⟨hv, hb3⟩; obtain ⟨g3, pc3, rfl, hg3, cu⟩ := HPI2.out _ _ _ hv hb3; clear hv; have cv3 := (hb3.cell (p := ⟨g2, 0, none⟩) hg2).trans cv; have HS23 := Lib.hid hb3.size; have HB3 := Lib.hid (HB2.out.trans (hb3.mono HB2.out.size)); have HBW3 := Lib.hid (HBW2.out.trans (hb3.mono HBW2.out.size)); clear hb3))
                    all_goals
                      go_quiet (fail)
                      obtain ⟨X, hX⟩ : ∃ X, X = w3.drewN nq := ⟨_, rfl⟩
                      rw [← hX]
                      have hXb : Below w3.heap.size w3 X := by rw [hX]; exact below_drewN (Below.refl _ _) nq
                      have cvX := (hXb.cell (p := ⟨g2, 0, none⟩) (Nat.lt_of_lt_of_le hg2 (show w2.heap.size ≤ w3.heap.size from HS23.out))).trans cv3
                      have cuX := (hXb.cell (p := ⟨g3, 0, none⟩) hg3).trans cu
                      have HXW := Lib.hid (HB3.out.trans (hXb.mono HB3.out.size))
                      have HXR := Lib.hid (HBW3.out.trans (hXb.mono HBW3.out.size))
                      clear hX hXb
                      go_wp2_with fail
                      go_region
                      obtain ⟨P', pc', w', happ, hown, hbel⟩ := app_inG (W := W) (ownG_kept (ownG_alloc (row_base (ownG_kept HO.out.1 HXR.out) (fun x hx => (row_lt HO.out.1 hx).1)) (.cells (cellsG [(v, u)]).toArray 58)) ((Below.refl _ _).drew)) ((rowG_made X [(v, u)]).below ((Below.refl _ _).drew) (Nat.le_refl _)) (c := 1) (fun e => by cases e) (by omega) (by simp) ((HXW.out.alloc HXW.out.size _).drew)
                      simp only [List.length_cons, List.length_nil, Nat.zero_add] at happ hown
                      have HA := Lib.hid happ
                      have HOC := Lib.hid (And.intro hown hbel)
                      clear happ hown hbel
                      go_wp2_with (at_builtin; refine wpList_append_run rfl _ _ 28 rfl rfl _ _ _ _ rfl rfl HA.out ?_)
                      exact ⟨⟨j + (k + 1 + k'), q + 1, pc', p + 1, P', xs ++ [(v, u)], by go_num, rfl, by go_num, by omega, by omega, by omega, Lib.hid ⟨HOC.out.1, HOC.out.2, HO.out.2.2.1.append HWU.out, HN.out⟩⟩, by simp [intOf]; omega⟩
            · have HE := Lib.hid (HO.out.2.2.2.none_ HNO.out (by rw [HPL.out, List.drop_eq_nil_of_le (by rw [HL.out]; omega)]; rfl))
              have HPN := Lib.hid fun (A : Option Addr) (N C : Nat) (w : World) (hN : N = 0) (_ : Below W.heap.size W w) => rpoint_any [] A N C w ⟨hN.symm, fun h => absurd h (by omega)⟩ (by omega)
              clear HP2
              rcases Nat.lt_or_ge (j + k + 1) c with hjc | hjc
              · go_wp2_with (first
                  | (go_at_call 39; (with_reducible refine HPB.out.mono ?_); rintro e w2 ⟨hv, hb2⟩; obtain ⟨g2, pc2, rfl, hg2, cv⟩ := HPI.out _ _ hv hb2; clear hv; have ck2 := (hb2.cell (p := ⟨b, o + (j + k), none⟩) (Nat.lt_of_lt_of_le hb HO.out.2.1.size)).trans ck; have HB2 := Lib.hid (HO.out.2.1.trans (hb2.mono HO.out.2.1.size)); have HBW2 := Lib.hid hb2; clear hb2)
                  | (go_at_call 39; refine (HPN.out _ _ _ _ (by omega) HB2.out).mono ?_; rintro e w3 ⟨hv, hb3⟩; unfold ptV at hv; dsimp only [ptL] at hv; subst hv; have HB3 := Lib.hid (HB2.out.trans (hb3.mono HB2.out.size)); clear hb3))
                all_goals
                  go_quiet (fail)
                  go_wp2
                  go_ret2
                  refine ⟨?_, below_drewN HB3.out _⟩
                  rw [HE.out]
                  rfl
              · have hjc2 : c = j + k + 1 := by omega
                subst hjc2
                go_wp2_with (first
                  | (go_at_call 39; (with_reducible refine HPB.out.mono ?_); rintro e w2 ⟨hv, hb2⟩; obtain ⟨g2, pc2, rfl, hg2, cv⟩ := HPI.out _ _ hv hb2; clear hv; have ck2 := (hb2.cell (p := ⟨b, o + (j + k), none⟩) (Nat.lt_of_lt_of_le hb HO.out.2.1.size)).trans ck; have HB2 := Lib.hid (HO.out.2.1.trans (hb2.mono HO.out.2.1.size)); have HBW2 := Lib.hid hb2; clear hb2)
                  | (go_at_call 39; refine (HPN.out _ _ _ _ (by omega) HB2.out).mono ?_; rintro e w3 ⟨hv, hb3⟩; unfold ptV at hv; dsimp only [ptL] at hv; subst hv; have HB3 := Lib.hid (HB2.out.trans (hb3.mono HB2.out.size)); clear hb3))
                all_goals
                  go_quiet (fail)
                  go_wp2
                  go_ret2
                  refine ⟨?_, below_drewN HB3.out _⟩
                  rw [HE.out]
                  rfl
          · have HPL := Lib.hid (partL_plain HX.out (by
              rw [hl1, getD_drop9]
              rcases Bool.eq_false_or_eq_true is with h | h
              · refine .inr fun h2 => hjk ⟨h, ?_, h2⟩
                rcases Nat.lt_or_ge (j + k) n with h4 | h4
                · exact h4
                · rw [show l.getD (j + k) 0 = 0 by simp [List.getD, List.getElem?_eq_none (show l.length ≤ j + k by rw [HL.out]; exact h4)]] at h2; exact absurd h2 (by decide)
              · exact .inl h))
            rw [hl1] at HPL HX
            have HN := Lib.hid (HO.out.2.2.2.next HNO.out k1 (by rw [HL.out]; omega) HPL.out)
            have HPI := Lib.hid fun (e : Ending) (w2 : World) (hv : ptV wr w2 e (l.drop j)) => show ∃ (P2 : Option Addr) (q2 pc2 : Nat), e = .returned (.tuple #[.slice P2 q2 pc2, .bool is, .int .i64 (k : Int)]) ∧ q2 ≤ 5 ∧ w2.ownsRow wr.heap.size 58 2 (.slice P2 q2 pc2) q2 (cellsG s) by
              unfold ptV at hv
              rw [HX.out] at hv
              dsimp only at hv
              obtain ⟨P2, q2, pc2, k', rfl, h1, h2, h3, ho⟩ := hv
              have hkk : k' = k := by
                have h4 := congrArg List.length h3
                rw [List.drop_drop, List.length_drop, List.length_drop, HL.out] at h4
                rw [List.length_drop, HL.out] at h2
                omega
              subst hkk
              exact ⟨P2, q2, pc2, rfl, by have h := ho.1; rw [cellsG_length] at h; omega, ho⟩
            have hcl := cj
            by_cases hjk2 : j + k < n
            · have ck := (HO.out.2.1.cell (p := ⟨b, o + (j + k), none⟩) hb).trans (HC.out (j + k) hjk2)
              obtain ⟨z, hz⟩ : ∃ z, z = l.getD (j + k) 0 := ⟨_, rfl⟩
              rw [← hz] at ck hjk
              clear hz
              cases is with
              | false =>
                clear hjk
                go_wp2_with (first
                  | (go_at_call 39; (with_reducible refine HPB.out.mono ?_); rintro e w2 ⟨hv, hb2⟩; obtain ⟨P2, q2, pc2, rfl, hq2, ho2⟩ := HPI.out _ _ hv; clear hv; obtain ⟨P', pc', w', happ, hown, hbel⟩ := app_inG (W := W) (c := pc2) (row_base (ownG_kept HO.out.1 hb2) (fun x hx => (row_lt HO.out.1 hx).1)) (rowG_own9 ho2) (own_none ho2) (by omega) (by omega) (HO.out.2.1.trans (hb2.mono HO.out.2.1.size)); have HA := Lib.hid happ; have HOC := Lib.hid (And.intro hown hbel); clear happ hown hbel ho2 hb2)
                  | (at_builtin; refine wpList_append_run rfl _ _ 28 rfl rfl _ _ _ _ rfl rfl HA.out ?_))
                all_goals exact ⟨⟨j + k, q + q2, pc', p + 1, P', xs ++ s, by go_num, rfl, by go_num, by omega, by omega, by omega, Lib.hid ⟨HOC.out.1, HOC.out.2, HO.out.2.2.1.append HWS.out, HN.out⟩⟩, by simp [intOf]; omega⟩
              | true =>
                have e45 : (z == 45) = false := by
                  have h : z ≠ 45 := fun h => hjk ⟨rfl, hjk2, h⟩
                  simpa using h
                clear hjk
                go_wp2_with (first
                  | (go_at_call 39; (with_reducible refine HPB.out.mono ?_); rintro e w2 ⟨hv, hb2⟩; obtain ⟨P2, q2, pc2, rfl, hq2, ho2⟩ := HPI.out _ _ hv; clear hv; have ck2 := (hb2.cell (p := ⟨b, o + (j + k), none⟩) (Nat.lt_of_lt_of_le hb HO.out.2.1.size)).trans ck; obtain ⟨P', pc', w', happ, hown, hbel⟩ := app_inG (W := W) (c := pc2) (row_base (ownG_kept HO.out.1 hb2) (fun x hx => (row_lt HO.out.1 hx).1)) (rowG_own9 ho2) (own_none ho2) (by omega) (by omega) (HO.out.2.1.trans (hb2.mono HO.out.2.1.size)); have HA := Lib.hid happ; have HOC := Lib.hid (And.intro hown hbel); clear happ hown hbel ho2 hb2)
                  | (at_builtin; refine wpList_append_run rfl _ _ 28 rfl rfl _ _ _ _ rfl rfl HA.out ?_))
                all_goals exact ⟨⟨j + k, q + q2, pc', p + 1, P', xs ++ s, by go_num, rfl, by go_num, by omega, by omega, by omega, Lib.hid ⟨HOC.out.1, HOC.out.2, HO.out.2.2.1.append HWS.out, HN.out⟩⟩, by simp [intOf]; omega⟩
            · have HXX := HPI
              clear hjk
              go_wp2_with (first
                | (go_at_call 39; (with_reducible refine HPB.out.mono ?_); rintro e w2 ⟨hv, hb2⟩; obtain ⟨P2, q2, pc2, rfl, hq2, ho2⟩ := HPI.out _ _ hv; clear hv; obtain ⟨P', pc', w', happ, hown, hbel⟩ := app_inG (W := W) (c := pc2) (row_base (ownG_kept HO.out.1 hb2) (fun x hx => (row_lt HO.out.1 hx).1)) (rowG_own9 ho2) (own_none ho2) (by omega) (by omega) (HO.out.2.1.trans (hb2.mono HO.out.2.1.size)); have HA := Lib.hid happ; have HOC := Lib.hid (And.intro hown hbel); clear happ hown hbel ho2 hb2)
                | (at_builtin; refine wpList_append_run rfl _ _ 28 rfl rfl _ _ _ _ rfl rfl HA.out ?_))
              all_goals exact ⟨⟨j + k, q + q2, pc', p + 1, P', xs ++ s, by go_num, rfl, by go_num, by omega, by omega, by omega, Lib.hid ⟨HOC.out.1, HOC.out.2, HO.out.2.2.1.append HWS.out, HN.out⟩⟩, by simp [intOf]; omega⟩
    · have hjn2 : j = n := by omega
      subst hjn2
      have HE := Lib.hid (HO.out.2.2.2.none_ (fun h => by have h2 := h.2; rw [show l.getD j 0 = 0 by simp [List.getD, List.getElem?_eq_none (Nat.le_of_eq HL.out)]] at h2; exact absurd h2 (by decide)) (by rw [List.drop_eq_nil_of_le (by rw [HL.out]; exact Nat.le_refl _)]; rfl))
      have HP := Lib.hid fun (A : Option Addr) (C : Nat) => rpoint_any [] A 0 C wr ⟨rfl, fun h => absurd h (by omega)⟩ (by omega)
      rcases Nat.lt_or_ge j c with hjc | hjc
      · go_wp2_with (go_at_call 39; refine (HP.out _ _).mono ?_; rintro e w2 ⟨hv, hb2⟩; have HB2 := Lib.hid hb2; clear hb2; unfold ptV at hv; dsimp only [ptL] at hv; subst hv)
        go_ret2
        refine ⟨?_, HO.out.2.1.trans (HB2.out.mono HO.out.2.1.size)⟩
        rw [HE.out]
        rfl
      · have hjc2 : c = j := by omega
        subst hjc2
        go_wp2_with (go_at_call 39; refine (HP.out _ _).mono ?_; rintro e w2 ⟨hv, hb2⟩; have HB2 := Lib.hid hb2; clear hb2; unfold ptV at hv; dsimp only [ptL] at hv; subst hv)
        go_ret2
        refine ⟨?_, HO.out.2.1.trans (HB2.out.mono HO.out.2.1.size)⟩
        rw [HE.out]
        rfl
end Go.Proofs.Ytbhbdhjkicmecaa
/- The document's class. -/
namespace Go.Proofs.Ytbhbdhjkicmecaa
open Go Go.RowKit
set_option linter.unusedVariables false
set_option maxRecDepth 20000

set_option maxHeartbeats 1000000 in
theorem rclass_nil (A : Option Addr) (c : Nat) (W : World) (hr : RowI .i64 W A 0 []) :
    Calls Try.prog 22 #[.slice A 0 c] W fun e w' => clsV W w' e none [] ∧ Below W.heap.size W w' := by
  have HP := Lib.hid fun (A : Option Addr) (c : Nat) (w : World) => rpoint_any [] A 0 c w ⟨rfl, fun h => absurd h (by omega)⟩ (by omega)
  clear hr
  rcases A with _ | ⟨b, o, sp⟩
  all_goals
    go_enter Try.func22, Try.ntmps22
    go_wp2_with fail
    go_loopw [4, 6, 7] (fun va vs vp wr => va = .int .i64 0 ∧ vs = .slice none 0 0 ∧ vp = .int .i64 0 ∧ wr = W) (fun _ _ _ _ => 0)
    case atStart => exact ⟨rfl, rfl, rfl, rfl⟩
    case round =>
      obtain ⟨rfl, rfl, rfl, rfl⟩ := hrel
      go_wp2_with (go_at_call 39; (with_reducible refine (HP.out _ _ _).mono ?_); rintro e w1 ⟨h1, hb⟩; unfold ptV at h1; dsimp only [ptL] at h1; subst h1; have HB := Lib.hid hb; clear hb)
      go_ret2
      exact ⟨rfl, HB.out⟩

theorem rclass_any (l : List Int) (A : Option Addr) (n c : Nat) (W : World) (hr : RowI .i64 W A n l) (hn : n ≤ 200) (hnc : n ≤ c) (hw : ∀ x ∈ l, 0 ≤ x ∧ x ≤ 1114111) :
    Calls Try.prog 22 #[.slice A n c] W fun e w' => clsV W w' e (classL l) l ∧ Below W.heap.size W w' := by
  rcases l with _ | ⟨r, l⟩
  · have h := hr.1
    rw [List.length_nil] at h
    subst h
    exact rclass_nil A c W hr
  · have h0 : 0 < n := by have := hr.1; rw [List.length_cons] at this; omega
    by_cases e0 : r = 94
    · subst e0
      have e : classL (94 :: l) = (partsL (l.length + 1) l [] false).map fun p => (setOf fun r => hasL p.1 r != true, p.2) := by
        show (partsL (l.length + 1) l [] false).map (fun p => (setOf fun x => !hasL p.1 x, p.2)) = _
        congr 1
        funext p
        simp
      rw [e]
      exact rclass_not (94 :: l) A n c W hr hn hnc hw h0 rfl _ ⟨l.length + 1, by simp, rfl⟩
    · have e : classL (r :: l) = (partsL ((r :: l).length + 1) (r :: l) [] false).map fun p => (setOf fun r => hasL p.1 r != false, p.2) := by
        unfold classL
        split
        · rename_i l' h; injection h with h; exact absurd h e0
        · congr 1
          funext p
          simp
      rw [e]
      exact rclass_yes (r :: l) A n c W hr hn hnc hw h0 e0 _ ⟨_, by simp, rfl⟩
end Go.Proofs.Ytbhbdhjkicmecaa
