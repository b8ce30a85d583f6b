/- Contracts of Ints (are two lists the same?), of Units, and of the document's Units. -/
import Derived.Test.YtegcebgoiocakaaM01
import Derived.Test.YtegcebgoiocakaaO02
import Derived.Test.YtegcebgoiocakaaP06
import Derived.Deep.QuietTactic
import Derived.BigQuiet
namespace Go.Proofs.Ytegcebgoiocakaa
open Go Go.RowKit

theorem ints_len (A B : Option Addr) (n m cA cB : Nat) (w : World) (h : ¬ (n : Int) = m) :
    Calls Try.prog 11 #[.slice A n cA, .slice B m cB] w fun e w' => e = .returned (.bool false) ∧ ∃ q, w' = w.drewN q := by
  have hb : ((n : Int) != m) = true := by rw [bne_iff_ne]; exact h
  clear h
  go_enter Try.func11, Try.ntmps11
  go_wp2
  go_ret
  exact ⟨rfl, 0, rfl⟩

set_option maxHeartbeats 400000 in
theorem ints_row (A B : Option Addr) (n cA cB : Nat) (xs ys : List Int) (w : World) (ha : RowI .i64 w A n xs) (hb : RowI .i64 w B n ys) (hn : n ≤ 4611686018427387904) :
    Calls Try.prog 11 #[.slice A n cA, .slice B n cB] w fun e w' => e = .returned (.bool (decide (xs = ys))) ∧ ∃ q, w' = w.drewN q := by
  obtain ⟨la, ha⟩ := ha
  obtain ⟨lb, hb⟩ := hb
  have LA := Lib.hid la; clear la
  have LB := Lib.hid lb; clear lb
  have HA := Lib.hid ha; clear ha
  have HB := Lib.hid hb; clear hb
  go_enter Try.func11, Try.ntmps11
  go_wp2
  go_loopw [5] (fun i wr => ∃ k q : Nat, k ≤ n ∧ i = .int .i64 k ∧ wr = w.drewN q ∧ Hid (∀ j, j < k → xs.getD j 0 = ys.getD j 0)) (fun i _ => n - (intOf i).toNat)
  case atStart => exact ⟨0, 0, Nat.zero_le _, rfl, rfl, Lib.hid (fun j hj => absurd hj (by omega))⟩
  case round =>
    obtain ⟨k, q, hk, rfl, rfl, he⟩ := hrel
    by_cases hlt : k < n
    · obtain ⟨b, o, rfl, _, hc⟩ := HA.out (by omega)
      obtain ⟨b', o', rfl, _, hc'⟩ := HB.out (by omega)
      have c1 := hc k hlt
      have c2 := hc' k hlt
      clear hc hc'
      obtain ⟨x, hx⟩ : ∃ x, x = xs.getD k 0 := ⟨_, rfl⟩
      obtain ⟨y, hy⟩ : ∃ y, y = ys.getD k 0 := ⟨_, rfl⟩
      rw [← hx] at c1
      rw [← hy] at c2
      have HX := Lib.hid hx; clear hx
      have HY := Lib.hid hy; clear hy
      by_cases hxy : x = y
      · have hbb : (x != y) = false := by rw [bne_eq_false_iff_eq]; exact hxy
        have HXY := Lib.hid hxy; clear hxy
        go_wp2
        go_quiet (fail)
        go_wp2
        refine ⟨⟨k + 1, q + nq, by omega, by go_num, rfl, Lib.hid fun j hj => ?_⟩, by simp [intOf]; omega⟩
        rcases Nat.lt_or_ge j k with h | h
        · exact he.out j h
        · obtain rfl : j = k := by omega
          rw [← HX.out, ← HY.out]
          exact HXY.out
      · have hbb : (x != y) = true := by rw [bne_iff_ne]; exact hxy
        have HXY := Lib.hid hxy; clear hxy
        go_wp2
        go_quiet (fail)
        go_wp2
        go_ret
        refine ⟨?_, q + nq, by simp⟩
        rw [decide_eq_false]
        · rfl
        · rintro rfl
          exact HXY.out (HX.out.trans HY.out.symm)
    · go_wp2
      go_ret
      refine ⟨?_, _, rfl⟩
      rw [decide_eq_true]
      · rfl
      apply List.ext_getElem (by rw [LA.out, LB.out])
      intro i h1 h2
      have := he.out i (by have := LA.out; omega)
      simpa [List.getD, List.getElem?_eq_getElem h1, List.getElem?_eq_getElem h2] using this
end Go.Proofs.Ytegcebgoiocakaa
/- MatchFinds: the longest match from any place, and the first one from any place on, are the document's. -/
namespace Go.Proofs.Ytegcebgoiocakaa
open Go Go.RowKit
set_option linter.unusedVariables false
set_option maxRecDepth 20000

theorem ints_same (A B : Option Addr) (n cA cB : Nat) (xs : List Int) (w : World) (ha : RowI .i64 w A n xs) (hb : RowI .i64 w B n xs) (hn : n ≤ 4611686018427387904) :
    Calls Try.prog 11 #[.slice A n cA, .slice B n cB] w fun e w' => e = .returned (.bool true) ∧ ∃ q, w' = w.drewN q :=
  (ints_row A B n cA cB xs xs w ha hb hn).mono fun e w' h => ⟨by rw [h.1, decide_eq_true rfl], h.2⟩
theorem fld_text (PR : Option Addr) (kt pr : Nat) (PQ : Option Addr) (m qc : Nat) (w : World) : (Instr.field 30 (.agg #[.slice PR kt pr, .slice PQ m qc]) 1).run Try.prog w = .ok (.slice PQ m qc) w := by kernel_rfl
set_option maxHeartbeats 8000000 in
theorem finds11 (s T : ByteArray) (at_ : Int) (w : World) :
    Calls Try.prog 3 #[.string s, .string T, .int .i64 at_] w fun e w' => e = .returned (.bool true) ∧ Below w.heap.size w w' := by
  have HA := Lib.hid (awake11_any w)
  have HA2 := Lib.hid fun w => awake11_any w
  have HM := Lib.hid fun w => made11_any s w
  by_cases hbig : 60 < s.size ∨ 40 < T.size
  · have hdone : ∀ w1, Below w.heap.size w w1 → ∀ w2, Below w1.heap.size w1 w2 → Below w.heap.size w w2 := fun w1 h1 w2 h2 => h1.trans (h2.mono h1.size)
    by_cases h60 : 60 < s.size
    · have h1 : (60 : Int) < (s.size : Int) := by omega
      clear hbig h60
      go_enter Try.func3, Try.ntmps3
      go_wp2_with (first
        | (go_at_call 8; (with_reducible refine HA.out.mono ?_); rintro e w1 ⟨rfl, hb⟩; have HB := Lib.hid hb; clear hb)
        | (go_at_call 8; (with_reducible refine (HA2.out _).mono ?_); rintro e w2 ⟨rfl, hb⟩; have HB2 := Lib.hid hb; clear hb))
      go_ret
      exact ⟨rfl, hdone _ HB.out _ HB2.out⟩
    · have h1 : ¬ (60 : Int) < (s.size : Int) := by omega
      have h2 : (40 : Int) < (T.size : Int) := by omega
      clear hbig h60
      go_enter Try.func3, Try.ntmps3
      go_wp2_with (first
        | (go_at_call 8; (with_reducible refine HA.out.mono ?_); rintro e w1 ⟨rfl, hb⟩; have HB := Lib.hid hb; clear hb)
        | (go_at_call 8; (with_reducible refine (HA2.out _).mono ?_); rintro e w2 ⟨rfl, hb⟩; have HB2 := Lib.hid hb; clear hb))
      go_ret
      exact ⟨rfl, hdone _ HB.out _ HB2.out⟩
  · have h1 : ¬ (60 : Int) < (s.size : Int) := by omega
    have h2 : ¬ (40 : Int) < (T.size : Int) := by omega
    have HT := Lib.hid (show T.size ≤ 40 by omega)
    clear hbig
    go_enter Try.func3, Try.ntmps3
    go_wp2_with (go_at_call 8; (with_reducible refine HA.out.mono ?_); rintro e w1 ⟨rfl, hb⟩; have HB := Lib.hid hb; clear hb)
    refine (HM.out _).mono ?_
    rintro e w2 ⟨hb, rfl | ⟨P, n, pc, l, rfl, hn0, hn, hI, hr, hset⟩⟩
    · have HB2 := Lib.hid (HB.out.trans (hb.mono HB.out.size))
      clear hb
      go_wp2
      go_ret
      exact ⟨rfl, HB2.out⟩
    · have HB2 := Lib.hid (HB.out.trans (hb.mono HB.out.size))
      have hT := HT.out
      have hIF : ∀ w', Below w2.heap.size w2 w' → InsF (fun b => b < w2.heap.size) w' P n l := fun w' hb => (hI.mono (F' := fun b => b < w2.heap.size) (fun b _ h => h)).belowB hb
      have hmn : (T.size + 1) * n ≤ 50000 := Nat.le_trans (Nat.mul_le_mul (show T.size + 1 ≤ 41 by omega) hn) (by decide)
      have C2 := Lib.hid fun (w' : World) (hb : Below w2.heap.size w2 w') (a : Int) => long_match P n pc l T a w' (hIF w' hb) hr (by omega) (by omega)
      have C3 := Lib.hid fun (w' : World) (hb : Below w2.heap.size w2 w') => first_match P n pc l T at_ w' (hIF w' hb) hr (by omega) (by omega)
      have D2 := Lib.hid fun (w' : World) (hb : Below w2.heap.size w2 w') (a : Int) => rlong_any P n pc l T a w' (hIF w' hb) hr hset hmn (by omega)
      have D3 := Lib.hid fun (w' : World) (hb : Below w2.heap.size w2 w') => rfirst_any P n pc l T at_ w' (hIF w' hb) hr hset hmn (by omega)
      have HRR := Lib.hid (rright_any P n pc l w2 hI.insAt (by omega))
      rw [hr] at HRR
      have HPl := Lib.hid fun (w' : World) => places_any T w' (by omega)
      have HOf := Lib.hid fun (w' : World) => rof_any T w' (by omega)
      have hn1 : ((n : Int) == 0) = false := by simp; omega
      have hn2 : ¬ (n : Int) = 0 := by omega
      clear hb hI hr hset hmn hIF hT hn hn0
      go_wp2_with (first
        | (go_at_call 10; (with_reducible refine HRR.out.mono ?_); rintro e w3 ⟨rfl, hb1⟩; have HB3 := Lib.hid hb1; clear hb1)
        | (go_at_call 12; (with_reducible refine (HPl.out _).mono ?_); rintro e w4 ⟨PP, pq, pp, rfl, ho, hb1⟩; have HB4 := Lib.hid (HB3.out.trans (hb1.mono HB3.out.size)); have HO4 := Lib.hid ho; clear ho hb1)
        | (go_at_call 13; (with_reducible refine (HOf.out _).mono ?_); rintro e w5 ⟨PR, kt, pr, PQ, m, qc, rfl, hTV, hb1⟩; have HB5 := Lib.hid (HB4.out.trans (hb1.mono HB4.out.size)); have hfd := fld_text PR kt pr PQ m qc; have r4 := (ownI_row HO4.out).1.below hb1 (Nat.le_refl _); have r5 := (ownI_row hTV.2).1; obtain rfl : pq = m := (by have h1 := r4.1; have h2 := r5.1; omega); have HI := Lib.hid (ints_same PP PQ pq pp qc _ w5 r4 r5 (by have h1 := r4.1; rw [← h1]; unfold iN; rw [List.length_map, atT_len]; have h3 := rsT_le (T := nums T); rw [nums_length] at h3; have := HT.out; omega)); clear r4 r5 hTV hb1)
        | (go_at_call 11; (with_reducible refine HI.out.mono ?_); rintro e w6 ⟨rfl, qq, rfl⟩))
      obtain ⟨W, hW⟩ : ∃ W, W = w5.drewN qq := ⟨_, rfl⟩
      rw [← hW]
      have HW := Lib.hid (show Below w2.heap.size w2 W by rw [hW]; exact below_drewN HB5.out qq)
      have HT1 := Lib.hid (show T.size ≤ 40 from HT.out)
      clear hW
      go_loopw [8] (fun v8 wr => ∃ i : Int, v8 = .int .i64 i ∧ -1 ≤ i ∧ i ≤ (T.size : Int) + 2 ∧ Hid (Below w2.heap.size w2 wr)) (fun v8 _ => match v8 with | .int _ j => ((T.size : Int) + 2 - j).toNat | _ => 0)
      case atStart => exact ⟨-1, rfl, by omega, by omega, Lib.hid HW.out⟩
      case round =>
        obtain ⟨i, rfl, hi0, hi2, H⟩ := hrel
        have hTb : (T.size : Int) ≤ 40 := by have := HT1.out; omega
        by_cases hlt : i ≤ (T.size : Int) + 1
        · obtain ⟨k, hk⟩ : ∃ k : Int, k = if (T.size : Int) < i then at_ else i := ⟨_, rfl⟩
          have HC := Lib.hid (C2.out wr H.out k)
          by_cases hgt : (T.size : Int) < i
          · rw [if_pos hgt] at hk
            subst hk
            go_wp2_with (first
              | (go_at_call 14; (with_reducible refine HC.out.mono ?_); rintro e w7 ⟨lv, lok, rfl, hl1, hb1⟩; have HB7 := Lib.hid (H.out.trans (hb1.mono H.out.size)); have E2 := Lib.hid hl1; clear hl1 hb1)
              | (go_at_call 15; (with_reducible refine (D2.out _ HB7.out _).mono ?_); rintro e w8 ⟨rv, rok, rfl, hl2, hb1⟩; have HB8 := Lib.hid (HB7.out.trans (hb1.mono HB7.out.size)); obtain ⟨e1, e2⟩ := E2.out.uniq hl2; subst e1; subst e2; clear hl2 hb1))
            all_goals
              exact ⟨⟨i + 1, rfl, by omega, by omega, Lib.hid HB8.out⟩, by show ((T.size : Int) + 2 - (i + 1)).toNat < ((T.size : Int) + 2 - i).toNat; omega⟩
          · rw [if_neg hgt] at hk
            subst hk
            go_wp2_with (first
              | (go_at_call 14; (with_reducible refine HC.out.mono ?_); rintro e w7 ⟨lv, lok, rfl, hl1, hb1⟩; have HB7 := Lib.hid (H.out.trans (hb1.mono H.out.size)); have E2 := Lib.hid hl1; clear hl1 hb1)
              | (go_at_call 15; (with_reducible refine (D2.out _ HB7.out _).mono ?_); rintro e w8 ⟨rv, rok, rfl, hl2, hb1⟩; have HB8 := Lib.hid (HB7.out.trans (hb1.mono HB7.out.size)); obtain ⟨e1, e2⟩ := E2.out.uniq hl2; subst e1; subst e2; clear hl2 hb1))
            all_goals
              exact ⟨⟨k + 1, rfl, by omega, by omega, Lib.hid HB8.out⟩, by show ((T.size : Int) + 2 - (k + 1)).toNat < ((T.size : Int) + 2 - k).toNat; omega⟩
        · go_wp2_with (first
            | (go_at_call 16; (with_reducible refine (C3.out _ H.out).mono ?_); rintro e w7 ⟨fx, fy, fok, rfl, hf1, hb1⟩; have HB7 := Lib.hid (H.out.trans (hb1.mono H.out.size)); have E3 := Lib.hid hf1; have HB8 := Lib.hid (HB7.out.alloc HB7.out.size (.cells #[.int .i64 fx, .int .i64 fy] 35)); have HBX := Lib.hid (heap_alloc_new w7 (.cells #[.int .i64 fx, .int .i64 fy] 35)); clear hf1 hb1)
            | (go_at_call 17; (with_reducible refine (D3.out _ HB8.out).mono ?_); rintro e w9 ⟨gx, gy, gok, rfl, hf2, hb1⟩; have HB9 := Lib.hid (HB8.out.trans (hb1.mono HB8.out.size)); obtain ⟨e3, e4⟩ := E3.out.uniq hf2; injection e3 with e5 e6; subst e4; subst e5; subst e6; have HB10 := Lib.hid (HB9.out.alloc HB9.out.size (.cells #[.int .i64 fx, .int .i64 fy] 35)); have hx := hp_old (o := .cells #[.int .i64 fx, .int .i64 fy] 35) ((hb1.block w7.heap.size (by simp)).trans HBX.out); have hg := heap_alloc_new w9 (.cells #[.int .i64 fx, .int .i64 fy] 35); obtain ⟨x0, x1, _, _⟩ := box_two hx; obtain ⟨z0, z1, _, _⟩ := box_two hg; clear hx hg hf2 hb1))
          go_ret
          exact ⟨rfl, HB2.out.trans (HB10.out.mono HB2.out.size)⟩
end Go.Proofs.Ytegcebgoiocakaa
