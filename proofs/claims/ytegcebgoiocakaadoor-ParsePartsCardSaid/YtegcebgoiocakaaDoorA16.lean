/- The document's Same of lists of ranges, and of trees. -/
import Derived.Test.YtegcebgoiocakaaDoorA03
import Derived.Test.YtegcebgoiocakaaDoorA04
import Derived.Test.YtegcebgoiocakaaDoorA05
import Derived.BigQuiet
import Derived.Deep.RegionHeldLaw
import Derived.Laws.BytesArg
namespace Go.Proofs.YtegcebgoiocakaaDoor
open Go Go.RowKit
set_option linter.unusedVariables false
set_option maxRecDepth 20000

theorem list_same {s t : List (Int × Int)} (hl : s.length = t.length) (h : ∀ j, j < s.length → s.getD j (0, 0) = t.getD j (0, 0)) : s = t := by
  apply List.ext_getElem hl
  intro j h1 h2
  have := h j h1
  rwa [getD_in j h1, getD_in j h2] at this
theorem list_not {s t : List (Int × Int)} (j : Nat) (h1 : j < s.length) (h : s.getD j (0, 0) ≠ t.getD j (0, 0)) : (s == t) = false := by
  cases hx : s == t with
  | false => rfl
  | true => rw [eq_of_beq hx] at h; exact absurd rfl h

set_option maxHeartbeats 2000000 in
theorem rsameL_any (s t : List (Int × Int)) (A D : Option Addr) (n m c d : Nat) (W : World) (ha : RowG W A n s) (hb : RowG W D m t) (hn : n ≤ 1000000) (hm : m ≤ 1000000) :
    Calls Tryd.prog 11 #[.slice A n c, .slice D m d] W fun e w' => e = .returned (.bool (s == t)) ∧ ∃ q, w' = W.drewN q := by
  have HA := Lib.hid ha; clear ha
  have HB := Lib.hid hb; clear hb
  by_cases hnm : n = m
  · subst hnm
    go_enter Tryd.func11, Tryd.ntmps11
    go_wp2
    go_loopw [5] (fun i wr => ∃ k q : Nat, k ≤ n ∧ i = .int .i64 k ∧ wr = W.drewN q ∧ Hid (∀ j, j < k → s.getD j (0, 0) = t.getD j (0, 0))) (fun i _ => n - (intOf i).toNat)
    case atStart => exact ⟨0, 0, Nat.zero_le _, rfl, rfl, Lib.hid fun j h => by omega⟩
    case round =>
      obtain ⟨k, q, hk, rfl, rfl, HF⟩ := hrel
      by_cases hlt : k < n
      · obtain ⟨b, o, rfl, _, hc⟩ := HA.out.2 (by omega)
        obtain ⟨b', o', rfl, _, hc'⟩ := HB.out.2 (by omega)
        obtain ⟨c0, c1⟩ := hc k hlt
        obtain ⟨e0, e1⟩ := hc' k hlt
        obtain ⟨r, hr⟩ : ∃ r, r = s.getD k (0, 0) := ⟨_, rfl⟩
        obtain ⟨r', hr'⟩ : ∃ r, r = t.getD k (0, 0) := ⟨_, rfl⟩
        rw [← hr] at c0 c1
        rw [← hr'] at e0 e1
        obtain ⟨x, y⟩ := r
        obtain ⟨x', y'⟩ := r'
        have HRR := Lib.hid (And.intro hr hr')
        clear hc hc' hr hr'
        dsimp only at c0 c1 e0 e1
        by_cases hxy : x = x' ∧ y = y'
        · obtain ⟨rfl, rfl⟩ := hxy
          have HN : Hid (∀ j, j < k + 1 → s.getD j (0, 0) = t.getD j (0, 0)) := Lib.hid fun j hj => by
            rcases Nat.lt_or_ge j k with h | h
            · exact HF.out j h
            · have : j = k := by omega
              rw [this, ← HRR.out.1, ← HRR.out.2]
          go_wp2
          go_quiet (fail)
          go_wp2
          refine ⟨⟨k + 1, q + nq, by omega, by go_num, rfl, HN⟩, by simp [intOf]; omega⟩
        · have HN : Hid ((s == t) = false) := Lib.hid (list_not k (by have := HA.out.1; omega) (by
            rw [← HRR.out.1, ← HRR.out.2]
            intro h
            injection h with h1 h2
            exact hxy ⟨h1, h2⟩))
          by_cases hx : x = x'
          · subst hx
            have hy : ¬ y = y' := fun e => hxy ⟨rfl, e⟩
            have by1 : (y == y') = false := by simpa using hy
            clear hxy
            go_wp2
            go_quiet (fail)
            go_wp2
            go_ret
            rw [HN.out]
            exact ⟨rfl, q + nq, by simp⟩
          · have bx1 : (x == x') = false := by simpa using hx
            clear hxy
            go_wp2
            go_quiet (fail)
            go_wp2
            go_ret
            rw [HN.out]
            exact ⟨rfl, q + nq, by simp⟩
      · have hkn : k = n := by omega
        subst hkn
        have HE := Lib.hid (show (s == t) = true by rw [list_same (by rw [HA.out.1, HB.out.1]) (fun j hj => HF.out j (by have := HA.out.1; omega))]; exact beq_self_eq_true _)
        go_wp2
        go_ret
        rw [HE.out]
        exact ⟨rfl, _, rfl⟩
  · have HE := Lib.hid (show (s == t) = false by
      cases hx : s == t with
      | false => rfl
      | true => have h := eq_of_beq hx; exact absurd (by rw [← HA.out.1, ← HB.out.1, h]) hnm)
    have h1 : ¬ (n : Int) = (m : Int) := by omega
    have h2 : ((n : Int) != (m : Int)) = true := by simpa using h1
    go_enter Tryd.func11, Tryd.ntmps11
    go_wp2
    go_ret
    rw [HE.out]
    exact ⟨rfl, 0, rfl⟩

/-- Two nodes that a call has boxed. -/
theorem box_two (W : World) (c1 c2 : Array Value) (t : TypeId) : ∃ W2 : World, W2 = (W.alloc (.cells c1 t)).alloc (.cells c2 t) ∧ Below W.heap.size W W2 ∧ ∀ wr, Below W2.heap.size W2 wr → (∀ j, wr.cell? ⟨W.heap.size, j, none⟩ = c1[j]?) ∧ (∀ j, wr.cell? ⟨W.heap.size + 1, j, none⟩ = c2[j]?) ∧ Below W.heap.size W wr := by
  refine ⟨_, rfl, ((Below.refl _ _).alloc (Nat.le_refl _) _).alloc (by simp) _, fun wr hb => ⟨fun j => ?_, fun j => ?_, (((Below.refl _ _).alloc (Nat.le_refl _) _).alloc (by simp) _).trans (hb.mono (by simp; omega))⟩⟩
  · rw [hb.cell (p := ⟨W.heap.size, j, none⟩) (by simp; omega), cell_of_row _ W.heap.size j c1 t (0, 0) (at_up (heap_alloc_new W _) _)]
  · rw [hb.cell (p := ⟨W.heap.size + 1, j, none⟩) (by simp), cell_of_row _ (W.heap.size + 1) j c2 t (0, 0) (at_new _ _ (by simp))]

set_option maxHeartbeats 4000000 in
/-- The document's Same of trees. -/
theorem rsame_any (N : Nat) : ∀ (T : Wood), heavy T ≤ N → ∀ (U : Wood) (F G : Nat → Prop) (W : World) (v u : Value), NodeIn F W v T → NodeIn G W u U → heavy T ≤ 1000000 → heavy U ≤ 1000000 →
    Calls Tryd.prog 7 #[v, u] W fun e w' => e = .returned (.bool (T.same U)) ∧ Below W.heap.size W w' := by
  induction N with
  | zero =>
    intro T hN U F G W v u hv hu _ _
    obtain ⟨op, s, mn, mx, k, A, D, ns, cs, nk, ck, rfl, _⟩ := hv
    simp [heavy] at hN
  | succ N ih =>
    intro T hN U F G W v u hv hu hs hs'
    obtain ⟨op, s, mn, mx, k, A, D, ns, cs, nk, ck, rfl, rfl, hr, hk⟩ := hv
    obtain ⟨op', s', mn', mx', k', A', D', ns', cs', nk', ck', rfl, rfl, hr', hk'⟩ := hu
    have hsz : heavy (Wood.cons op s mn mx k .nil) = 1 + s.length + heavy k := by simp [heavy]
    have hsz' : heavy (Wood.cons op' s' mn' mx' k' .nil) = 1 + s'.length + heavy k' := by simp [heavy]
    rw [hsz] at hN hs
    rw [hsz'] at hs'
    have HSM := Lib.hid (show (Wood.cons op s mn mx k .nil).same (Wood.cons op' s' mn' mx' k' .nil) = (op == op' && (mn == mn' && (mx == mx' && (s == s' && (k.same k' && true))))) from rfl)
    obtain ⟨R, hR⟩ : ∃ R, R = (Wood.cons op s mn mx k .nil).same (Wood.cons op' s' mn' mx' k' .nil) := ⟨_, rfl⟩
    rw [← hR] at HSM ⊢
    have hnk : nk ≤ 1000000 := by have := len_heavy k; have := hk.1; omega
    have hnk' : nk' ≤ 1000000 := by have := len_heavy k'; have := hk'.1; omega
    have HK := Lib.hid (And.intro hk hk')
    have HLEN := Lib.hid (And.intro hk.1 hk'.1)
    have HL := Lib.hid fun w (h : Below W.heap.size W w) => (rsameL_any s s' A A' ns ns' cs cs' w (hr.1.below h (Nat.le_refl _)) (hr'.1.below h (Nat.le_refl _)) (by have := hr.1.1; omega) (by have := hr'.1.1; omega)).mono fun e w' q => (⟨q.1, by obtain ⟨x, hx⟩ := q.2; rw [hx]; exact below_drewN (Below.refl _ _) x⟩ : e = .returned (.bool (s == s')) ∧ Below w.heap.size w w')
    have IH := Lib.hid ih
    have HH := Lib.hid (And.intro (show heavy k ≤ N by omega) (And.intro (show heavy k ≤ 1000000 by omega) (show heavy k' ≤ 1000000 by omega)))
    clear hsz hsz' hk hk' hr hr' ih hR hN hs hs'
    obtain ⟨W2, hW2, hb2, hbox⟩ := box_two W #[.int .i64 op, .slice A ns cs, .int .i64 mn, .int .i64 mx, .slice D nk ck] #[.int .i64 op', .slice A' ns' cs', .int .i64 mn', .int .i64 mx', .slice D' nk' ck'] 26
    have HBOX := Lib.hid hbox
    have HB2 := Lib.hid hb2
    have HC4 : Hid (∀ wr, Below W2.heap.size W2 wr → wr.cell? ⟨W.heap.size, 4, none⟩ = some (.slice D nk ck) ∧ wr.cell? ⟨W.heap.size + 1, 4, none⟩ = some (.slice D' nk' ck')) := Lib.hid fun wr h => ⟨(HBOX.out wr h).1 4, (HBOX.out wr h).2.1 4⟩
    clear hbox hb2
    by_cases h1 : op = op'
    · subst h1
      by_cases h2 : mn = mn'
      · subst h2
        by_cases h3 : mx = mx'
        · subst h3
          by_cases h4 : s = s'
          · subst h4
            have HSS := Lib.hid (show (s == s) = true from beq_self_eq_true _)
            by_cases h5 : nk = nk'
            · subst h5
              have HE := Lib.hid (show R = k.same k' by rw [HSM.out]; simp)
              go_enter Tryd.func7, Tryd.ntmps7
              go_wp2_with (go_at_call 11; rw [← hW2]; refine (HL.out _ HB2.out).mono ?_; rintro e w1 ⟨rfl, hb1⟩; rw [HSS.out]; obtain ⟨e4, e4'⟩ := HC4.out w1 hb1; have HB1 := Lib.hid hb1; clear hb1)
              go_loopw [5] (fun vi wr => ∃ j : Nat, vi = .int .i64 (j : Int) ∧ j ≤ nk ∧ Hid (Below W2.heap.size W2 wr ∧ ∀ i, i < j → (k.nth i).same (k'.nth i) = true)) (fun vi _ => nk - (intOf vi).toNat)
              case atStart => exact ⟨0, rfl, Nat.zero_le _, Lib.hid ⟨HB1.out, fun i h => by omega⟩⟩
              case round =>
                obtain ⟨j, rfl, hj, HO⟩ := hrel
                obtain ⟨b4, b4'⟩ := HC4.out wr HO.out.1
                have hbW := (HBOX.out wr HO.out.1).2.2
                by_cases hlt : j < nk
                · obtain ⟨b, o, op1, s1, mn1, mx1, k1, A1, D1, ns1, cs1, nk1, ck1, rfl, hlb, _, c0, c1, c2, c3, c4, hin⟩ := (HK.out.1.below hbW).kid hlt
                  obtain ⟨b', o', op1', s1', mn1', mx1', k1', A1', D1', ns1', cs1', nk1', ck1', rfl, hlb', _, e0, e1, e2, e3, e4, hin'⟩ := (HK.out.2.below hbW).kid hlt
                  have HC := Lib.hid fun w (h : Below wr.heap.size wr w) => (IH.out (k.nth j) (Nat.le_trans (heavy_nth k j (by rw [HLEN.out.1]; exact hlt)) HH.out.1) (k'.nth j) F G w _ _ (hin.below h) (hin'.below h) (Nat.le_trans (heavy_nth k j (by rw [HLEN.out.1]; exact hlt)) HH.out.2.1) (Nat.le_trans (heavy_nth k' j (by rw [HLEN.out.2]; exact hlt)) HH.out.2.2)).mono fun e w' q => (⟨q.1, h.trans (q.2.mono h.size)⟩ : e = .returned (.bool ((k.nth j).same (k'.nth j))) ∧ Below wr.heap.size wr w')
                  have hr0 : Below wr.heap.size wr wr.drew := (Below.refl _ _).drew
                  obtain ⟨r, hr⟩ : ∃ r, r = (k.nth j).same (k'.nth j) := ⟨_, rfl⟩
                  rw [← hr] at HC
                  have HRR := Lib.hid hr
                  have k0 : ∀ w, Below wr.heap.size wr w → w.cell? ⟨b, o + j * 5, none⟩ = some (.int .i64 op1) := fun w h => (h.cell (p := ⟨b, o + j * 5, none⟩) hlb).trans c0
                  have k1 : ∀ w, Below wr.heap.size wr w → w.cell? ⟨b, o + j * 5 + 1, none⟩ = some (.slice A1 ns1 cs1) := fun w h => (h.cell (p := ⟨b, o + j * 5 + 1, none⟩) hlb).trans c1
                  have k2 : ∀ w, Below wr.heap.size wr w → w.cell? ⟨b, o + j * 5 + 2, none⟩ = some (.int .i64 mn1) := fun w h => (h.cell (p := ⟨b, o + j * 5 + 2, none⟩) hlb).trans c2
                  have k3 : ∀ w, Below wr.heap.size wr w → w.cell? ⟨b, o + j * 5 + 3, none⟩ = some (.int .i64 mx1) := fun w h => (h.cell (p := ⟨b, o + j * 5 + 3, none⟩) hlb).trans c3
                  have k4 : ∀ w, Below wr.heap.size wr w → w.cell? ⟨b, o + j * 5 + 4, none⟩ = some (.slice D1 nk1 ck1) := fun w h => (h.cell (p := ⟨b, o + j * 5 + 4, none⟩) hlb).trans c4
                  have l0 : ∀ w, Below wr.heap.size wr w → w.cell? ⟨b', o' + j * 5, none⟩ = some (.int .i64 op1') := fun w h => (h.cell (p := ⟨b', o' + j * 5, none⟩) hlb').trans e0
                  have l1 : ∀ w, Below wr.heap.size wr w → w.cell? ⟨b', o' + j * 5 + 1, none⟩ = some (.slice A1' ns1' cs1') := fun w h => (h.cell (p := ⟨b', o' + j * 5 + 1, none⟩) hlb').trans e1
                  have l2 : ∀ w, Below wr.heap.size wr w → w.cell? ⟨b', o' + j * 5 + 2, none⟩ = some (.int .i64 mn1') := fun w h => (h.cell (p := ⟨b', o' + j * 5 + 2, none⟩) hlb').trans e2
                  have l3 : ∀ w, Below wr.heap.size wr w → w.cell? ⟨b', o' + j * 5 + 3, none⟩ = some (.int .i64 mx1') := fun w h => (h.cell (p := ⟨b', o' + j * 5 + 3, none⟩) hlb').trans e3
                  have l4 : ∀ w, Below wr.heap.size wr w → w.cell? ⟨b', o' + j * 5 + 4, none⟩ = some (.slice D1' nk1' ck1') := fun w h => (h.cell (p := ⟨b', o' + j * 5 + 4, none⟩) hlb').trans e4
                  have m4 : ∀ w, Below wr.heap.size wr w → w.cell? ⟨W.heap.size, 4, none⟩ = some (.slice (some ⟨b, o, none⟩) nk ck) := fun w h => (HC4.out w (HO.out.1.trans (h.mono HO.out.1.size))).1
                  have m4' : ∀ w, Below wr.heap.size wr w → w.cell? ⟨W.heap.size + 1, 4, none⟩ = some (.slice (some ⟨b', o', none⟩) nk ck') := fun w h => (HC4.out w (HO.out.1.trans (h.mono HO.out.1.size))).2
                  clear hin hin' hr hbW c0 c1 c2 c3 c4 e0 e1 e2 e3 e4
                  go_wp2_with fail
                  go_region_held (fun w' => Below wr.heap.size wr w') (assumption) (first
                    | (go_at_call 7; (with_reducible refine (HC.out _ (by assumption)).mono ?_); rintro e w3 ⟨rfl, hb3⟩))
                  have HB3 : Hid (Below W2.heap.size W2 w3) := Lib.hid (HO.out.1.trans (Below.mono (by assumption) HO.out.1.size))
                  clear k0 k1 k2 k3 k4 l0 l1 l2 l3 l4 m4 m4' hr0
                  cases r with
                  | true =>
                    go_wp2
                    refine ⟨⟨j + 1, by go_num, by omega, Lib.hid ⟨HB3.out, fun i hi => ?_⟩⟩, by simp [intOf]; omega⟩
                    rcases Nat.lt_or_ge i j with h | h
                    · exact HO.out.2 i h
                    · rw [show i = j by omega]; exact HRR.out.symm
                  | false =>
                    have HF := Lib.hid (show R = false by
                      rw [HE.out]
                      cases hx : k.same k' with
                      | false => rfl
                      | true =>
                        have h := (Wood.same_nth k k' (by rw [HLEN.out.1, HLEN.out.2])).1 hx j (by rw [HLEN.out.1]; exact hlt)
                        rw [← HRR.out] at h
                        cases h)
                    go_wp2
                    go_ret
                    rw [HF.out]
                    exact ⟨rfl, (HBOX.out _ HB3.out).2.2⟩
                · have hjn : j = nk := by omega
                  subst hjn
                  have HF := Lib.hid (show R = true by
                    rw [HE.out, Wood.same_nth k k' (by rw [HLEN.out.1, HLEN.out.2])]
                    intro i hi
                    exact HO.out.2 i (by rw [← HLEN.out.1]; exact hi))
                  have HBW := Lib.hid hbW
                  clear hbW
                  go_wp2
                  go_ret
                  rw [HF.out]
                  exact ⟨rfl, HBW.out⟩
            · have HE := Lib.hid (show R = false by
                rw [HSM.out]
                cases hx : k.same k' with
                | false => simp
                | true => exact absurd (by rw [← HLEN.out.1, ← HLEN.out.2, (Wood.same_iff _ _).1 hx]) h5)
              have n1 : ¬ (nk : Int) = (nk' : Int) := by omega
              have n2 : ((nk : Int) != (nk' : Int)) = true := by simpa using n1
              go_enter Tryd.func7, Tryd.ntmps7
              go_wp2_with (go_at_call 11; rw [← hW2]; refine (HL.out _ HB2.out).mono ?_; rintro e w1 ⟨rfl, hb1⟩; rw [HSS.out]; obtain ⟨e4, e4'⟩ := HC4.out w1 hb1; have HB1 := Lib.hid hb1; clear hb1)
              go_ret
              rw [HE.out]
              exact ⟨rfl, (HBOX.out _ HB1.out).2.2⟩
          · have HSS := Lib.hid (show (s == s') = false by simpa using h4)
            have HE := Lib.hid (show R = false by rw [HSM.out, HSS.out]; simp)
            go_enter Tryd.func7, Tryd.ntmps7
            go_wp2_with (go_at_call 11; rw [← hW2]; refine (HL.out _ HB2.out).mono ?_; rintro e w1 ⟨rfl, hb1⟩; rw [HSS.out]; have HB1 := Lib.hid hb1; clear hb1)
            go_ret
            rw [HE.out]
            exact ⟨rfl, (HBOX.out _ HB1.out).2.2⟩
        · have HE := Lib.hid (show R = false by rw [HSM.out]; simp [h3])
          have n1 : (mx != mx') = true := by simpa using h3
          go_enter Tryd.func7, Tryd.ntmps7
          go_wp2
          go_ret
          rw [HE.out]
          exact ⟨rfl, by rw [← hW2]; exact HB2.out⟩
      · have HE := Lib.hid (show R = false by rw [HSM.out]; simp [h2])
        have n1 : (mn != mn') = true := by simpa using h2
        go_enter Tryd.func7, Tryd.ntmps7
        go_wp2
        go_ret
        rw [HE.out]
        exact ⟨rfl, by rw [← hW2]; exact HB2.out⟩
    · have HE := Lib.hid (show R = false by rw [HSM.out]; simp [h1])
      have n1 : (op != op') = true := by simpa using h1
      go_enter Tryd.func7, Tryd.ntmps7
      go_wp2
      go_ret
      rw [HE.out]
      exact ⟨rfl, by rw [← hW2]; exact HB2.out⟩
end Go.Proofs.YtegcebgoiocakaaDoor
/- The document's digits of a number. -/
namespace Go.Proofs.YtegcebgoiocakaaDoor
open Go Go.RowKit
set_option linter.unusedVariables false
set_option maxRecDepth 20000

theorem strB_size (l : List UInt8) : (strB l).size = l.length := by simp [strB, ByteArray.size]
theorem strB_append (a b : List UInt8) : strB a ++ strB b = strB (a ++ b) := by
  apply ByteArray.ext
  simp [strB]
theorem nDigits_le {u : Nat} (h : u < 18446744073709551616) : Lib.nDigits u ≤ 20 := by
  rcases Nat.lt_or_ge 20 (Lib.nDigits u) with h1 | h1
  · have h2 : ∀ (k u : Nat), k < Lib.nDigits u → 10 ^ k ≤ u ∨ k = 0 := by
      intro k
      induction k with
      | zero => intro u _; exact .inr rfl
      | succ k ih =>
        intro u hk
        by_cases h : u < 10
        · rw [Lib.nDigits_small h] at hk; omega
        · rw [Lib.nDigits_big h] at hk
          rcases ih (u / 10) (by omega) with h3 | h3
          · left
            rw [Nat.pow_succ]
            omega
          · subst h3
            left
            simp
            omega
    rcases h2 20 u h1 with h3 | h3
    · have : (10 : Nat) ^ 20 = 100000000000000000000 := by decide
      omega
    · omega
  · exact h1
theorem decDigits_small {u : Nat} (h : u < 10) : Lib.decDigits u = [UInt8.ofNat (48 + u)] := by rw [Lib.decDigits, dif_pos h]
theorem decDigits_big {u : Nat} (h : ¬ u < 10) : Lib.decDigits u = Lib.decDigits (u / 10) ++ Lib.decDigits (u % 10) := by
  rw [Lib.decDigits, dif_neg h, decDigits_small (Nat.mod_lt u (by decide))]
theorem str1B (g : Nat) (u : Nat) (hu : u < 10) (w : World) (hg : g = w.heap.size) : (convert 42 9 (.slice (some ⟨g, 0, none⟩) 1 1)).run Tryd.prog (w.alloc (.cells #[.int .u8 (48 + (u : Int))] 5)) = .ok (.string (strB (Lib.decDigits u))) (w.alloc (.cells #[.int .u8 (48 + (u : Int))] 5)) := by
  subst hg
  have e : strB (Lib.decDigits u) = strOfNums [48 + (u : Int)] := by
    rw [decDigits_small hu]
    apply ByteArray.ext
    apply Array.toList_inj.1
    rw [strOfNums_data]
    simp [strB]
    apply UInt8.toNat_inj.1
    simp
    omega
  rw [e]
  exact run_convert_bytes_arg (P := Tryd.prog) _ 42 5 Tryd.underlying42 Tryd.underlying5 w.heap.size 0 1 1 [48 + (u : Int)] rfl (fun i hi => by
    obtain rfl : i = 0 := by omega
    simp) 9 Tryd.underlying9



end Go.Proofs.YtegcebgoiocakaaDoor
/- How long what is shown may be. -/
namespace Go.Proofs.YtegcebgoiocakaaDoor
open Go Go.RowKit
set_option linter.unusedVariables false

/-- A whole number of 64 bits. -/
def In64 (n : Int) : Prop := -9223372036854775808 ≤ n ∧ n ≤ 9223372036854775807
/-- All numbers of a tree are. -/
def WfW : Wood → Prop
  | .nil => True
  | .cons op s mn mx k x => (In64 op ∧ In64 mn ∧ In64 mx ∧ ∀ p ∈ s, In64 p.1 ∧ In64 p.2) ∧ WfW k ∧ WfW x
theorem wfW_nth : ∀ (a : Wood) (j : Nat), j < a.len → WfW a → WfW (a.nth j)
  | .nil, _, h, _ => by simp [Wood.len] at h
  | .cons .., 0, _, ⟨h1, h2, _⟩ => ⟨h1, h2, trivial⟩
  | .cons _ _ _ _ _ x, j + 1, h, ⟨_, _, h3⟩ => wfW_nth x j (by simp only [Wood.len] at h; omega) h3
theorem ba_size (a b : ByteArray) : (a ++ b).size = a.size + b.size := ByteArray.size_append
theorem digB_size {n : Int} (h : In64 n) : (digB n).size ≤ 21 := by
  unfold In64 at h
  have e : (digB n).size = (Lib.itoa n).length := strB_size _
  rw [e]
  unfold Lib.itoa
  split
  · rw [List.length_cons, Lib.decDigits_length]
    have := nDigits_le (u := n.natAbs) (by omega)
    omega
  · rw [Lib.decDigits_length]
    have := nDigits_le (u := n.toNat) (by omega)
    omega
theorem joinB_size (sep : ByteArray) : ∀ l : List ByteArray, (joinB sep l).size ≤ (l.map ByteArray.size).sum + sep.size * l.length
  | [] => Nat.zero_le _
  | [x] => by simp [joinB]
  | x :: y :: l => by
    have ih := joinB_size sep (y :: l)
    rw [joinB, ba_size, ba_size, List.map_cons, List.sum_cons, List.length_cons, Nat.mul_add, Nat.mul_one]
    omega
theorem rngB_size {p : Int × Int} (h : In64 p.1 ∧ In64 p.2) : (rngB p).size ≤ 43 := by
  have h1 := digB_size h.1
  have h2 := digB_size h.2
  unfold rngB
  split
  · omega
  · rw [ba_size, ba_size, strB_size]
    simp only [List.length_cons, List.length_nil]
    omega
theorem setB_size : ∀ {s : List (Int × Int)}, (∀ p ∈ s, In64 p.1 ∧ In64 p.2) → (setB s).size ≤ 44 * s.length := by
  intro s h
  have h1 := joinB_size (strB [32]) (s.map rngB)
  rw [strB_size, List.length_map] at h1
  have h2 : ((s.map rngB).map ByteArray.size).sum ≤ 43 * s.length := by
    clear h1
    induction s with
    | nil => exact Nat.le_refl _
    | cons p s ih =>
      have := rngB_size (h p (by simp))
      have := ih fun q hq => h q (List.mem_cons_of_mem _ hq)
      rw [List.map_cons, List.map_cons, List.sum_cons, List.length_cons]
      omega
  have e : setB s = joinB (strB [32]) (s.map rngB) := rfl
  rw [e]
  simp only [List.length_cons, List.length_nil] at h1
  omega
theorem nodeB_size {op : Int} {s : List (Int × Int)} {mn mx : Int} (K : ByteArray) (h1 : In64 mn) (h2 : In64 mx) (h3 : ∀ p ∈ s, In64 p.1 ∧ In64 p.2) : (nodeB op s mn mx K).size ≤ 56 + 44 * s.length + K.size := by
  have d1 := digB_size h1
  have d2 := digB_size h2
  have d3 := setB_size h3
  unfold nodeB
  (repeat' split) <;> simp only [ba_size, strB_size, List.length_cons, List.length_nil] <;> omega
theorem showW_size : ∀ {a : Wood}, WfW a → ((showW a).map ByteArray.size).sum + a.len ≤ 64 * heavy a
  | .nil, _ => Nat.le_refl _
  | .cons op s mn mx k x, ⟨⟨_, h1, h2, h3⟩, h4, h5⟩ => by
    have i1 := showW_size h4
    have i2 := showW_size h5
    have j1 := joinB_size (strB [44]) (showW k)
    rw [strB_size, showW_len] at j1
    simp only [List.length_cons, List.length_nil] at j1
    have n1 := nodeB_size (op := op) (joinB (strB [44]) (showW k)) h1 h2 h3
    simp only [showW, List.map_cons, List.sum_cons, Wood.len, heavy]
    omega
theorem kidsB_size {a : Wood} (h : WfW a) : (kidsB a).size ≤ 64 * heavy a := by
  have h1 := showW_size h
  have j1 := joinB_size (strB [44]) (showW a)
  rw [strB_size, showW_len] at j1
  simp only [List.length_cons, List.length_nil] at j1
  have e : kidsB a = joinB (strB [44]) (showW a) := rfl
  rw [e]
  omega
theorem wfW_take : ∀ (a : Wood) (j : Nat), WfW a → WfW (a.take j)
  | .nil, j, _ => by cases j <;> trivial
  | .cons .., 0, _ => trivial
  | .cons _ _ _ _ _ x, j + 1, ⟨h1, h2, h3⟩ => ⟨h1, h2, wfW_take x j h3⟩
theorem heavy_take : ∀ (a : Wood) (j : Nat), heavy (a.take j) ≤ heavy a
  | .nil, j => by cases j <;> exact Nat.le_refl _
  | .cons .., 0 => Nat.zero_le _
  | .cons _ _ _ _ _ x, j + 1 => by have := heavy_take x j; simp only [Wood.take, heavy]; omega
end Go.Proofs.YtegcebgoiocakaaDoor
/- Trees that are shown alike. -/
namespace Go.Proofs.YtegcebgoiocakaaDoor
open Go Go.RowKit
set_option linter.unusedVariables false

/-! ### Digits -/
def digU (c : UInt8) : Bool := decide (48 ≤ c.toNat ∧ c.toNat ≤ 57)
theorem decDigits_dig : ∀ (N u : Nat), u ≤ N → Lib.decDigits u ≠ [] ∧ ∀ c ∈ Lib.decDigits u, digU c = true
  | N, u, h => by
    by_cases h10 : u < 10
    · rw [decDigits_small h10]
      refine ⟨by simp, fun c hc => ?_⟩
      rw [List.mem_singleton] at hc
      subst hc
      unfold digU
      have : (UInt8.ofNat (48 + u)).toNat = 48 + u := by simp; omega
      rw [this, decide_eq_true_iff]; omega
    · match N, h with
      | 0, h => omega
      | N + 1, h =>
        rw [decDigits_big h10]
        obtain ⟨h1, h2⟩ := decDigits_dig N (u / 10) (by omega)
        obtain ⟨h3, h4⟩ := decDigits_dig N (u % 10) (by omega)
        refine ⟨by simp [h1], fun c hc => ?_⟩
        rcases List.mem_append.1 hc with hc | hc
        · exact h2 c hc
        · exact h4 c hc
/-- A number out of its digits. -/
def readU (l : List UInt8) : Nat := l.foldl (fun a c => 10 * a + (c.toNat - 48)) 0
theorem readU_snoc (l : List UInt8) (c : UInt8) : readU (l ++ [c]) = 10 * readU l + (c.toNat - 48) := by simp [readU]
theorem readU_dec : ∀ (N u : Nat), u ≤ N → readU (Lib.decDigits u) = u
  | N, u, h => by
    by_cases h10 : u < 10
    · rw [decDigits_small h10]
      have : (UInt8.ofNat (48 + u)).toNat = 48 + u := by simp; omega
      simp only [readU, List.foldl, this]; omega
    · match N, h with
      | 0, h => omega
      | N + 1, h =>
        rw [decDigits_big h10, decDigits_small (u := u % 10) (by omega), readU_snoc, readU_dec N (u / 10) (by omega)]
        have : (UInt8.ofNat (48 + u % 10)).toNat = 48 + u % 10 := by simp; omega
        rw [this]; omega
theorem decDigits_inj {u v : Nat} (h : Lib.decDigits u = Lib.decDigits v) : u = v := by
  rw [← readU_dec u u (Nat.le_refl _), h, readU_dec v v (Nat.le_refl _)]
/-- Digits, and what stands behind them. -/
theorem digits_cut : ∀ (a b r t : List UInt8), (∀ c ∈ a, digU c = true) → (∀ c ∈ b, digU c = true) → (∀ c, r.head? = some c → digU c = false) → (∀ c, t.head? = some c → digU c = false) → a ++ r = b ++ t → a = b ∧ r = t
  | [], [], r, t, _, _, _, _, h => ⟨rfl, h⟩
  | [], y :: b, r, t, _, hb, hr, _, h => by
    rw [List.nil_append, List.cons_append] at h
    have := hr y (by rw [h]; rfl)
    rw [hb y (by simp)] at this; cases this
  | x :: a, [], r, t, ha, _, _, ht, h => by
    rw [List.nil_append, List.cons_append] at h
    have := ht x (by rw [← h]; rfl)
    rw [ha x (by simp)] at this; cases this
  | x :: a, y :: b, r, t, ha, hb, hr, ht, h => by
    rw [List.cons_append, List.cons_append] at h
    injection h with h1 h2
    obtain ⟨e1, e2⟩ := digits_cut a b r t (fun c hc => ha c (by simp [hc])) (fun c hc => hb c (by simp [hc])) hr ht h2
    exact ⟨by rw [h1, e1], e2⟩
def itoaOk (r : List UInt8) : Prop := ∀ c, r.head? = some c → digU c = false
theorem itoa_cut {n m : Int} {r t : List UInt8} (hr : itoaOk r) (ht : itoaOk t) (h : Lib.itoa n ++ r = Lib.itoa m ++ t) : n = m ∧ r = t := by
  have D := fun u => (decDigits_dig u u (Nat.le_refl _)).2
  have NE := fun u => (decDigits_dig u u (Nat.le_refl _)).1
  have no45 : ∀ (u : Nat) (l x : List UInt8), Lib.decDigits u ++ l ≠ 45 :: x := fun u l x e => by
    rcases hd : Lib.decDigits u with _ | ⟨c, ds⟩
    · exact NE u hd
    · rw [hd, List.cons_append] at e
      injection e with e _
      have := D u c (by rw [hd]; simp)
      rw [e] at this
      cases this
  unfold Lib.itoa at h
  by_cases hn : n < 0 <;> by_cases hm : m < 0
  · rw [if_pos hn, if_pos hm, List.cons_append, List.cons_append] at h
    injection h with _ h
    obtain ⟨e1, e2⟩ := digits_cut _ _ _ _ (D _) (D _) hr ht h
    have := decDigits_inj e1
    exact ⟨by omega, e2⟩
  · rw [if_pos hn, if_neg hm, List.cons_append] at h
    exact absurd h.symm (no45 _ _ _)
  · rw [if_neg hn, if_pos hm, List.cons_append] at h
    exact absurd h (no45 _ _ _)
  · rw [if_neg hn, if_neg hm] at h
    obtain ⟨e1, e2⟩ := digits_cut _ _ _ _ (D _) (D _) hr ht h
    have := decDigits_inj e1
    exact ⟨by omega, e2⟩
end Go.Proofs.YtegcebgoiocakaaDoor
