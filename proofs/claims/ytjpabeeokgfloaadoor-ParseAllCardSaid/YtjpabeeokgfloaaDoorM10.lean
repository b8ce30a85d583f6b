/- The document's Same of lists of ranges, and of trees. -/
import Derived.Test.YtjpabeeokgfloaaDoorM04
import Derived.Test.YtjpabeeokgfloaaDoorM05
import Derived.Test.YtjpabeeokgfloaaDoorM09
import Derived.BigQuiet
import Derived.Deep.RegionHeldLaw
namespace Go.Proofs.YtjpabeeokgfloaaDoor
open Go Go.RowKit
set_option linter.unusedVariables false
set_option maxRecDepth 20000

theorem list_same {s t : List (Int × Int)} (hl : s.length = t.length) (h : ∀ j, j < s.length → s.getD j (0, 0) = t.getD j (0, 0)) : s = t := by
  apply List.ext_getElem hl
  intro j h1 h2
  have := h j h1
  rwa [getD_in j h1, getD_in j h2] at this
theorem list_not {s t : List (Int × Int)} (j : Nat) (h1 : j < s.length) (h : s.getD j (0, 0) ≠ t.getD j (0, 0)) : (s == t) = false := by
  cases hx : s == t with
  | false => rfl
  | true => rw [eq_of_beq hx] at h; exact absurd rfl h

set_option maxHeartbeats 2000000 in
theorem rsameL_any (s t : List (Int × Int)) (A D : Option Addr) (n m c d : Nat) (W : World) (ha : RowG W A n s) (hb : RowG W D m t) (hn : n ≤ 1000000) (hm : m ≤ 1000000) :
    Calls Tryd.prog 16 #[.slice A n c, .slice D m d] W fun e w' => e = .returned (.bool (s == t)) ∧ ∃ q, w' = W.drewN q := by
  have HA := Lib.hid ha; clear ha
  have HB := Lib.hid hb; clear hb
  by_cases hnm : n = m
  · subst hnm
    go_enter Tryd.func16, Tryd.ntmps16
    go_wp2
    go_loopw [5] (fun i wr => ∃ k q : Nat, k ≤ n ∧ i = .int .i64 k ∧ wr = W.drewN q ∧ Hid (∀ j, j < k → s.getD j (0, 0) = t.getD j (0, 0))) (fun i _ => n - (intOf i).toNat)
    case atStart => exact ⟨0, 0, Nat.zero_le _, rfl, rfl, Lib.hid fun j h => by omega⟩
    case round =>
      obtain ⟨k, q, hk, rfl, rfl, HF⟩ := hrel
      by_cases hlt : k < n
      · obtain ⟨b, o, rfl, _, hc⟩ := HA.out.2 (by omega)
        obtain ⟨b', o', rfl, _, hc'⟩ := HB.out.2 (by omega)
        obtain ⟨c0, c1⟩ := hc k hlt
        obtain ⟨e0, e1⟩ := hc' k hlt
        obtain ⟨r, hr⟩ : ∃ r, r = s.getD k (0, 0) := ⟨_, rfl⟩
        obtain ⟨r', hr'⟩ : ∃ r, r = t.getD k (0, 0) := ⟨_, rfl⟩
        rw [← hr] at c0 c1
        rw [← hr'] at e0 e1
        obtain ⟨x, y⟩ := r
        obtain ⟨x', y'⟩ := r'
        have HRR := Lib.hid (And.intro hr hr')
        clear hc hc' hr hr'
        dsimp only at c0 c1 e0 e1
        by_cases hxy : x = x' ∧ y = y'
        · obtain ⟨rfl, rfl⟩ := hxy
          have HN : Hid (∀ j, j < k + 1 → s.getD j (0, 0) = t.getD j (0, 0)) := Lib.hid fun j hj => by
            rcases Nat.lt_or_ge j k with h | h
            · exact HF.out j h
            · have : j = k := by omega
              rw [this, ← HRR.out.1, ← HRR.out.2]
          go_wp2
          go_quiet (fail)
          go_wp2
          refine ⟨⟨k + 1, q + nq, by omega, by go_num, rfl, HN⟩, by simp [intOf]; omega⟩
        · have HN : Hid ((s == t) = false) := Lib.hid (list_not k (by have := HA.out.1; omega) (by
            rw [← HRR.out.1, ← HRR.out.2]
            intro h
            injection h with h1 h2
            exact hxy ⟨h1, h2⟩))
          by_cases hx : x = x'
          · subst hx
            have hy : ¬ y = y' := fun e => hxy ⟨rfl, e⟩
            have by1 : (y == y') = false := by simpa using hy
            clear hxy
            go_wp2
            go_quiet (fail)
            go_wp2
            go_ret
            rw [HN.out]
            exact ⟨rfl, q + nq, by simp⟩
          · have bx1 : (x == x') = false := by simpa using hx
            clear hxy
            go_wp2
            go_quiet (fail)
            go_wp2
            go_ret
            rw [HN.out]
            exact ⟨rfl, q + nq, by simp⟩
      · have hkn : k = n := by omega
        subst hkn
        have HE := Lib.hid (show (s == t) = true by rw [list_same (by rw [HA.out.1, HB.out.1]) (fun j hj => HF.out j (by have := HA.out.1; omega))]; exact beq_self_eq_true _)
        go_wp2
        go_ret
        rw [HE.out]
        exact ⟨rfl, _, rfl⟩
  · have HE := Lib.hid (show (s == t) = false by
      cases hx : s == t with
      | false => rfl
      | true => have h := eq_of_beq hx; exact absurd (by rw [← HA.out.1, ← HB.out.1, h]) hnm)
    have h1 : ¬ (n : Int) = (m : Int) := by omega
    have h2 : ((n : Int) != (m : Int)) = true := by simpa using h1
    go_enter Tryd.func16, Tryd.ntmps16
    go_wp2
    go_ret
    rw [HE.out]
    exact ⟨rfl, 0, rfl⟩

/-- Two nodes that a call has boxed. -/
theorem box_two (W : World) (c1 c2 : Array Value) (t : TypeId) : ∃ W2 : World, W2 = (W.alloc (.cells c1 t)).alloc (.cells c2 t) ∧ Below W.heap.size W W2 ∧ ∀ wr, Below W2.heap.size W2 wr → (∀ j, wr.cell? ⟨W.heap.size, j, none⟩ = c1[j]?) ∧ (∀ j, wr.cell? ⟨W.heap.size + 1, j, none⟩ = c2[j]?) ∧ Below W.heap.size W wr := by
  refine ⟨_, rfl, ((Below.refl _ _).alloc (Nat.le_refl _) _).alloc (by simp) _, fun wr hb => ⟨fun j => ?_, fun j => ?_, (((Below.refl _ _).alloc (Nat.le_refl _) _).alloc (by simp) _).trans (hb.mono (by simp; omega))⟩⟩
  · rw [hb.cell (p := ⟨W.heap.size, j, none⟩) (by simp; omega), cell_of_row _ W.heap.size j c1 t (0, 0) (at_up (heap_alloc_new W _) _)]
  · rw [hb.cell (p := ⟨W.heap.size + 1, j, none⟩) (by simp), cell_of_row _ (W.heap.size + 1) j c2 t (0, 0) (at_new _ _ (by simp))]

set_option maxHeartbeats 4000000 in
/-- The document's Same of trees. -/
theorem rsame_any (N : Nat) : ∀ (T : Wood), heavy T ≤ N → ∀ (U : Wood) (F G : Nat → Prop) (W : World) (v u : Value), NodeIn F W v T → NodeIn G W u U → heavy T ≤ 1000000 → heavy U ≤ 1000000 →
    Calls Tryd.prog 8 #[v, u] W fun e w' => e = .returned (.bool (T.same U)) ∧ Below W.heap.size W w' := by
  induction N with
  | zero =>
    intro T hN U F G W v u hv hu _ _
    obtain ⟨op, s, mn, mx, k, A, D, ns, cs, nk, ck, rfl, _⟩ := hv
    simp [heavy] at hN
  | succ N ih =>
    intro T hN U F G W v u hv hu hs hs'
    obtain ⟨op, s, mn, mx, k, A, D, ns, cs, nk, ck, rfl, rfl, hr, hk⟩ := hv
    obtain ⟨op', s', mn', mx', k', A', D', ns', cs', nk', ck', rfl, rfl, hr', hk'⟩ := hu
    have hsz : heavy (Wood.cons op s mn mx k .nil) = 1 + s.length + heavy k := by simp [heavy]
    have hsz' : heavy (Wood.cons op' s' mn' mx' k' .nil) = 1 + s'.length + heavy k' := by simp [heavy]
    rw [hsz] at hN hs
    rw [hsz'] at hs'
    have HSM := Lib.hid (show (Wood.cons op s mn mx k .nil).same (Wood.cons op' s' mn' mx' k' .nil) = (op == op' && (mn == mn' && (mx == mx' && (s == s' && (k.same k' && true))))) from rfl)
    obtain ⟨R, hR⟩ : ∃ R, R = (Wood.cons op s mn mx k .nil).same (Wood.cons op' s' mn' mx' k' .nil) := ⟨_, rfl⟩
    rw [← hR] at HSM ⊢
    have hnk : nk ≤ 1000000 := by have := len_heavy k; have := hk.1; omega
    have hnk' : nk' ≤ 1000000 := by have := len_heavy k'; have := hk'.1; omega
    have HK := Lib.hid (And.intro hk hk')
    have HLEN := Lib.hid (And.intro hk.1 hk'.1)
    have HL := Lib.hid fun w (h : Below W.heap.size W w) => (rsameL_any s s' A A' ns ns' cs cs' w (hr.1.below h (Nat.le_refl _)) (hr'.1.below h (Nat.le_refl _)) (by have := hr.1.1; omega) (by have := hr'.1.1; omega)).mono fun e w' q => (⟨q.1, by obtain ⟨x, hx⟩ := q.2; rw [hx]; exact below_drewN (Below.refl _ _) x⟩ : e = .returned (.bool (s == s')) ∧ Below w.heap.size w w')
    have IH := Lib.hid ih
    have HH := Lib.hid (And.intro (show heavy k ≤ N by omega) (And.intro (show heavy k ≤ 1000000 by omega) (show heavy k' ≤ 1000000 by omega)))
    clear hsz hsz' hk hk' hr hr' ih hR hN hs hs'
    obtain ⟨W2, hW2, hb2, hbox⟩ := box_two W #[.int .i64 op, .slice A ns cs, .int .i64 mn, .int .i64 mx, .slice D nk ck] #[.int .i64 op', .slice A' ns' cs', .int .i64 mn', .int .i64 mx', .slice D' nk' ck'] 26
    have HBOX := Lib.hid hbox
    have HB2 := Lib.hid hb2
    have HC4 : Hid (∀ wr, Below W2.heap.size W2 wr → wr.cell? ⟨W.heap.size, 4, none⟩ = some (.slice D nk ck) ∧ wr.cell? ⟨W.heap.size + 1, 4, none⟩ = some (.slice D' nk' ck')) := Lib.hid fun wr h => ⟨(HBOX.out wr h).1 4, (HBOX.out wr h).2.1 4⟩
    clear hbox hb2
    by_cases h1 : op = op'
    · subst h1
      by_cases h2 : mn = mn'
      · subst h2
        by_cases h3 : mx = mx'
        · subst h3
          by_cases h4 : s = s'
          · subst h4
            have HSS := Lib.hid (show (s == s) = true from beq_self_eq_true _)
            by_cases h5 : nk = nk'
            · subst h5
              have HE := Lib.hid (show R = k.same k' by rw [HSM.out]; simp)
              go_enter Tryd.func8, Tryd.ntmps8
              go_wp2_with (go_at_call 16; rw [← hW2]; refine (HL.out _ HB2.out).mono ?_; rintro e w1 ⟨rfl, hb1⟩; rw [HSS.out]; obtain ⟨e4, e4'⟩ := HC4.out w1 hb1; have HB1 := Lib.hid hb1; clear hb1)
              go_loopw [5] (fun vi wr => ∃ j : Nat, vi = .int .i64 (j : Int) ∧ j ≤ nk ∧ Hid (Below W2.heap.size W2 wr ∧ ∀ i, i < j → (k.nth i).same (k'.nth i) = true)) (fun vi _ => nk - (intOf vi).toNat)
              case atStart => exact ⟨0, rfl, Nat.zero_le _, Lib.hid ⟨HB1.out, fun i h => by omega⟩⟩
              case round =>
                obtain ⟨j, rfl, hj, HO⟩ := hrel
                obtain ⟨b4, b4'⟩ := HC4.out wr HO.out.1
                have hbW := (HBOX.out wr HO.out.1).2.2
                by_cases hlt : j < nk
                · obtain ⟨b, o, op1, s1, mn1, mx1, k1, A1, D1, ns1, cs1, nk1, ck1, rfl, hlb, _, c0, c1, c2, c3, c4, hin⟩ := (HK.out.1.below hbW).kid hlt
                  obtain ⟨b', o', op1', s1', mn1', mx1', k1', A1', D1', ns1', cs1', nk1', ck1', rfl, hlb', _, e0, e1, e2, e3, e4, hin'⟩ := (HK.out.2.below hbW).kid hlt
                  have HC := Lib.hid fun w (h : Below wr.heap.size wr w) => (IH.out (k.nth j) (Nat.le_trans (heavy_nth k j (by rw [HLEN.out.1]; exact hlt)) HH.out.1) (k'.nth j) F G w _ _ (hin.below h) (hin'.below h) (Nat.le_trans (heavy_nth k j (by rw [HLEN.out.1]; exact hlt)) HH.out.2.1) (Nat.le_trans (heavy_nth k' j (by rw [HLEN.out.2]; exact hlt)) HH.out.2.2)).mono fun e w' q => (⟨q.1, h.trans (q.2.mono h.size)⟩ : e = .returned (.bool ((k.nth j).same (k'.nth j))) ∧ Below wr.heap.size wr w')
                  have hr0 : Below wr.heap.size wr wr.drew := (Below.refl _ _).drew
                  obtain ⟨r, hr⟩ : ∃ r, r = (k.nth j).same (k'.nth j) := ⟨_, rfl⟩
                  rw [← hr] at HC
                  have HRR := Lib.hid hr
                  have k0 : ∀ w, Below wr.heap.size wr w → w.cell? ⟨b, o + j * 5, none⟩ = some (.int .i64 op1) := fun w h => (h.cell (p := ⟨b, o + j * 5, none⟩) hlb).trans c0
                  have k1 : ∀ w, Below wr.heap.size wr w → w.cell? ⟨b, o + j * 5 + 1, none⟩ = some (.slice A1 ns1 cs1) := fun w h => (h.cell (p := ⟨b, o + j * 5 + 1, none⟩) hlb).trans c1
                  have k2 : ∀ w, Below wr.heap.size wr w → w.cell? ⟨b, o + j * 5 + 2, none⟩ = some (.int .i64 mn1) := fun w h => (h.cell (p := ⟨b, o + j * 5 + 2, none⟩) hlb).trans c2
                  have k3 : ∀ w, Below wr.heap.size wr w → w.cell? ⟨b, o + j * 5 + 3, none⟩ = some (.int .i64 mx1) := fun w h => (h.cell (p := ⟨b, o + j * 5 + 3, none⟩) hlb).trans c3
                  have k4 : ∀ w, Below wr.heap.size wr w → w.cell? ⟨b, o + j * 5 + 4, none⟩ = some (.slice D1 nk1 ck1) := fun w h => (h.cell (p := ⟨b, o + j * 5 + 4, none⟩) hlb).trans c4
                  have l0 : ∀ w, Below wr.heap.size wr w → w.cell? ⟨b', o' + j * 5, none⟩ = some (.int .i64 op1') := fun w h => (h.cell (p := ⟨b', o' + j * 5, none⟩) hlb').trans e0
                  have l1 : ∀ w, Below wr.heap.size wr w → w.cell? ⟨b', o' + j * 5 + 1, none⟩ = some (.slice A1' ns1' cs1') := fun w h => (h.cell (p := ⟨b', o' + j * 5 + 1, none⟩) hlb').trans e1
                  have l2 : ∀ w, Below wr.heap.size wr w → w.cell? ⟨b', o' + j * 5 + 2, none⟩ = some (.int .i64 mn1') := fun w h => (h.cell (p := ⟨b', o' + j * 5 + 2, none⟩) hlb').trans e2
                  have l3 : ∀ w, Below wr.heap.size wr w → w.cell? ⟨b', o' + j * 5 + 3, none⟩ = some (.int .i64 mx1') := fun w h => (h.cell (p := ⟨b', o' + j * 5 + 3, none⟩) hlb').trans e3
                  have l4 : ∀ w, Below wr.heap.size wr w → w.cell? ⟨b', o' + j * 5 + 4, none⟩ = some (.slice D1' nk1' ck1') := fun w h => (h.cell (p := ⟨b', o' + j * 5 + 4, none⟩) hlb').trans e4
                  have m4 : ∀ w, Below wr.heap.size wr w → w.cell? ⟨W.heap.size, 4, none⟩ = some (.slice (some ⟨b, o, none⟩) nk ck) := fun w h => (HC4.out w (HO.out.1.trans (h.mono HO.out.1.size))).1
                  have m4' : ∀ w, Below wr.heap.size wr w → w.cell? ⟨W.heap.size + 1, 4, none⟩ = some (.slice (some ⟨b', o', none⟩) nk ck') := fun w h => (HC4.out w (HO.out.1.trans (h.mono HO.out.1.size))).2
                  clear hin hin' hr hbW c0 c1 c2 c3 c4 e0 e1 e2 e3 e4
                  go_wp2_with fail
                  go_region_held (fun w' => Below wr.heap.size wr w') (assumption) (first
                    | (go_at_call 8; (with_reducible refine (HC.out _ (by assumption)).mono ?_); rintro e w3 ⟨rfl, hb3⟩))
                  have HB3 : Hid (Below W2.heap.size W2 w3) := Lib.hid (HO.out.1.trans (Below.mono (by assumption) HO.out.1.size))
                  clear k0 k1 k2 k3 k4 l0 l1 l2 l3 l4 m4 m4' hr0
                  cases r with
                  | true =>
                    go_wp2
                    refine ⟨⟨j + 1, by go_num, by omega, Lib.hid ⟨HB3.out, fun i hi => ?_⟩⟩, by simp [intOf]; omega⟩
                    rcases Nat.lt_or_ge i j with h | h
                    · exact HO.out.2 i h
                    · rw [show i = j by omega]; exact HRR.out.symm
                  | false =>
                    have HF := Lib.hid (show R = false by
                      rw [HE.out]
                      cases hx : k.same k' with
                      | false => rfl
                      | true =>
                        have h := (Wood.same_nth k k' (by rw [HLEN.out.1, HLEN.out.2])).1 hx j (by rw [HLEN.out.1]; exact hlt)
                        rw [← HRR.out] at h
                        cases h)
                    go_wp2
                    go_ret
                    rw [HF.out]
                    exact ⟨rfl, (HBOX.out _ HB3.out).2.2⟩
                · have hjn : j = nk := by omega
                  subst hjn
                  have HF := Lib.hid (show R = true by
                    rw [HE.out, Wood.same_nth k k' (by rw [HLEN.out.1, HLEN.out.2])]
                    intro i hi
                    exact HO.out.2 i (by rw [← HLEN.out.1]; exact hi))
                  have HBW := Lib.hid hbW
                  clear hbW
                  go_wp2
                  go_ret
                  rw [HF.out]
                  exact ⟨rfl, HBW.out⟩
            · have HE := Lib.hid (show R = false by
                rw [HSM.out]
                cases hx : k.same k' with
                | false => simp
                | true => exact absurd (by rw [← HLEN.out.1, ← HLEN.out.2, (Wood.same_iff _ _).1 hx]) h5)
              have n1 : ¬ (nk : Int) = (nk' : Int) := by omega
              have n2 : ((nk : Int) != (nk' : Int)) = true := by simpa using n1
              go_enter Tryd.func8, Tryd.ntmps8
              go_wp2_with (go_at_call 16; rw [← hW2]; refine (HL.out _ HB2.out).mono ?_; rintro e w1 ⟨rfl, hb1⟩; rw [HSS.out]; obtain ⟨e4, e4'⟩ := HC4.out w1 hb1; have HB1 := Lib.hid hb1; clear hb1)
              go_ret
              rw [HE.out]
              exact ⟨rfl, (HBOX.out _ HB1.out).2.2⟩
          · have HSS := Lib.hid (show (s == s') = false by simpa using h4)
            have HE := Lib.hid (show R = false by rw [HSM.out, HSS.out]; simp)
            go_enter Tryd.func8, Tryd.ntmps8
            go_wp2_with (go_at_call 16; rw [← hW2]; refine (HL.out _ HB2.out).mono ?_; rintro e w1 ⟨rfl, hb1⟩; rw [HSS.out]; have HB1 := Lib.hid hb1; clear hb1)
            go_ret
            rw [HE.out]
            exact ⟨rfl, (HBOX.out _ HB1.out).2.2⟩
        · have HE := Lib.hid (show R = false by rw [HSM.out]; simp [h3])
          have n1 : (mx != mx') = true := by simpa using h3
          go_enter Tryd.func8, Tryd.ntmps8
          go_wp2
          go_ret
          rw [HE.out]
          exact ⟨rfl, by rw [← hW2]; exact HB2.out⟩
      · have HE := Lib.hid (show R = false by rw [HSM.out]; simp [h2])
        have n1 : (mn != mn') = true := by simpa using h2
        go_enter Tryd.func8, Tryd.ntmps8
        go_wp2
        go_ret
        rw [HE.out]
        exact ⟨rfl, by rw [← hW2]; exact HB2.out⟩
    · have HE := Lib.hid (show R = false by rw [HSM.out]; simp [h1])
      have n1 : (op != op') = true := by simpa using h1
      go_enter Tryd.func8, Tryd.ntmps8
      go_wp2
      go_ret
      rw [HE.out]
      exact ⟨rfl, by rw [← hW2]; exact HB2.out⟩
end Go.Proofs.YtjpabeeokgfloaaDoor
/- Trees of tokens: an open parenthesis, what stands in it, and what is behind it. -/
namespace Go.Proofs.YtjpabeeokgfloaaDoor
open Go Go.RowKit
set_option linter.unusedVariables false

def isOpen (t : TokL) : Bool := t.kind == 1 && t.r == 40
def isShut (t : TokL) : Bool := t.kind == 1 && t.r == 41
/-- Where the parenthesis that stands open c times more is closed. -/
def closeL : Nat → List TokL → Option Nat
  | _, [] => none
  | c, t :: l =>
    if isOpen t = true then (closeL (c + 1) l).map (· + 1)
    else if isShut t = true then (match c with | 0 => some 0 | c + 1 => (closeL c l).map (· + 1))
    else (closeL c l).map (· + 1)
theorem closeL_cons (c : Nat) (t : TokL) (l : List TokL) : closeL c (t :: l) = if isOpen t = true then (closeL (c + 1) l).map (· + 1) else if isShut t = true then (match c with | 0 => some 0 | c + 1 => (closeL c l).map (· + 1)) else (closeL c l).map (· + 1) := by
  cases c <;> rfl
/-- What a token may be. -/
def TokOk (t : TokL) : Prop := t.kind = 0 ∨ t.kind = 2 ∨ (t.kind = 1 ∧ (t.r = 124 ∨ t.r = 94 ∨ t.r = 36 ∨ t.r = 40 ∨ t.r = 41))

theorem closeL_lt : ∀ (l : List TokL) (c j : Nat), closeL c l = some j → j < l.length
  | [], _, _, h => by cases h
  | t :: l, c, j, h => by
    rw [closeL_cons] at h
    rw [List.length_cons]
    split at h
    · obtain ⟨i, hi, rfl⟩ := Option.map_eq_some_iff.1 h
      have := closeL_lt l _ i hi
      omega
    · split at h
      · rcases c with _ | c
        · injection h with h; omega
        · obtain ⟨i, hi, rfl⟩ := Option.map_eq_some_iff.1 h
          have := closeL_lt l _ i hi
          omega
      · obtain ⟨i, hi, rfl⟩ := Option.map_eq_some_iff.1 h
        have := closeL_lt l _ i hi
        omega

section
variable {D : Nat} {t : TokL} {l : List TokL} {st : List (Wood × Wood)} {a p : Wood} {lo : Bool}
theorem run_char (h : t.kind = 0) : runT D (t :: l) st a p lo = runT D l st a (p.app (leaf 1 t.set)) true := by
  cases st <;> simp [runT, h]
theorem run_count (h : t.kind = 2) : runT D (t :: l) st a p lo = if lo = true then runT D l st a (repLast t.mn t.mx p) false else none := by
  cases st <;> simp [runT, h]
theorem run_bar (h : t.kind = 1) (hr : t.r = 124) : runT D (t :: l) st a p lo = runT D l st (a.app (oneN 4 p)) .nil false := by
  cases st <;> simp [runT, h, hr]
theorem run_begin (h : t.kind = 1) (hr : t.r = 94) : runT D (t :: l) st a p lo = runT D l st a (p.app (leaf 2 [])) false := by
  cases st <;> simp [runT, h, hr]
theorem run_end (h : t.kind = 1) (hr : t.r = 36) : runT D (t :: l) st a p lo = runT D l st a (p.app (leaf 3 [])) false := by
  cases st <;> simp [runT, h, hr]
theorem run_shut_nil (h : t.kind = 1) (hr : t.r = 41) : runT D (t :: l) [] a p lo = none := by
  simp [runT, h, hr]
theorem run_shut (a' p' : Wood) (h : t.kind = 1) (hr : t.r = 41) : runT D (t :: l) ((a', p') :: st) a p lo = runT D l st a' (p'.app (finN a p)) true := by
  simp [runT, h, hr]
theorem run_paren (h : t.kind = 1) (hr : t.r = 40) : runT D (t :: l) st a p lo = if D + st.length < 10 then runT D l ((a, p) :: st) .nil .nil false else none := by
  cases st <;> simp [runT, h, hr]
theorem open_no (h : t.kind ≠ 1 ∨ t.r ≠ 40) : isOpen t = false := by
  unfold isOpen
  rcases h with h | h
  · simp [h]
  · simp [h]
theorem shut_no (h : t.kind ≠ 1 ∨ t.r ≠ 41) : isShut t = false := by
  unfold isShut
  rcases h with h | h
  · simp [h]
  · simp [h]
theorem close_other (c : Nat) (h1 : isOpen t = false) (h2 : isShut t = false) : closeL c (t :: l) = (closeL c l).map (· + 1) := by
  rw [closeL_cons, h1, h2]
  rfl
theorem close_open (c : Nat) (h : t.kind = 1) (hr : t.r = 40) : closeL c (t :: l) = (closeL (c + 1) l).map (· + 1) := by
  rw [closeL_cons]
  simp [isOpen, h, hr]
theorem close_shut (c : Nat) (h : t.kind = 1) (hr : t.r = 41) : closeL c (t :: l) = (match c with | 0 => some 0 | c + 1 => (closeL c l).map (· + 1)) := by
  rw [closeL_cons]
  simp [isOpen, isShut, h, hr]
end

theorem run_close (D : Nat) (a p : Wood) (st : List (Wood × Wood)) : ∀ (l : List TokL), (∀ t ∈ l, TokOk t) → ∀ (st' : List (Wood × Wood)) (x y : Wood) (lo : Bool) (j : Nat), closeL st'.length l = some j →
    runT D l (st' ++ (a, p) :: st) x y lo = (runT (D + 1 + st.length) (l.take j) st' x y lo).bind fun n => runT D (l.drop (j + 1)) st a (p.app n) true
  | [], _, _, _, _, _, _, h => by cases h
  | t :: l, hok, st', x, y, lo, j, h => by
    have hl : ∀ t ∈ l, TokOk t := fun t ht => hok t (List.mem_cons_of_mem _ ht)
    rcases hok t (by simp) with h0 | h2 | ⟨h1, hr | hr | hr | hr | hr⟩
    · rw [close_other _ (open_no (by omega)) (shut_no (by omega))] at h
      obtain ⟨i, hi, rfl⟩ := Option.map_eq_some_iff.1 h
      rw [List.take_succ_cons, run_char h0, run_char h0, run_close D a p st l hl st' _ _ _ i hi, List.drop_succ_cons]
    · rw [close_other _ (open_no (by omega)) (shut_no (by omega))] at h
      obtain ⟨i, hi, rfl⟩ := Option.map_eq_some_iff.1 h
      rw [List.take_succ_cons, run_count h2, run_count h2, List.drop_succ_cons]
      cases lo with
      | false => rfl
      | true => rw [if_pos rfl, if_pos rfl, run_close D a p st l hl st' _ _ _ i hi]
    · rw [close_other _ (open_no (by omega)) (shut_no (by omega))] at h
      obtain ⟨i, hi, rfl⟩ := Option.map_eq_some_iff.1 h
      rw [List.take_succ_cons, run_bar h1 hr, run_bar h1 hr, run_close D a p st l hl st' _ _ _ i hi, List.drop_succ_cons]
    · rw [close_other _ (open_no (by omega)) (shut_no (by omega))] at h
      obtain ⟨i, hi, rfl⟩ := Option.map_eq_some_iff.1 h
      rw [List.take_succ_cons, run_begin h1 hr, run_begin h1 hr, run_close D a p st l hl st' _ _ _ i hi, List.drop_succ_cons]
    · rw [close_other _ (open_no (by omega)) (shut_no (by omega))] at h
      obtain ⟨i, hi, rfl⟩ := Option.map_eq_some_iff.1 h
      rw [List.take_succ_cons, run_end h1 hr, run_end h1 hr, run_close D a p st l hl st' _ _ _ i hi, List.drop_succ_cons]
    · rw [close_open _ h1 hr] at h
      obtain ⟨i, hi, rfl⟩ := Option.map_eq_some_iff.1 h
      rw [List.take_succ_cons, run_paren h1 hr, run_paren h1 hr, List.drop_succ_cons, List.length_append, List.length_cons]
      by_cases hd : D + 1 + st.length + st'.length < 10
      · rw [if_pos hd, if_pos (by omega), ← List.cons_append, run_close D a p st l hl ((x, y) :: st') _ _ _ i (by simpa using hi)]
      · rw [if_neg hd, if_neg (by omega)]
        rfl
    · rw [close_shut _ h1 hr] at h
      rcases st' with _ | ⟨⟨u, v⟩, st'⟩
      · injection h with h
        subst h
        rw [List.nil_append, run_shut _ _ h1 hr]
        rfl
      · obtain ⟨i, hi, rfl⟩ := Option.map_eq_some_iff.1 h
        rw [List.take_succ_cons, List.cons_append, run_shut _ _ h1 hr, run_shut _ _ h1 hr, List.drop_succ_cons, run_close D a p st l hl st' _ _ _ i hi]

theorem run_open (D : Nat) (a p : Wood) (st : List (Wood × Wood)) : ∀ (l : List TokL), (∀ t ∈ l, TokOk t) → ∀ (st' : List (Wood × Wood)) (x y : Wood) (lo : Bool), closeL st'.length l = none →
    runT D l (st' ++ (a, p) :: st) x y lo = none
  | [], _, st', _, _, _, _ => by rcases st' with _ | ⟨q, st'⟩ <;> rfl
  | t :: l, hok, st', x, y, lo, h => by
    have hl : ∀ t ∈ l, TokOk t := fun t ht => hok t (List.mem_cons_of_mem _ ht)
    rcases hok t (by simp) with h0 | h2 | ⟨h1, hr | hr | hr | hr | hr⟩
    · rw [close_other _ (open_no (by omega)) (shut_no (by omega)), Option.map_eq_none_iff] at h
      rw [run_char h0, run_open D a p st l hl st' _ _ _ h]
    · rw [close_other _ (open_no (by omega)) (shut_no (by omega)), Option.map_eq_none_iff] at h
      rw [run_count h2, run_open D a p st l hl st' _ _ _ h]
      split <;> rfl
    · rw [close_other _ (open_no (by omega)) (shut_no (by omega)), Option.map_eq_none_iff] at h
      rw [run_bar h1 hr, run_open D a p st l hl st' _ _ _ h]
    · rw [close_other _ (open_no (by omega)) (shut_no (by omega)), Option.map_eq_none_iff] at h
      rw [run_begin h1 hr, run_open D a p st l hl st' _ _ _ h]
    · rw [close_other _ (open_no (by omega)) (shut_no (by omega)), Option.map_eq_none_iff] at h
      rw [run_end h1 hr, run_open D a p st l hl st' _ _ _ h]
    · rw [close_open _ h1 hr, Option.map_eq_none_iff] at h
      rw [run_paren h1 hr]
      split
      · rw [← List.cons_append]
        exact run_open D a p st l hl ((x, y) :: st') _ _ _ (by simpa using h)
      · rfl
    · rw [close_shut _ h1 hr] at h
      rcases st' with _ | ⟨⟨u, v⟩, st'⟩
      · cases h
      · simp only [List.length_cons, Option.map_eq_none_iff] at h
        rw [List.cons_append, run_shut _ _ h1 hr]
        exact run_open D a p st l hl st' _ _ _ h
end Go.Proofs.YtjpabeeokgfloaaDoor
/- Code points gone through token by token. -/
namespace Go.Proofs.YtjpabeeokgfloaaDoor
open Go Go.RowKit
set_option linter.unusedVariables false

/-! ### Each token takes code points away -/
theorem ptL_lt {l : List Int} {s : List (Int × Int)} {is : Bool} {r : List Int} (h : ptL l = some (s, is, r)) : r.length < l.length := by
  rcases l with _ | ⟨x, l⟩
  · cases h
  unfold ptL at h
  dsimp only at h
  split at h
  · cases h
  split at h
  · rcases l with _ | ⟨e, l⟩
    · cases h
    · dsimp only at h
      obtain ⟨p, _, h⟩ := Option.map_eq_some_iff.1 h
      injection h with _ h; injection h with _ h; subst h
      simp only [List.length_cons]; omega
  · injection h with h; injection h with _ h; injection h with _ h; subst h
    simp
theorem partL_lt {l : List Int} {s : List (Int × Int)} {r : List Int} (h : partL l = some (s, r)) : r.length < l.length := by
  unfold partL at h
  split at h
  · cases h
  · rename_i s1 is l1 h1
    have q1 := ptL_lt h1
    split at h
    · rename_i l2
      split at h
      · split at h
        · rename_i t l3 h3
          have q3 := ptL_lt h3
          split at h
          · cases h
          · injection h with h; injection h with _ h; subst h
            simp only [List.length_cons] at q1; omega
        · cases h
      · injection h with h; injection h with _ h; subst h; exact q1
    · injection h with h; injection h with _ h; subst h; exact q1
theorem partsL_lt : ∀ (f : Nat) (l : List Int) (xs : List (Int × Int)) (more : Bool) (s : List (Int × Int)) (r : List Int), partsL f l xs more = some (s, r) → r.length < l.length
  | 0, _, _, _, _, _, h => by cases h
  | f + 1, l, xs, more, s, r, h => by
    rw [partsL.eq_def] at h
    dsimp only at h
    split at h
    · injection h with h; injection h with _ h; subst h; simp
    · split at h
      · cases h
      · rename_i s1 l1 h1
        have := partL_lt h1
        have := partsL_lt f _ _ _ _ _ h
        omega
theorem classL_lt {l : List Int} {s : List (Int × Int)} {r : List Int} (h : classL l = some (s, r)) : r.length < l.length := by
  unfold classL at h
  split at h
  · obtain ⟨⟨a, b⟩, h1, h⟩ := Option.map_eq_some_iff.1 h
    injection h with _ h; subst h
    have := partsL_lt _ _ _ _ _ _ h1
    simp only [List.length_cons]; omega
  · obtain ⟨⟨a, b⟩, h1, h⟩ := Option.map_eq_some_iff.1 h
    injection h with _ h; subst h
    exact partsL_lt _ _ _ _ _ _ h1
theorem numL_lt {l : List Int} {a : Int} {r : List Int} (h : numL l = some (a, r)) : r.length < l.length := by
  unfold numL at h
  split at h
  · split at h
    · split at h
      · split at h
        · cases h
        · injection h with h; injection h with _ h; subst h; simp only [List.length_cons]; omega
      · injection h with h; injection h with _ h; subst h; simp
    · cases h
  · split at h
    · injection h with h; injection h with _ h; subst h; simp
    · cases h
  · cases h
theorem braceL_lt {l : List Int} {t : TokL} {r : List Int} (h : braceL l = some (t, r)) : r.length < l.length := by
  unfold braceL at h
  split at h
  · rename_i l' h1
    have := numL_lt h1
    injection h with h; injection h with _ h; subst h; simp only [List.length_cons] at this; omega
  · rename_i l' h1
    have := numL_lt h1
    injection h with h; injection h with _ h; subst h; simp only [List.length_cons] at this; omega
  · rename_i l' _ h1
    have := numL_lt h1
    split at h
    · rename_i l'' h2
      have := numL_lt h2
      split at h
      · cases h
      · injection h with h; injection h with _ h; subst h; simp only [List.length_cons] at *; omega
    · cases h
  · cases h
theorem tokL_lt {l : List Int} {t : TokL} {r : List Int} (h : tokL l = some (t, r)) : r.length < l.length := by
  rcases l with _ | ⟨x, l⟩
  · cases h
  unfold tokL at h
  dsimp only at h
  rw [List.length_cons]
  split at h
  · injection h with h; injection h with _ h; subst h; omega
  split at h
  · injection h with h; injection h with _ h; subst h; omega
  split at h
  · injection h with h; injection h with _ h; subst h; omega
  split at h
  · injection h with h; injection h with _ h; subst h; omega
  split at h
  · have := braceL_lt h; omega
  split at h
  · injection h with h; injection h with _ h; subst h; omega
  split at h
  · obtain ⟨⟨a, b⟩, h1, h⟩ := Option.map_eq_some_iff.1 h
    injection h with _ h; subst h
    have := classL_lt h1; simp only; omega
  split at h
  · rcases l with _ | ⟨e, l⟩
    · cases h
    · obtain ⟨p, _, h⟩ := Option.map_eq_some_iff.1 h
      injection h with _ h; subst h; simp only [List.length_cons]; omega
  split at h
  · cases h
  · injection h with h; injection h with _ h; subst h; omega

theorem toksL_fuel : ∀ (f : Nat) (l : List Int), l.length ≤ f → toksL f l = toksL l.length l
  | 0, [], _ => rfl
  | 0, _ :: _, h => by simp at h
  | f + 1, [], _ => rfl
  | f + 1, r :: l, h => by
    rw [List.length_cons, toksL, toksL]
    rcases ht : tokL (r :: l) with _ | ⟨t, l'⟩
    · rfl
    · have := tokL_lt ht
      rw [List.length_cons] at this h
      dsimp only
      rw [toksL_fuel f l' (by omega), toksL_fuel l.length l' (by omega)]

/-! ### The whole, code point by code point -/
def runL (l : List Int) (st : List (Wood × Wood)) (a p : Wood) (lo : Bool) : Option Wood := (toksL l.length l).bind fun ts => runT 0 ts st a p lo
theorem treeL_run (l : List Int) : treeL l = runL l [] .nil .nil false := rfl
section
variable {l l' : List Int} {t : TokL} {st : List (Wood × Wood)} {a p : Wood} {lo : Bool}
theorem runL_nil : runL [] st a p lo = if st = [] then some (finN a p) else none := by
  rcases st with _ | ⟨x, st⟩ <;> simp [runL, toksL, runT]
theorem toksL_none {r : Int} (h : tokL (r :: l) = none) : toksL (r :: l).length (r :: l) = none := by rw [List.length_cons, toksL, h]
theorem toksL_some {r : Int} (h : tokL (r :: l) = some (t, l')) : toksL (r :: l).length (r :: l) = (toksL l'.length l').map fun ts => t :: ts := by
  have := tokL_lt h
  rw [List.length_cons] at this
  rw [List.length_cons, toksL, h]
  dsimp only
  rw [toksL_fuel _ _ (by omega)]
theorem runL_none (h : tokL l = none) (hl : l ≠ []) : runL l st a p lo = none := by
  rcases l with _ | ⟨r, l⟩
  · exact absurd rfl hl
  · unfold runL; rw [toksL_none h]; rfl
theorem runL_some (h : tokL l = some (t, l')) : runL l st a p lo = (toksL l'.length l').bind fun ts => runT 0 (t :: ts) st a p lo := by
  rcases l with _ | ⟨r, l⟩
  · cases h
  · unfold runL
    rw [toksL_some h]
    rcases toksL l'.length l' with _ | ts <;> rfl
theorem runL_char (h : tokL l = some (t, l')) (hk : t.kind = 0) : runL l st a p lo = runL l' st a (p.app (leaf 1 t.set)) true := by
  rw [runL_some h]; simp only [run_char hk]; rfl
theorem runL_count (h : tokL l = some (t, l')) (hk : t.kind = 2) : runL l st a p lo = if lo = true then runL l' st a (repLast t.mn t.mx p) false else none := by
  rw [runL_some h]; simp only [run_count hk]
  cases lo with
  | true => rfl
  | false => rcases toksL l'.length l' with _ | ts <;> rfl
theorem runL_bar (h : tokL l = some (t, l')) (hk : t.kind = 1) (hr : t.r = 124) : runL l st a p lo = runL l' st (a.app (oneN 4 p)) .nil false := by
  rw [runL_some h]; simp only [run_bar hk hr]; rfl
theorem runL_begin (h : tokL l = some (t, l')) (hk : t.kind = 1) (hr : t.r = 94) : runL l st a p lo = runL l' st a (p.app (leaf 2 [])) false := by
  rw [runL_some h]; simp only [run_begin hk hr]; rfl
theorem runL_end (h : tokL l = some (t, l')) (hk : t.kind = 1) (hr : t.r = 36) : runL l st a p lo = runL l' st a (p.app (leaf 3 [])) false := by
  rw [runL_some h]; simp only [run_end hk hr]; rfl
theorem runL_paren (h : tokL l = some (t, l')) (hk : t.kind = 1) (hr : t.r = 40) : runL l st a p lo = if st.length < 10 then runL l' ((a, p) :: st) .nil .nil false else none := by
  rw [runL_some h]; simp only [run_paren hk hr, Nat.zero_add]
  by_cases hd : st.length < 10
  · simp only [if_pos hd]; rfl
  · simp only [if_neg hd]; rcases toksL l'.length l' with _ | ts <;> rfl
theorem runL_shut (h : tokL l = some (t, l')) (hk : t.kind = 1) (hr : t.r = 41) : runL l st a p lo = match st with
    | [] => none
    | (a', p') :: st' => runL l' st' a' (p'.app (finN a p)) true := by
  rw [runL_some h]
  rcases st with _ | ⟨⟨a', p'⟩, st⟩
  · simp only [run_shut_nil hk hr]; rcases toksL l'.length l' with _ | ts <;> rfl
  · simp only [run_shut _ _ hk hr]; rfl
end
/-! ### Signs -/
theorem tok_bar (l : List Int) : tokL (124 :: l) = some (tokS 124, l) := rfl
theorem tok_open (l : List Int) : tokL (40 :: l) = some (tokS 40, l) := rfl
theorem tok_shut (l : List Int) : tokL (41 :: l) = some (tokS 41, l) := rfl
theorem tok_begin (l : List Int) : tokL (94 :: l) = some (tokS 94, l) := rfl
theorem tok_end (l : List Int) : tokL (36 :: l) = some (tokS 36, l) := rfl
theorem tok_star (l : List Int) : tokL (42 :: l) = some (tokN 0 (-1), l) := rfl
theorem tok_plus (l : List Int) : tokL (43 :: l) = some (tokN 1 (-1), l) := rfl
theorem tok_quest (l : List Int) : tokL (63 :: l) = some (tokN 0 1, l) := rfl
theorem tok_brace (l : List Int) : tokL (123 :: l) = braceL l := rfl
theorem tok_dot (l : List Int) : tokL (46 :: l) = some (tokC [(0, 9), (11, 1114111)], l) := rfl
theorem tok_class (l : List Int) : tokL (91 :: l) = (classL l).map fun p => (tokC p.1, p.2) := rfl
theorem tok_back (e : Int) (l : List Int) : tokL (92 :: e :: l) = (escL e).map fun p => (tokC p.1, l) := rfl
theorem tok_shutb (l : List Int) : tokL (93 :: l) = none := rfl
theorem tok_shutc (l : List Int) : tokL (125 :: l) = none := rfl
/-- A sign, but for the hyphen. -/
def signB (r : Int) : Bool := decide (r ∈ [46, 94, 36, 124, 40, 41, 91, 93, 123, 125, 42, 43, 63, 92])
theorem tok_plain {r : Int} (l : List Int) (h : signB r = false) : tokL (r :: l) = some (tokC [(r, r)], l) := by
  unfold signB at h
  rw [decide_eq_false_iff_not] at h
  simp only [List.mem_cons, List.not_mem_nil, or_false, not_or] at h
  unfold tokL
  dsimp only
  rw [if_neg (by omega), if_neg (by omega), if_neg (by omega), if_neg (by omega), if_neg (by omega), if_neg (by omega), if_neg (by omega), if_neg (by omega), if_neg (by omega)]
/-- The tokens that are no counts are told by their first sign. -/
def countB (r : Int) : Bool := decide (r = 42 ∨ r = 43 ∨ r = 63 ∨ r = 123)
theorem braceL_kind {l l' : List Int} {t : TokL} (h : braceL l = some (t, l')) : t.kind = 2 := by
  unfold braceL at h
  split at h
  · injection h with h; injection h with h _; subst h; rfl
  · injection h with h; injection h with h _; subst h; rfl
  · split at h
    · split at h
      · cases h
      · injection h with h; injection h with h _; subst h; rfl
    · cases h
  · cases h
theorem tok_kind {r : Int} {l l' : List Int} {t : TokL} (h : tokL (r :: l) = some (t, l')) : t.kind = 2 ↔ countB r = true := by
  unfold countB
  rw [decide_eq_true_iff]
  unfold tokL at h
  dsimp only at h
  split at h
  · injection h with h; injection h with h _; subst h; simp only [tokS]; omega
  split at h
  · injection h with h; injection h with h _; subst h; exact ⟨fun _ => by omega, fun _ => rfl⟩
  split at h
  · injection h with h; injection h with h _; subst h; exact ⟨fun _ => by omega, fun _ => rfl⟩
  split at h
  · injection h with h; injection h with h _; subst h; exact ⟨fun _ => by omega, fun _ => rfl⟩
  split at h
  · have := braceL_kind h; omega
  split at h
  · injection h with h; injection h with h _; subst h; simp only [tokC]; omega
  split at h
  · obtain ⟨⟨a, b⟩, h1, h⟩ := Option.map_eq_some_iff.1 h
    injection h with h _; subst h; simp only [tokC]; omega
  split at h
  · rcases l with _ | ⟨e, l⟩
    · cases h
    · obtain ⟨p, _, h⟩ := Option.map_eq_some_iff.1 h
      injection h with h _; subst h; simp only [tokC]; omega
  split at h
  · cases h
  · injection h with h; injection h with h _; subst h; simp only [tokC]; omega
theorem runT_loose {D : Nat} {t : TokL} {ts : List TokL} {st : List (Wood × Wood)} {a p : Wood} {lo lo' : Bool} (h : t.kind ≠ 2) : runT D (t :: ts) st a p lo = runT D (t :: ts) st a p lo' := by
  cases st <;> simp [runT, h]
/-- Where no count stands it's all the same whether one may. -/
theorem runL_loose {l : List Int} {st : List (Wood × Wood)} {a p : Wood} {lo lo' : Bool} (h : countB (l.headD (-1)) = false) : runL l st a p lo = runL l st a p lo' := by
  rcases l with _ | ⟨r, l⟩
  · rw [runL_nil, runL_nil]
  · rcases ht : tokL (r :: l) with _ | ⟨t, l'⟩
    · rw [runL_none ht (by simp), runL_none ht (by simp)]
    · have hk : t.kind ≠ 2 := fun e => by
        have := (tok_kind ht).1 e
        rw [List.headD_cons] at h
        rw [h] at this
        cases this
      rw [runL_some ht, runL_some ht]
      simp only [runT_loose (lo := lo) (lo' := lo') hk]
/-- Where a count stands that may not. -/
theorem runL_count_no {l : List Int} {st : List (Wood × Wood)} {a p : Wood} (h : countB (l.headD (-1)) = true) : runL l st a p false = none := by
  rcases l with _ | ⟨r, l⟩
  · exact absurd h (by decide)
  · rcases ht : tokL (r :: l) with _ | ⟨t, l'⟩
    · rw [runL_none ht (by simp)]
    · rw [runL_count ht ((tok_kind ht).2 h)]
      rfl
theorem repLast_app (mn mx : Int) (n : Wood) (hn : n.len = 1) : ∀ p : Wood, repLast mn mx (p.app n) = p.app (.cons 6 [] mn mx n .nil)
  | .nil => by
    obtain ⟨o, s, x, z, k, rfl⟩ := Wood.one_of_len hn
    rfl
  | .cons o s x z k .nil => by
    obtain ⟨o', s', x', z', k', rfl⟩ := Wood.one_of_len hn
    rfl
  | .cons o s x z k (.cons o2 s2 x2 z2 k2 y) => by
    have ih := repLast_app mn mx n hn (.cons o2 s2 x2 z2 k2 y)
    simp only [Wood.app, repLast] at ih ⊢
    rw [ih]
/-- What is behind alternatives that are through. -/
def shutL (l : List Int) (st : List (Wood × Wood)) (n : Wood) : Option Wood :=
  match l, st with
  | [], [] => some n
  | 41 :: l', (a, p) :: st' => runL l' st' a (p.app n) true
  | _, _ => none
theorem shut_end {l : List Int} {st : List (Wood × Wood)} {a p : Wood} {lo : Bool} (h : l = [] ∨ ∃ l', l = 41 :: l') : runL l st a p lo = shutL l st (finN a p) := by
  rcases h with rfl | ⟨l', rfl⟩
  · rw [runL_nil]
    rcases st with _ | ⟨⟨x, y⟩, st⟩ <;> rfl
  · rw [runL_shut (tok_shut l') rfl rfl]
    rcases st with _ | ⟨⟨x, y⟩, st⟩ <;> rfl
end Go.Proofs.YtjpabeeokgfloaaDoor
