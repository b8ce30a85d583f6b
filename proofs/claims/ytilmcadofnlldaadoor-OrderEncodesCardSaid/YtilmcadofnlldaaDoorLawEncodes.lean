/- OrderEncodes: code points' octets of any kind are the document's; those of one order are the other's, turned about: the walk. -/
import Derived.Test.YtilmcadofnlldaaDoorAwake2
import Derived.Deep.RegionHeld
import Derived.Deep.QuietTactic
import Derived.BigQuiet
namespace Go.Proofs.YtilmcadofnlldaaDoor
open Go Go.RowKit
set_option linter.unusedVariables false

/-- Octets that are turned about: pair by pair. -/
theorem oct_turned : ∀ us : List Int, (octL 2 us).length = (octL 3 us).length ∧ ∀ j, j < us.length → (octL 2 us).getD (2 * j) 0 = (octL 3 us).getD (2 * j + 1) 0 ∧ (octL 2 us).getD (2 * j + 1) 0 = (octL 3 us).getD (2 * j) 0
  | [] => ⟨rfl, fun j hj => absurd hj (by simp)⟩
  | u :: us => by
    obtain ⟨h1, h2⟩ := oct_turned us
    have e2 : octL 2 (u :: us) = u % 256 :: u / 256 % 256 :: octL 2 us := by simp [octL, oct2]
    have e3 : octL 3 (u :: us) = u / 256 % 256 :: u % 256 :: octL 3 us := by simp [octL, oct2]
    rw [e2, e3]
    refine ⟨by simp [h1], fun j hj => ?_⟩
    rcases j with _ | j
    · simp [List.getD]
    · have := h2 j (by simpa using hj)
      rw [show 2 * (j + 1) = 2 * j + 1 + 1 by omega]
      simpa [List.getD] using this
/-- All units of many code points. -/
def allUnits (rs : List Int) : List Int := rs.flatMap fun r => unitsI (sndI r)
theorem enc_units {k : Int} (h : k = 2 ∨ k = 3) : ∀ rs, encL k rs = octL k (allUnits rs)
  | [] => by simp [encL, allUnits, octL]
  | r :: rs => by
    rw [show r :: rs = [r] ++ rs from rfl, encL_append, encL_one, enc_units h rs]
    have : enc1 k r = octL k (unitsI (sndI r)) := by rw [enc1, if_neg (by omega)]
    rw [this, ← octL_append]
    simp [allUnits]

theorem below_next {a b c : World} (k : Below b.heap.size b c) (h : Below a.heap.size a b) : Below a.heap.size a c := h.trans (Below.mono k h.size)

theorem lawEncodes_long (k : Int) (A : Option Addr) (len cap : Nat) (w : World) (hM : Marks w) (hl : 40 < len) (hm : len ≤ maxLen) :
    Calls Tryd.prog 5 #[.int .i64 k, .slice A len cap] w fun e w' => e = .returned (.bool true) ∧ Below w.heap.size w w' := by
  unfold maxLen at hm
  have hd : decide ((40 : Int) < (len : Int)) = true := by simp; omega
  go_enter Tryd.func5, Tryd.ntmps5
  go_wp2_with fail
  refine (awake2_any _ hM).mono ?_; rintro e w1 ⟨rfl, hbel⟩
  have hM1 := hM.below hbel (Nat.le_refl _)
  go_wp2_with fail
  refine (awake2_any _ hM1).mono ?_; rintro e w2 ⟨rfl, hbel2⟩
  go_wp2_with fail
  go_ret
  exact ⟨rfl, hbel.trans (Below.mono hbel2 hbel.size)⟩

set_option maxHeartbeats 4000000 in
theorem lawEncodes_short (k : Int) (A : Option Addr) (len cap : Nat) (rs : List Int) (W : World) (hM : Marks W) (hl : len ≤ 40) (hr : RowI .i64 W A len rs) :
    Calls Tryd.prog 5 #[.int .i64 k, .slice A len cap] W fun e w' => e = .returned (.bool true) ∧ Below W.heap.size W w' := by
  have hd : decide ((40 : Int) < (len : Int)) = false := by simp; omega
  have hll := hr.1
  -- the two encodings of units
  have hE2 := fun w (h : RowI .i64 w A len rs) => oencode_any 2 A len cap rs w h (by omega)
  have hE3 := fun w (h : RowI .i64 w A len rs) => oencode_any 3 A len cap rs w h (by omega)
  have hlen2 := encL_len 2 rs
  rw [enc_units (.inl rfl)] at hE2 hlen2
  rw [enc_units (.inr rfl)] at hE3
  have hturn := oct_turned (allUnits rs)
  have hl2 := octL_length (.inl rfl : (2 : Int) = 2 ∨ (2 : Int) = 3) (allUnits rs)
  obtain ⟨us, hus⟩ : ∃ us, us = allUnits rs := ⟨_, rfl⟩
  rw [← hus] at hE2 hE3 hturn hl2 hlen2
  clear hus
  obtain ⟨xs, hxs⟩ : ∃ xs, xs = octL 2 us := ⟨_, rfl⟩
  obtain ⟨ys, hys⟩ : ∃ ys, ys = octL 3 us := ⟨_, rfl⟩
  rw [← hxs] at hE2 hl2 hlen2
  rw [← hys] at hE3
  rw [← hxs, ← hys] at hturn
  clear hxs hys
  obtain ⟨hxy, hturn⟩ := hturn
  obtain ⟨m, hm⟩ : ∃ m, m = xs.length := ⟨_, rfl⟩
  rw [← hxy, ← hm] at hE3
  rw [← hm] at hE2 hl2 hlen2
  have hmm : m ≤ 160 := by omega
  -- any encoding
  have hE := fun w (h : RowI .i64 w A len rs) => oencode_any k A len cap rs w h (by omega)
  have hR := fun w (h : RowI .i64 w A len rs) => rencode_any k A len cap rs w h (by omega)
  obtain ⟨es, hes⟩ : ∃ es, es = encL k rs := ⟨_, rfl⟩
  rw [← hes] at hE hR
  clear hes
  obtain ⟨S, hS⟩ : ∃ S, S = strOfNums es := ⟨_, rfl⟩
  rw [← hS] at hR
  have hcv : ∀ (A : Option Addr) (c : Nat) (w : World), RowI .u8 w A es.length es → (convert 22 9 (.slice A es.length c)).run Tryd.prog w = .ok (.string S) w := fun A c w h => by rw [hS]; exact strRow w A es.length c es h
  obtain ⟨n, hn⟩ : ∃ n, n = es.length := ⟨_, rfl⟩
  rw [← hn] at hE hcv
  clear hS hn hll hlen2
  have HE := Lib.hid hE; clear hE
  have HR2 := Lib.hid hR; clear hR
  have HE2 := Lib.hid hE2; clear hE2
  have HE3 := Lib.hid hE3; clear hE3
  have HCV := Lib.hid hcv; clear hcv
  have HR := Lib.hid hr; clear hr
  have HM := Lib.hid hM; clear hM
  have HT := Lib.hid hturn; clear hturn
  have HL2 := Lib.hid hl2; clear hl2
  have Hm := Lib.hid hm; clear hm
  have HXY := Lib.hid hxy; clear hxy
  have hss : (S.toList != S.toList) = false := by simp
  go_enter Tryd.func5, Tryd.ntmps5
  go_wp2_with fail
  refine (awake2_any _ HM.out).mono ?_; rintro e w1 ⟨rfl, hbel⟩
  have hr1 := HR.out.below hbel (Nat.le_refl _)
  have hE1 : ∀ w, Below w1.heap.size w1 w → Calls Tryd.prog 17 #[.int .i64 k, .slice A len cap] w fun e w' => ∃ A' c', e = .returned (.slice A' n c') ∧ (∀ w'', Below w'.heap.size w' w'' → (convert 22 9 (.slice A' n c')).run Tryd.prog w'' = .ok (.string S) w'') ∧ Below w1.heap.size w1 w' := fun w h =>
    (HE.out w (hr1.below h (Nat.le_refl _))).mono fun e w' ⟨A', c', he, hrow, hb⟩ => ⟨A', c', he, fun w'' hb' => HCV.out A' c' w'' (hrow.below hb' (Nat.le_refl _)), h.trans (Below.mono hb h.size)⟩
  have hR1 : ∀ w, Below w1.heap.size w1 w → Calls Tryd.prog 18 #[.int .i64 k, .slice A len cap] w fun e w' => e = .returned (.string S) ∧ Below w1.heap.size w1 w' ∧ Below w.heap.size w w' := fun w h =>
    (HR2.out w (hr1.below h (Nat.le_refl _))).mono fun e w' ⟨he, hb⟩ => ⟨he, h.trans (Below.mono hb h.size), hb⟩
  have HE1 := Lib.hid hE1; clear hE1
  have HR1 := Lib.hid hR1; clear hR1
  have hr0 : Below w1.heap.size w1 w1.drew := (Below.refl _ _).drew
  go_wp2_with fail
  go_region_held (fun w' => Below w1.heap.size w1 w') (assumption) (first
    | (go_at_call 17; refine (HE1.out _ (by assumption)).mono ?_; rintro e w3 ⟨A3, c3, rfl, hc3, hb3⟩; have hb3' := Below.refl w3.heap.size w3; have hc3' := hc3 w3 hb3')
    | (go_at_call 18; refine (HR1.out _ (by assumption)).mono ?_; rintro e w4 ⟨rfl, hb4, hb4'⟩))
  all_goals
    go_wp2_with fail
    refine (HE2.out _ ?_).mono ?_
    · exact hr1.below (by assumption) (Nat.le_refl _)
    rintro e w5 ⟨A5, c5, rfl, r5, b5⟩
    have hb5 : Below w1.heap.size w1 w5 := below_next b5 (by assumption)
    clear b5
    go_wp2_with fail
    refine (HE3.out _ (hr1.below hb5 (Nat.le_refl _))).mono ?_; rintro e w6 ⟨A6, c6, rfl, r6, b6⟩
    have r56 := r5.below b6 (Nat.le_refl _)
    have hb6 : Below W.heap.size W w6 := hbel.trans (Below.mono (below_next b6 hb5) hbel.size)
    clear r5 b6 hb5
    have R5 := Lib.hid r56; clear r56
    have R6 := Lib.hid r6; clear r6
    have hm1 : ((m : Int) % 2 != 0) = false := by have := HL2.out; simp; omega
    have hm2 : (Int.tmod (m : Int) 2 != 0) = false := by rw [Int.tmod_eq_emod_of_nonneg (by omega)]; exact hm1
    go_wp2_with fail
    go_loopw [7] (fun vi wr => ∃ (q d : Nat), q ≤ m ∧ Hid (∃ j, q = 2 * j) ∧ vi = .int .i64 (q : Int) ∧ wr = w6.drewN d) (fun vi _ => m - (intOf vi).toNat)
    case atStart => exact ⟨0, 0, by omega, Lib.hid ⟨0, rfl⟩, rfl, rfl⟩
    case round =>
      obtain ⟨q, d, hq, HQ, rfl, rfl⟩ := hrel
      obtain ⟨j, hj⟩ := HQ.out
      by_cases hlt : q < m
      · have hq1 : q + 1 < m := by have := HL2.out; omega
        obtain ⟨g5, o5, rfl, _, hc5⟩ := R5.out.2 (by omega)
        obtain ⟨g6, o6, rfl, _, hc6⟩ := R6.out.2 (by omega)
        obtain ⟨t1, t2⟩ := HT.out j (by have := HL2.out; omega)
        rw [← hj] at t1 t2
        have ca := hc5 q hlt
        have cb := hc5 (q + 1) hq1
        have cc := hc6 q hlt
        have cd := hc6 (q + 1) hq1
        rw [← t1] at cd
        rw [← t2] at cc
        obtain ⟨x, hx⟩ : ∃ x, x = xs.getD q 0 := ⟨_, rfl⟩
        obtain ⟨y, hy⟩ : ∃ y, y = xs.getD (q + 1) 0 := ⟨_, rfl⟩
        rw [← hx] at ca cd
        rw [← hy] at cb cc
        clear t1 t2 hc5 hc6 hx hy hj
        have exx : (x != x) = false := by simp
        have eyy : (y != y) = false := by simp
        have k1 : (q : Int) < (m : Int) := by omega
        have k2 : (q : Int) + 1 < (m : Int) := by omega
        have k3 : (0 : Int) ≤ (q : Int) + 1 := by omega
        have k4 : (0 : Int) ≤ (q : Int) := by omega
        have k5 : IntKind.i64.wrap ((q : Int) + 1) = (q : Int) + 1 := by rw [IntKind.wrap_i64]; omega
        go_wp2
        go_quiet (fail)
        go_wp2
        refine ⟨⟨q + 2, d + nq, by omega, Lib.hid (by obtain ⟨j, hj⟩ := HQ.out; exact ⟨j + 1, by omega⟩), by go_num, by simp⟩, by simp [intOf]; omega⟩
      · obtain rfl : q = m := by omega
        go_wp2
        go_ret
        exact ⟨rfl, below_drewN hb6 d⟩

theorem lawEncodes (k : Int) (A : Option Addr) (len cap : Nat) (zs : List Int) (W : World) (hM : Marks W)
    (h : (A = none ∧ len = 0 ∧ cap = 0 ∧ zs = []) ∨
      ∃ x, A = some x ∧ len ≤ cap ∧ cap ≤ maxLen ∧ zs.length = cap ∧ (∀ i, i < zs.length → W.cell? (x.add i) = some (.int .i64 (zs.getD i 0))) ∧ ∀ n ∈ zs, (Lit.int .i64 n).wf = true) :
    Calls Tryd.prog 5 #[.int .i64 k, .slice A len cap] W fun e w' => e = .returned (.bool true) ∧ Below W.heap.size W w' := by
  obtain ⟨hr, hcap, hcm, hnil, hwf⟩ := rowI_of_row h
  rcases Nat.lt_or_ge 40 len with hl | hl
  · exact lawEncodes_long k A len cap W hM hl (Nat.le_trans hcap hcm)
  · exact lawEncodes_short k A len cap _ W hM hl hr
end Go.Proofs.YtilmcadofnlldaaDoor
