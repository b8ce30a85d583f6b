/- CutsSpread: the walk. -/
import Derived.Test.YtjiagpbmaepamaaPartsF
import Derived.Test.YtjiagpbmaepamaaAwake4
import Derived.BigQuiet
import Derived.BigRegion
namespace Go.Proofs.Ytjiagpbmaepamaa
open Go Go.RowKit Go.Deep
set_option linter.unusedVariables false

theorem lawSpread_long (n most : Int) (w : World) (hl : 2000 < n) :
    Calls Try.prog 5 #[.int .i64 n, .int .i64 most] w fun e w' => e = .returned (.bool true) ∧ Below w.heap.size w w' := by
  have hd : decide ((2000 : Int) < n) = true := by simp; omega
  go_enter Try.func5, Try.ntmps5
  go_wp2_with fail
  refine (awake4_any _).mono ?_; rintro e w1 ⟨rfl, hbel⟩
  go_wp2_with fail
  refine (awake4_any _).mono ?_; rintro e w2 ⟨rfl, hbel2⟩
  go_wp2_with fail
  go_ret
  exact ⟨rfl, hbel.trans (Below.mono hbel2 hbel.size)⟩

set_option maxHeartbeats 1000000 in
theorem lawSpread_none (n most : Int) (W : World) (hl : n < 1) :
    Calls Try.prog 5 #[.int .i64 n, .int .i64 most] W fun e w' => e = .returned (.bool true) ∧ Below W.heap.size W w' := by
  have hd : decide ((2000 : Int) < n) = false := by simp; omega
  have hs := fun w => spread_none n most hl w
  have hr := fun w => rspread_none n most hl w
  have hi := fun w => ints_row none none 0 0 0 [] [] w RowI.nil_ RowI.nil_ (by decide)
  have HS := Lib.hid hs; clear hs
  have HR := Lib.hid hr; clear hr
  have HI := Lib.hid hi; clear hi
  go_enter Try.func5, Try.ntmps5
  go_wp2_with fail
  refine (awake4_any _).mono ?_; rintro e w1 ⟨rfl, hbel⟩
  go_wp2_with fail
  refine (HS.out _).mono ?_; rintro e w2 ⟨rfl, rfl⟩
  go_wp2_with fail
  refine (HR.out _).mono ?_; rintro e w3 ⟨rfl, rfl⟩
  go_wp2_with fail
  refine (HI.out _).mono ?_; rintro e w4 ⟨rfl, q, rfl⟩
  go_wp2_with fail
  refine wp_loop_rounds 1 ?_
  rw [rounds_succ]; go_wp2_with fail
  go_ret
  exact ⟨rfl, below_drewN hbel q⟩

set_option maxHeartbeats 4000000 in
theorem lawSpread_some (N M : Nat) (most : Int) (hM : max most 1 = (M : Int)) (hN1 : 1 ≤ N) (hN : N ≤ 2000) (W : World) :
    Calls Try.prog 5 #[.int .i64 (N : Int), .int .i64 most] W fun e w' => e = .returned (.bool true) ∧ Below W.heap.size W w' := by
  have hM1 : 1 ≤ M := by omega
  have hd : decide ((2000 : Int) < (N : Int)) = false := by simp; omega
  have hs := fun w => spread_some N M most hM hN1 (by omega) w
  have hr := fun w => rspread_some N M most hM hN1 (by omega) w
  obtain ⟨c1, c2, _⟩ := cntN_room N M hN1 hM1
  have hpos := cntN_pos N M
  have hpf := partsL_facts N M hN1 hM1
  have hps := partsL_sum N M
  have hpl := partsL_length N M
  obtain ⟨C, hC⟩ : ∃ C, C = cntN N M := ⟨_, rfl⟩
  obtain ⟨L, hL⟩ : ∃ L, L = partsL N M := ⟨_, rfl⟩
  rw [← hC, ← hL] at hs hr
  rw [← hC] at c1 c2 hpos hpf hpl
  rw [← hL] at hpf hps hpl
  have hi := fun (A B : Option Addr) (c c' : Nat) (w : World) (h1 : RowI .i64 w A C L) (h2 : RowI .i64 w B C L) => ints_row A B C c c' L L w h1 h2 (by omega)
  obtain ⟨pp, hpp⟩ : ∃ pp, pp = (C - 1) * M := ⟨_, rfl⟩
  rw [← hpp] at c2
  have hprod : ((C : Int) - 1) * (M : Int) = (pp : Int) := by
    rw [hpp, show (C : Int) - 1 = ((C - 1 : Nat) : Int) by omega, ← Int.natCast_mul]
  have HS := Lib.hid hs; clear hs
  have HR := Lib.hid hr; clear hr
  have HI := Lib.hid hi; clear hi
  have HPF := Lib.hid hpf; clear hpf
  have HPS := Lib.hid hps; clear hps
  have HPL := Lib.hid hpl; clear hpl
  clear hpp hC hL
  go_enter Try.func5, Try.ntmps5
  go_wp2_with fail
  refine (awake4_any _).mono ?_; rintro e w1 ⟨rfl, hbel⟩
  go_wp2_with fail
  refine (HS.out _).mono ?_; rintro e w2 ⟨A, c, rfl, hri, hb2⟩
  have hW2 := hbel.trans (Below.mono hb2 hbel.size)
  go_wp2_with fail
  refine (HR.out _).mono ?_; rintro e w3 ⟨B, c', rfl, hri3, hb3⟩
  have hW3 := hW2.trans (Below.mono hb3 hW2.size)
  have hrA := hri.below hb3 (Nat.le_refl _)
  have HI3 := Lib.hid (HI.out A B c c' w3 hrA hri3)
  have HRA := Lib.hid hrA; clear hrA
  clear hri hri3 hbel hb2 hb3 hW2
  go_wp2_with fail
  refine HI3.out.mono ?_; rintro e w4 ⟨rfl, q, rfl⟩
  have heq : decide (L = L) = true := by simp
  go_wp2_with fail
  go_loopw [6, 7] (fun vs vi wr => ∃ (i q : Nat) (s : Int), i ≤ C ∧ vi = .int .i64 (i : Int) ∧ vs = .int .i64 s ∧ 0 ≤ s ∧ s ≤ 2001 * (i : Int) ∧ Hid (s = (L.take i).sum) ∧ wr = w3.drewN q) (fun _ vi _ => C - (intOf vi).toNat)
  case atStart => exact ⟨0, q, 0, by omega, rfl, rfl, by omega, by omega, Lib.hid rfl, rfl⟩
  case round =>
    obtain ⟨i, q, s, hi, rfl, rfl, hs0, hs1, HSUM, rfl⟩ := hrel
    by_cases hlt : i < C
    · obtain ⟨b, o, rfl, _, hc⟩ := HRA.out.2 (by omega)
      obtain ⟨f1, f2, f3, f4, f5⟩ := HPF.out i hlt
      have k0 := hc 0 (by omega)
      have k1 := hc i hlt
      have hst := sum_take L i (by rw [HPL.out]; exact hlt)
      rw [← HSUM.out] at hst
      rcases Nat.eq_zero_or_pos i with h0 | h0
      · subst h0
        obtain ⟨x, hx⟩ : ∃ x, x = L.getD 0 0 := ⟨_, rfl⟩
        rw [← hx] at f1 f2 f3 f4 k0 k1 hst
        have HST := Lib.hid hst; clear hst
        have d1 : decide (x < 1) = false := by simp; omega
        have d2 : decide ((M : Int) < x) = false := by simp; omega
        have d3 : decide (x + 1 < x) = false := by simp; omega
        rw [Nat.add_zero] at k0
        clear hx f5 hc k1
        go_wp2_with fail
        go_quiet (fail)
        go_wp2_with fail
        refine ⟨⟨1, q + nq, s + x, by omega, rfl, rfl, by omega, by omega, Lib.hid HST.out.symm, rfl⟩, by simp [intOf]; omega⟩
      · obtain ⟨k, rfl⟩ : ∃ k, i = k + 1 := ⟨i - 1, by omega⟩
        have k2 := hc k (by omega)
        have f6 := f5 k (by omega)
        obtain ⟨x, hx⟩ : ∃ x, x = L.getD (k + 1) 0 := ⟨_, rfl⟩
        obtain ⟨y, hy⟩ : ∃ y, y = L.getD k 0 := ⟨_, rfl⟩
        obtain ⟨z, hz⟩ : ∃ z, z = L.getD 0 0 := ⟨_, rfl⟩
        have fz := (HPF.out 0 (by omega)).2.2.1
        have fz1 := (HPF.out 0 (by omega)).1
        rw [← hx] at f1 f2 f3 f4 f6 k1 hst
        rw [← hy] at f6 k2
        rw [← hz] at f4 k0 fz fz1
        rw [Nat.add_zero] at k0
        have HST := Lib.hid hst; clear hst
        have d1 : decide (x < 1) = false := by simp; omega
        have d2 : decide ((M : Int) < x) = false := by simp; omega
        have d3 : decide (z + 1 < x) = false := by simp; omega
        have d4 : decide (x < y) = false := by simp; omega
        clear hx hy hz f5 hc
        go_wp2_with fail
        go_quiet (fail)
        go_wp2_with fail
        refine ⟨⟨k + 1 + 1, q + nq, s + x, by omega, by go_num, rfl, by omega, by omega, Lib.hid HST.out.symm, rfl⟩, by simp [intOf]; omega⟩
    · obtain rfl : i = C := by omega
      have hsN : s = (N : Int) := by
        rw [HSUM.out, List.take_of_length_le (by rw [HPL.out]; exact Nat.le_refl _)]
        exact HPS.out
      subst hsN
      have d1 : decide ((N : Int) < 1) = false := by simp; omega
      have d2 : decide ((pp : Int) < (N : Int)) = true := by simp; omega
      go_wp2_with fail
      go_ret
      exact ⟨rfl, below_drewN hW3 q⟩
theorem lawSpread (n most : Int) (W : World) :
    Calls Try.prog 5 #[.int .i64 n, .int .i64 most] W fun e w' => e = .returned (.bool true) ∧ Below W.heap.size W w' := by
  by_cases h1 : 2000 < n
  · exact lawSpread_long n most W h1
  · by_cases h2 : n < 1
    · exact lawSpread_none n most W h2
    · obtain ⟨N, rfl⟩ : ∃ N : Nat, n = (N : Int) := ⟨n.toNat, by omega⟩
      exact lawSpread_some N (max most 1).toNat most (by omega) (by omega) (by omega) W
end Go.Proofs.Ytjiagpbmaepamaa
