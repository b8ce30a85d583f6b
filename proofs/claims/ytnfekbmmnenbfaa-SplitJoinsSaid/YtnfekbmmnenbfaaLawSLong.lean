/- A smaller limit: the same records, or those ahead of the first one that is longer: the law. -/
import Derived.Test.YtnfekbmmnenbfaaLongF
import Derived.Lib.SliceRun
namespace Go.Proofs.Ytnfekbmmnenbfaa
open Go Go.RowKit
set_option linter.unusedVariables false

theorem rec_elem : Try.prog.elem 23 = 40 := by kernel_rfl
theorem rec_size (w : World) : (sizeOf 40).run Try.prog w = .ok 3 w := by kernel_rfl
theorem rec_slice : Try.prog.underlying 23 = some (.slice (Try.prog.elem 23)) := by rw [rec_elem]; exact Try.underlying23
/-- l[:h], of a slice of records. -/
theorem recs_upto (A : Option Addr) (n c h : Nat) (hh : h ≤ c) (w : World) :
    (Instr.slice 23 (.slice A n c) none (some (.int .i64 (h : Int))) none).run Try.prog w = .ok (.slice A h c) w := by
  have hr := run_slice_h (P := Try.prog) (w := w) (t := 23) (a := A) (len := n) (cap := c) (ht := rec_slice) (kh := .i64) (h := (h : Int)) (h0 := by omega) (h2 := by omega)
  rw [hr, rec_elem, rec_size]
  have ha : (if c = 0 then A else A.map fun x => x.add (0 * 3)) = A := by
    split
    · rfl
    · cases A <;> simp [Addr.add]
  simp [Result.andThen, sliced]
  simpa using ha
theorem RowR.to {w : World} {A : Option Addr} {n : Nat} {rs : List RecL} (h : RowR w A n rs) {j : Nat} (hj : j ≤ n) : RowR w A j (rs.take j) := by
  refine ⟨by rw [List.length_take, h.1]; omega, fun h0 => ?_⟩
  obtain ⟨b, o, hA, hlt, hc⟩ := h.2 (by omega)
  refine ⟨b, o, hA, hlt, fun i hi => ?_⟩
  have e : (rs.take j).getD i recNone = rs.getD i recNone := by simp [List.getD, hi]
  rw [e]
  exact hc i (by omega)
theorem own_cap {w : World} {B s n c : Nat} {e : TypeId} {A : Option Addr} {xs : List Value} (h : w.ownsRow B e s (.slice A n c) n xs) : n ≤ c := by
  rcases h.2 with ⟨h1, _⟩ | ⟨g, cap, cu, h1, _, _, h2, _⟩
  · injection h1 with _ e1 _; omega
  · injection h1 with _ _ e1; omega
theorem wf_nat {a0 : Int} (h : (Lit.int .i64 a0).wf = true) : -9223372036854775808 ≤ a0 ∧ a0 ≤ 9223372036854775807 := by
  simp [Lit.wf, IntKind.min, IntKind.max, IntKind.signed, IntKind.bits] at h
  omega

/-- Behind k records: which one was the first too long. -/
def AtLong (J k : Nat) (L : Int) : Prop := (k ≤ J → L = -1) ∧ (J < k → L = (J : Int))

set_option maxHeartbeats 4000000 in
theorem splitLong_any (a0 : Int) (S : ByteArray) (w : World) :
    Calls Try.prog 6 #[.int .i64 a0, .string S] w fun e w' => e = .returned (.bool true) ∧ Below w.heap.size w w' := by
  have HAW := Lib.hid (fun w => awake_any w)
  by_cases hgo : S.size ≤ 500 ∧ 1 ≤ a0 ∧ a0 ≤ 4096
  · obtain ⟨m, rfl⟩ : ∃ m : Nat, a0 = (m : Int) := ⟨a0.toNat, by omega⟩
    have d0 : decide ((500 : Int) < (S.size : Int)) = false := by simp; omega
    have d1 : decide ((m : Int) < 1) = false := by simp; omega
    have d2 : decide ((4096 : Int) < (m : Int)) = false := by simp; omega
    have hA := fun w => all_any m S w (by omega) (by omega) (by omega)
    have hB := fun w => all_any 4096 S w (by omega) (by omega) (by omega)
    have hl2 := allR_len 4096 (nums S) true
    rw [nums_length] at hl2
    obtain ⟨herr, hcase⟩ := long_cases m 4096 (nums S) (by rw [nums_length]; omega) (by omega)
    rw [herr] at hB
    have hc2 : ∃ J, J ≤ (allR 4096 (nums S) true).1.length ∧ (J < (allR 4096 (nums S) true).1.length → m < ((allR 4096 (nums S) true).1.getD J recNone).text.length) ∧ (∀ i, i < J → ((allR 4096 (nums S) true).1.getD i recNone).text.length ≤ m) ∧ (allR m (nums S) true).2.1 = (if J < (allR 4096 (nums S) true).1.length then 10 else 0) ∧ (allR m (nums S) true).1 = (allR 4096 (nums S) true).1.take J := by
      rcases hcase with ⟨h1, h2, h3⟩ | ⟨j, h1, h2, h3, h4, h5⟩
      · refine ⟨(allR 4096 (nums S) true).1.length, Nat.le_refl _, fun q => absurd q (Nat.lt_irrefl _), fun i hi => ?_, by rw [if_neg (Nat.lt_irrefl _)]; exact h2, by rw [List.take_length]; exact h3⟩
        rw [List.getD, List.getElem?_eq_getElem hi]
        exact h1 _ (List.getElem_mem hi)
      · exact ⟨j, Nat.le_of_lt h1, fun _ => h2, h3, by rw [if_pos h1]; exact h4, h5⟩
    clear hcase herr
    obtain ⟨J, hJ, hJ1, hJ2, hJ3, hJ4⟩ := hc2
    have hlen1 : (allR m (nums S) true).1.length = J := by rw [hJ4, List.length_take]; omega
    rw [hJ3, hJ4, List.length_take, Nat.min_eq_left hJ] at hA
    obtain ⟨rs, hrs⟩ : ∃ rs, rs = (allR 4096 (nums S) true).1 := ⟨_, rfl⟩
    rw [← hrs] at hA hB hJ hJ1 hJ2 hl2
    obtain ⟨n, hn⟩ : ∃ n, n = rs.length := ⟨_, rfl⟩
    rw [← hn] at hA hB hJ hJ1 hl2
    clear hrs hlen1 hJ3 hJ4
    obtain ⟨E, hE⟩ : ∃ E : Int, E = (if J < n then 10 else 0) := ⟨_, rfl⟩
    rw [← hE] at hA
    rw [show ((4096 : Nat) : Int) = 4096 from rfl] at hB
    have HA := Lib.hid hA
    have HB := Lib.hid hB
    have HN := Lib.hid hn
    have HJ1 := Lib.hid hJ1
    have HJ2 := Lib.hid hJ2
    have HE := Lib.hid hE
    have hn6 : n ≤ 1000 := by omega
    clear hA hB hn hgo hJ1 hJ2 hE hl2
    go_enter Try.func6, Try.ntmps6
    go_wp2_with (first
      | (go_at_call 7; refine (HAW.out _).mono ?_; rintro e w1 ⟨rfl, hb1⟩)
      | (go_at_call 8; with_reducible refine (HA.out _).mono ?_; rintro e w2 ⟨A, c, rfl, ho2, hb2⟩; have HO2 := Lib.hid ho2; clear ho2)
      | (go_at_call 8; with_reducible refine (HB.out _).mono ?_; rintro e w3 ⟨D, d, rfl, ho3, hb3⟩; have HO3 := Lib.hid ho3; clear ho3))
    have hb := then_ (then_ hb1 hb2) hb3
    have HBB := Lib.hid hb
    have HO2' := Lib.hid (row_keep HO2.out fun k hk _ => hb3.block k hk)
    clear hb hb1 hb2 hb3 HO2 HA HB
    obtain ⟨D', d', e1, hrow⟩ := rowR_of_own HO3.out HN.out.symm
    injection e1 with e3 _ _
    subst e3
    have HROW := Lib.hid hrow
    clear hrow
    go_loopw [9, 10] (fun vl vi wr => ∃ (k : Nat) (L : Int), vl = .int .i64 L ∧ vi = .int .i64 (k : Int) ∧ k ≤ n ∧ AtLong J k L ∧ wr = w3) (fun _ vi _ => n - (intOf vi).toNat)
    case atStart => exact ⟨0, -1, rfl, rfl, Nat.zero_le _, ⟨fun _ => rfl, fun h => absurd h (Nat.not_lt_zero _)⟩, rfl⟩
    case round =>
      obtain ⟨k, L, rfl, rfl, hk, HL, rfl⟩ := hrel
      obtain ⟨hL1, hL2⟩ := HL
      by_cases hkn : k < n
      · obtain ⟨b, o, rfl, _, hc⟩ := HROW.out.2 (by omega)
        obtain ⟨_, _, c2⟩ := hc k hkn
        obtain ⟨t, ht⟩ : ∃ t, t = (rs.getD k recNone).text := ⟨_, rfl⟩
        rw [← ht] at c2
        have hsz := strOfNums_size t
        obtain ⟨T, hT⟩ : ∃ T, T = strOfNums t := ⟨_, rfl⟩
        rw [← hT] at c2 hsz
        clear hc hT
        have j1 := HJ1.out
        have j2 := HJ2.out k
        rw [← ht] at j2
        rcases Nat.lt_trichotomy k J with hkJ | hkJ | hkJ
        · have hd : ¬ m < T.size := by have := j2 hkJ; omega
          have hLe := hL1 (by omega)
          subst hLe
          clear j1 j2 hL1 hL2 ht
          clear hsz
          go_wp2_with fail
          exact ⟨⟨k + 1, -1, rfl, by go_num, by omega, ⟨fun _ => rfl, fun h => absurd h (by omega)⟩, trivial⟩, by simp [intOf]; omega⟩
        · subst hkJ
          have j3 := j1 hkn
          rw [← ht] at j3
          have hd : m < T.size := by omega
          have hLe := hL1 (by omega)
          subst hLe
          clear j1 j2 j3 hL1 hL2 ht
          clear hsz
          go_wp2_with fail
          exact ⟨⟨k + 1, (k : Int), rfl, by go_num, by omega, ⟨fun h => absurd h (by omega), fun _ => rfl⟩, trivial⟩, by simp [intOf]; omega⟩
        · have hLe := hL2 hkJ
          subst hLe
          have hd2 : decide ((J : Int) < 0) = false := by simp
          clear j1 j2 hL1 hL2 ht
          by_cases hm : m < t.length
          · have hd : m < T.size := by omega
            clear hm hsz
            go_wp2_with fail
            exact ⟨⟨k + 1, (J : Int), rfl, by go_num, by omega, ⟨fun h => absurd h (by omega), fun _ => rfl⟩, trivial⟩, by simp [intOf]; omega⟩
          · have hd : ¬ m < T.size := by omega
            clear hm hsz
            go_wp2_with fail
            exact ⟨⟨k + 1, (J : Int), rfl, by go_num, by omega, ⟨fun h => absurd h (by omega), fun _ => rfl⟩, trivial⟩, by simp [intOf]; omega⟩
      · have hkn2 : k = n := by omega
        subst hkn2
        obtain ⟨A', c', e1, hrow2⟩ := rowR_of_own HO2'.out (by rw [List.length_take]; have := HN.out; omega)
        injection e1 with e3 _ _
        subst e3
        have hJn : J ≤ 1000000 := by omega
        have HSAME := Lib.hid (fun c d => rsame_any (rs.take J) A D J c d wr hrow2 (HROW.out.to hJ) hJn)
        have hcap := own_cap HO3.out
        have hup := recs_upto D k d J (by omega) wr
        rcases Nat.lt_or_ge J k with hJk | hJk
        · have hLe := hL2 hJk
          subst hLe
          have hE10 : E = 10 := by rw [HE.out, if_pos hJk]
          subst hE10
          clear hL1 hL2 hrow2
          go_wp2_with (go_at_call 10; with_reducible refine (HSAME.out _ _).mono ?_; rintro e w4 ⟨rfl, q, rfl⟩)
          go_ret
          exact ⟨rfl, below_drewN HBB.out q⟩
        · have hkJ : J = k := by omega
          subst hkJ
          have hLe := hL1 (by omega)
          subst hLe
          have hE0 : E = 0 := by rw [HE.out, if_neg (by omega)]
          subst hE0
          clear hL1 hL2 hrow2
          go_wp2_with (go_at_call 10; with_reducible refine (HSAME.out _ _).mono ?_; rintro e w4 ⟨rfl, q, rfl⟩)
          go_ret
          exact ⟨rfl, below_drewN HBB.out q⟩
  · rcases Nat.lt_or_ge 500 S.size with h1 | h1
    · have d0 : decide ((500 : Int) < (S.size : Int)) = true := by simp; omega
      clear hgo h1
      go_enter Try.func6, Try.ntmps6
      go_wp2_with (go_at_call 7; refine (HAW.out _).mono ?_; rintro e w1 ⟨rfl, hb⟩; have HB : Hid (Below w.heap.size w w1) := Lib.hid (by first | exact hb | exact then_ HB.out hb); clear hb)
      go_ret
      exact ⟨rfl, HB.out⟩
    · have d0 : decide ((500 : Int) < (S.size : Int)) = false := by simp; omega
      rcases (show a0 < 1 ∨ 1 ≤ a0 by omega) with h2 | h2
      · have d1 : decide (a0 < 1) = true := by simp; omega
        clear hgo h1 h2
        go_enter Try.func6, Try.ntmps6
        go_wp2_with (go_at_call 7; refine (HAW.out _).mono ?_; rintro e w1 ⟨rfl, hb⟩; have HB : Hid (Below w.heap.size w w1) := Lib.hid (by first | exact hb | exact then_ HB.out hb); clear hb)
        go_ret
        exact ⟨rfl, HB.out⟩
      · have d1 : decide (a0 < 1) = false := by simp; omega
        have d2 : decide (4096 < a0) = true := by simp; omega
        clear hgo h1 h2
        go_enter Try.func6, Try.ntmps6
        go_wp2_with (go_at_call 7; refine (HAW.out _).mono ?_; rintro e w1 ⟨rfl, hb⟩; have HB : Hid (Below w.heap.size w w1) := Lib.hid (by first | exact hb | exact then_ HB.out hb); clear hb)
        go_ret
        exact ⟨rfl, HB.out⟩
end Go.Proofs.Ytnfekbmmnenbfaa
