/- PipeWaits: a sender waits just as long as more items stand ahead of it than there is room. -/
import Derived.Test.YtmmfioemnoijoaaPipA
namespace Go.Proofs.Ytmmfioemnoijoaa
open Go Go.RowKit
set_option linter.unusedVariables false
set_option maxRecDepth 20000

section
variable {w0 w w' : World} {cs : List (Nat × Obj)} {g room a n : Nat} {sent : Int} {closed : Bool}
/-- One item alone, of sender 1. -/
theorem pSendOne (h : Pip w0 w cs g room [] sent false) (hr : room ≤ 64) (hs0 : 0 ≤ sent) (hs1 : sent ≤ 100000) :
    Calls Try.prog 9 #[.pointer (some ⟨g, 0, none⟩), .int .i64 1, .agg #[.int .i64 0, .int .i64 0, .int .i64 0, .int .i64 0, .string ⟨#[]⟩, .slice none 0 0, .int .i64 0]] w fun e w' => ∃ b, e = .returned (.tuple #[.bool b, .int .i64 0]) ∧ Pip w0 w' cs g room [(1, zeroIt)] (sent + 1) false := by
  have e0 : sendE room [] false 1 = 0 := by simp [sendE, offI, atI]
  have := pSend h 1 zeroIt (by simp) hr hs0 hs1
  rw [e0, show sendL room [] false 1 zeroIt = [(1, zeroIt)] by rw [sendL, if_pos e0]; rfl, show sendN room [] false 1 sent = sent + 1 by rw [sendN, if_pos e0]] at this
  exact this.mono fun e w' h => ⟨_, h⟩
theorem pTakeOne (h : Pip w0 w cs g room [(1, zeroIt)] sent false) :
    Calls Try.prog 11 #[.pointer (some ⟨g, 0, none⟩)] w fun e w' => ∃ v, e = .returned v ∧ Pip w0 w' cs g room [] sent false :=
  (pTake h (by simp)).mono fun e w' h => ⟨_, h⟩
theorem pBackOne (h : Pip w0 w cs g 0 [(1, zeroIt)] sent false) (hs0 : 0 ≤ sent) (hs1 : sent ≤ 100000) :
    Calls Try.prog 14 #[.pointer (some ⟨g, 0, none⟩), .int .i64 1] w fun e w' => ∃ v, e = .returned v ∧ Pip w0 w' cs g 0 [] (sent - 1) false := by
  have := pWithdraw h 1 (by simp) hs0 hs1
  have e0 : offI 0 [((1 : Int), zeroIt)] 1 = 0 := by simp [offI, atI]
  rw [show backL 0 [((1 : Int), zeroIt)] 1 = [] by rw [backL, e0]; rfl, show backN 0 [((1 : Int), zeroIt)] 1 sent = sent - 1 by rw [backN, e0]; rfl] at this
  exact this.mono fun e w' h => ⟨_, h⟩
theorem pCloseNone (h : Pip w0 w cs g room [] sent false) :
    Calls Try.prog 16 #[.pointer (some ⟨g, 0, none⟩)] w fun e w' => e = .returned (.int .i64 0) ∧ Pip w0 w' cs g room [] sent true :=
  (pClose h (by simp)).mono fun e w' h => by
    have e0 : shutE room [] false = 0 := by simp [shutE]
    rw [e0] at h
    exact h
theorem pCloseTwice (h : Pip w0 w cs g room [] sent true) :
    Calls Try.prog 16 #[.pointer (some ⟨g, 0, none⟩)] w fun e w' => e = .returned (.int .i64 17) ∧ Pip w0 w' cs g room [] sent true := pClose h (by simp)
theorem pSendShut (h : Pip w0 w cs g room [] sent true) (hr : room ≤ 64) (hs0 : 0 ≤ sent) (hs1 : sent ≤ 100000) :
    Calls Try.prog 9 #[.pointer (some ⟨g, 0, none⟩), .int .i64 1, .agg #[.int .i64 0, .int .i64 0, .int .i64 0, .int .i64 0, .string ⟨#[]⟩, .slice none 0 0, .int .i64 0]] w fun e w' => ∃ b, e = .returned (.tuple #[.bool b, .int .i64 17]) ∧ Pip w0 w' cs g room [] sent true := by
  have e0 : sendE room [] true 1 = 17 := by simp [sendE]
  have := pSend h 1 zeroIt (by simp) hr hs0 hs1
  rw [e0, show sendL room [] true 1 zeroIt = [] by simp [sendL, e0], show sendN room [] true 1 sent = sent by simp [sendN, e0]] at this
  exact this.mono fun e w' h => ⟨_, h⟩
theorem pTakeShut (h : Pip w0 w cs g room [] sent true) :
    Calls Try.prog 11 #[.pointer (some ⟨g, 0, none⟩)] w fun e w' => e = .returned (.tuple #[.agg #[.int .i64 0, .int .i64 0, .int .i64 0, .int .i64 0, .string ⟨#[]⟩, .slice none 0 0, .int .i64 0], .int .i64 17]) ∧ Pip w0 w' cs g room [] sent true := pTake h (by simp)
theorem pCloseBusy (h : Pip w0 w cs g room (rowN a n) sent false) (hn : room < n) (hl : n ≤ 9000) :
    Calls Try.prog 16 #[.pointer (some ⟨g, 0, none⟩)] w fun e w' => e = .returned (.int .i64 18) ∧ Pip w0 w' cs g room (rowN a n) sent false :=
  (pClose h (by rw [rowN_length]; exact hl)).mono fun e w' h => by
    have e0 : shutE room (rowN a n) false = 18 := by simp [shutE, rowN_length, hn]
    rw [e0] at h
    exact h
end

set_option maxHeartbeats 8000000 in
theorem waits14_any (x y : Int) (W : World) (hx0 : 0 ≤ x) (hx1 : x < 256) (hy0 : 0 ≤ y) (hy1 : y < 256) :
    Calls Try.prog 5 #[.int .u8 x, .int .u8 y] W fun e w' => e = .returned (.bool true) ∧ Below W.heap.size W w' := by
  obtain ⟨k, hk⟩ : ∃ k : Nat, x.tmod 65 = (k : Int) := Int.eq_ofNat_of_zero_le (by rw [Int.tmod_eq_emod_of_nonneg hx0]; omega)
  have hk1 : k ≤ 64 := by rw [Int.tmod_eq_emod_of_nonneg hx0] at hk; omega
  obtain ⟨m, hm⟩ : ∃ m : Nat, y.tmod 90 = (m : Int) := Int.eq_ofNat_of_zero_le (by rw [Int.tmod_eq_emod_of_nonneg hy0]; omega)
  have hm1 : m ≤ 89 := by rw [Int.tmod_eq_emod_of_nonneg hy0] at hm; omega
  have HA := Lib.hid fun w => awake14_any w
  have HN := Lib.hid fun w (hb : Below W.heap.size W w) => pNew W w k hk1 hb
  go_enter Try.func5, Try.ntmps5
  go_wp2_with fail
  (with_reducible refine (HA.out _).mono ?_); rintro e w1 ⟨rfl, hb1⟩
  have H1 := Lib.hid hb1; clear hb1
  go_wp2_with fail
  refine (HN.out _ H1.out).mono ?_; rintro e w2 ⟨g, rfl, hp⟩
  have HP := Lib.hid hp; clear hp
  go_wp2_with fail
  clear hk hm hx0 hx1 hy0 hy1
  go_loopw [9] (fun vi wr => ∃ (i : Nat), vi = .int .i64 (i : Int) ∧ i ≤ m ∧ Hid (Pip W wr [] g k (rowN 0 i) (i : Int) false)) (fun vi _ => m - (intOf vi).toNat)
  case atStart => exact ⟨0, rfl, Nat.zero_le _, HP⟩
  case round =>
    obtain ⟨i, rfl, hi, HR⟩ := hrel
    by_cases hlt : i < m
    · have HS := Lib.hid (pSendRow HR.out i (by omega) (by omega) hk1 (by omega) (by omega))
      have HW := Lib.hid (fun w3 (h : Pip W w3 [] g k (rowN 0 (i + 1)) ((i : Int) + 1) false) => pWaitsRow h i (by omega))
      by_cases hik : i < k
      · rw [show decide (0 + k ≤ i ∧ i < 0 + (i + 1)) = false by simp; omega] at HW
        rw [decide_eq_true hik] at HS
        have q1 : decide (i < k) = true := by simpa using hik
        have q2 : decide (k ≤ i) = false := by simp; omega
        clear hik
        go_wp2_with (first
          | (go_at_call 9; (with_reducible refine HS.out.mono ?_); rintro e w3 ⟨rfl, hp3⟩; have H3 := Lib.hid hp3; clear hp3)
          | (go_at_call 19; (with_reducible refine (HW.out _ H3.out).mono ?_); rintro e w4 ⟨rfl, hp4⟩; have H4 := Lib.hid hp4; clear hp4))
        exact ⟨⟨i + 1, by go_num, by omega, Lib.hid H4.out⟩, by simp [intOf]; omega⟩
      · rw [show decide (0 + k ≤ i ∧ i < 0 + (i + 1)) = true by simp; omega] at HW
        rw [decide_eq_false hik] at HS
        have q1 : decide (i < k) = false := by simpa using hik
        have q2 : decide (k ≤ i) = true := by simp; omega
        clear hik
        go_wp2_with (first
          | (go_at_call 9; (with_reducible refine HS.out.mono ?_); rintro e w3 ⟨rfl, hp3⟩; have H3 := Lib.hid hp3; clear hp3)
          | (go_at_call 19; (with_reducible refine (HW.out _ H3.out).mono ?_); rintro e w4 ⟨rfl, hp4⟩; have H4 := Lib.hid hp4; clear hp4))
        exact ⟨⟨i + 1, by go_num, by omega, Lib.hid H4.out⟩, by simp [intOf]; omega⟩
    · have him : i = m := by omega
      subst him
      clear hlt hi
      go_wp2
      go_loopw [12] (fun vj wr => ∃ (j : Nat), vj = .int .i64 (j : Int) ∧ j ≤ i ∧ Hid (Pip W wr [] g k (rowN j (i - j)) (i : Int) false)) (fun vj _ => i - (intOf vj).toNat)
      case atStart => exact ⟨0, rfl, Nat.zero_le _, HR⟩
      case round =>
        obtain ⟨j, rfl, hj, HJ⟩ := hrel
        by_cases hjl : j < i
        · go_wp2
          go_loopw [13] (fun vs wr => ∃ (s : Nat), vs = .int .i64 (s : Int) ∧ j ≤ s ∧ s ≤ i ∧ Hid (Pip W wr [] g k (rowN j (i - j)) (i : Int) false)) (fun vs _ => i - (intOf vs).toNat)
          case atStart => exact ⟨j, rfl, Nat.le_refl _, by omega, HJ⟩
          case round =>
            obtain ⟨s, rfl, hjs, hsi, HS⟩ := hrel
            by_cases hsl : s < i
            · have HW := Lib.hid (pWaitsRow HS.out s (by omega))
              obtain ⟨d, hd⟩ : ∃ d : Nat, (s : Int) - (j : Int) = (d : Int) := ⟨s - j, by omega⟩
              by_cases hdk : k ≤ d
              · rw [show decide (j + k ≤ s ∧ s < j + (i - j)) = true by simp; omega] at HW
                have q2 : decide (k ≤ d) = true := by simpa using hdk
                clear hdk
                go_wp2_with (go_at_call 19; (with_reducible refine HW.out.mono ?_); rintro e w4 ⟨rfl, hp4⟩; have H4 := Lib.hid hp4; clear hp4)
                exact ⟨⟨s + 1, by go_num, by omega, by omega, H4⟩, by simp [intOf]; omega⟩
              · rw [show decide (j + k ≤ s ∧ s < j + (i - j)) = false by simp; omega] at HW
                have q2 : decide (k ≤ d) = false := by simpa using hdk
                clear hdk
                go_wp2_with (go_at_call 19; (with_reducible refine HW.out.mono ?_); rintro e w4 ⟨rfl, hp4⟩; have H4 := Lib.hid hp4; clear hp4)
                exact ⟨⟨s + 1, by go_num, by omega, by omega, H4⟩, by simp [intOf]; omega⟩
            · have hse : s = i := by omega
              subst hse
              obtain ⟨d, hd⟩ : ∃ d : Nat, s - j = d + 1 := ⟨s - j - 1, by omega⟩
              have hS := HS.out
              rw [hd] at hS
              have hdi : (s : Int) - (j : Int) = (d : Int) + 1 := by omega
              have HT := Lib.hid (fun w3 (h : Pip W w3 [] g k (rowN j (d + 1)) (s : Int) false) => pTakeRow h (by omega))
              have hdd : s - (j + 1) = d := by omega
              have HDD := Lib.hid hdd
              have H3 := Lib.hid hS
              clear hS hd hdd
              by_cases hkd : k < d + 1
              · have HC := Lib.hid (pCloseBusy H3.out hkd (by omega))
                have q1 : decide ((k : Int) < (d : Int) + 1) = true := by simp; omega
                go_wp2_with (first
                  | (go_at_call 16; (with_reducible refine HC.out.mono ?_); rintro e w3 ⟨rfl, hp3⟩; have H5 := Lib.hid hp3; clear hp3)
                  | (go_at_call 11; (with_reducible refine (HT.out _ H5.out).mono ?_); rintro e w4 ⟨rfl, hp4⟩; have H4 := Lib.hid (hp4.alloc #[.int .i64 (j : Int), .int .i64 0, .int .i64 0, .int .i64 0, .string ⟨#[]⟩, .slice none 0 0, .int .i64 0] 36); clear hp4))
                refine ⟨⟨j + 1, by go_num, by omega, Lib.hid ?_⟩, by simp [intOf]; omega⟩
                rw [HDD.out]
                exact H4.out.free (by simp)
              · have q1 : decide ((k : Int) < (d : Int) + 1) = false := by simp; omega
                go_wp2_with (first
                  | (go_at_call 11; (with_reducible refine (HT.out _ H3.out).mono ?_); rintro e w4 ⟨rfl, hp4⟩; have H4 := Lib.hid (hp4.alloc #[.int .i64 (j : Int), .int .i64 0, .int .i64 0, .int .i64 0, .string ⟨#[]⟩, .slice none 0 0, .int .i64 0] 36); clear hp4))
                refine ⟨⟨j + 1, by go_num, by omega, Lib.hid ?_⟩, by simp [intOf]; omega⟩
                rw [HDD.out]
                exact H4.out.free (by simp)
        · have hji : j = i := by omega
          subst hji
          have hR := HJ.out
          rw [Nat.sub_self] at hR
          have HSO := Lib.hid (pSendOne hR hk1 (by omega) (by omega))
          clear hR
          have HC1 := Lib.hid (fun w3 s (h : Pip W w3 [] g k [] s false) => pCloseNone h)
          have HC2 := Lib.hid (fun w3 s (h : Pip W w3 [] g k [] s true) => pCloseTwice h)
          have HS2 := Lib.hid (fun w3 s (h0 : 0 ≤ s) (h1 : s ≤ 100000) (h : Pip W w3 [] g k [] s true) => pSendShut h hk1 h0 h1)
          have HT2 := Lib.hid (fun w3 s (h : Pip W w3 [] g k [] s true) => pTakeShut h)
          rcases Nat.eq_zero_or_pos k with hk0 | hk0
          · subst hk0
            have HBO := Lib.hid (fun w3 s (h0 : 0 ≤ s) (h1 : s ≤ 100000) (h : Pip W w3 [] g 0 [(1, zeroIt)] s false) => pBackOne h h0 h1)
            go_wp2_with (first
            | (go_at_call 9; (with_reducible refine HSO.out.mono ?_); rintro e w3 ⟨b, rfl, hp3⟩; have H3 := Lib.hid hp3; clear hp3)
            | (go_at_call 14; (with_reducible refine (HBO.out _ _ (by omega) (by omega) H3.out).mono ?_); rintro e w4 ⟨v4, rfl, hp4⟩; have H4 := Lib.hid hp4; clear hp4)
            | (go_at_call 16; (with_reducible refine (HC1.out _ _ H4.out).mono ?_); rintro e w5 ⟨rfl, hp5⟩; have H5 := Lib.hid hp5; clear hp5)
            | (go_at_call 16; (with_reducible refine (HC2.out _ _ H5.out).mono ?_); rintro e w6 ⟨rfl, hp6⟩; have H6 := Lib.hid hp6; clear hp6)
            | (go_at_call 9; (with_reducible refine (HS2.out _ _ (by omega) (by omega) H6.out).mono ?_); rintro e w7 ⟨b7, rfl, hp7⟩; have H7 := Lib.hid hp7; clear hp7)
            | (go_at_call 11; (with_reducible refine (HT2.out _ _ H7.out).mono ?_); rintro e w8 ⟨rfl, hp8⟩; have h9 := hp8.alloc #[.int .i64 0, .int .i64 0, .int .i64 0, .int .i64 0, .string ⟨#[]⟩, .slice none 0 0, .int .i64 0] 36; have H9 := Lib.hid (pReady h9 (by simp)); have H10 := Lib.hid (fun q => pClosed (h9.drewN q)); have HB := Lib.hid (fun q => (h9.drewN q).to); clear hp8 h9)
            | (go_at_call 23; (with_reducible refine H9.out.mono ?_); rintro e w10 ⟨rfl, q10, rfl⟩)
            | (go_at_call 21; (with_reducible refine (H10.out _).mono ?_); rintro e w11 ⟨rfl, rfl⟩))
            go_ret
            exact ⟨rfl, HB.out _⟩
          · have HTO := Lib.hid (fun w3 s (h : Pip W w3 [] g k [(1, zeroIt)] s false) => pTakeOne h)
            go_wp2_with (first
            | (go_at_call 9; (with_reducible refine HSO.out.mono ?_); rintro e w3 ⟨b, rfl, hp3⟩; have H3 := Lib.hid hp3; clear hp3)
            | (go_at_call 11; (with_reducible refine (HTO.out _ _ H3.out).mono ?_); rintro e w4 ⟨v4, rfl, hp4⟩; have H4 := Lib.hid hp4; clear hp4)
            | (go_at_call 16; (with_reducible refine (HC1.out _ _ H4.out).mono ?_); rintro e w5 ⟨rfl, hp5⟩; have H5 := Lib.hid hp5; clear hp5)
            | (go_at_call 16; (with_reducible refine (HC2.out _ _ H5.out).mono ?_); rintro e w6 ⟨rfl, hp6⟩; have H6 := Lib.hid hp6; clear hp6)
            | (go_at_call 9; (with_reducible refine (HS2.out _ _ (by omega) (by omega) H6.out).mono ?_); rintro e w7 ⟨b7, rfl, hp7⟩; have H7 := Lib.hid hp7; clear hp7)
            | (go_at_call 11; (with_reducible refine (HT2.out _ _ H7.out).mono ?_); rintro e w8 ⟨rfl, hp8⟩; have h9 := hp8.alloc #[.int .i64 0, .int .i64 0, .int .i64 0, .int .i64 0, .string ⟨#[]⟩, .slice none 0 0, .int .i64 0] 36; have H9 := Lib.hid (pReady h9 (by simp)); have H10 := Lib.hid (fun q => pClosed (h9.drewN q)); have HB := Lib.hid (fun q => (h9.drewN q).to); clear hp8 h9)
            | (go_at_call 23; (with_reducible refine H9.out.mono ?_); rintro e w10 ⟨rfl, q10, rfl⟩)
            | (go_at_call 21; (with_reducible refine (H10.out _).mono ?_); rintro e w11 ⟨rfl, rfl⟩))
            go_ret
            exact ⟨rfl, HB.out _⟩
end Go.Proofs.Ytmmfioemnoijoaa
