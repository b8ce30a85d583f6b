/- PipeOrder: items are taken in the order in which they were sent. -/
import Derived.Test.YtmmfioemnoijoaaPipA
import Derived.Test.YtmmfioemnoijoaaBoolR
namespace Go.Proofs.Ytmmfioemnoijoaa
open Go Go.RowKit
set_option linter.unusedVariables false
set_option maxRecDepth 20000

set_option maxHeartbeats 2000000 in
theorem order14_many (room : Int) (A : Option Addr) (n c : Nat) (w : World) (hn : 100 < n) :
    Calls Try.prog 4 #[.int .i64 room, .slice A n c] w fun e w' => e = .returned (.bool true) ∧ Below w.heap.size w w' := by
  have hd : decide ((100 : Int) < (n : Int)) = true := by simp; omega
  have HA := Lib.hid fun w => awake14_any w
  clear hn
  go_enter Try.func4, Try.ntmps4
  go_wp2_with fail
  (with_reducible refine (HA.out _).mono ?_); rintro e w1 ⟨rfl, hb1⟩
  have H1 := Lib.hid hb1; clear hb1
  go_wp2_with fail
  (with_reducible refine (HA.out _).mono ?_); rintro e w2 ⟨rfl, hb2⟩
  have H2 := Lib.hid (H1.out.trans (hb2.mono H1.out.size)); clear hb2
  go_wp2_with fail
  go_ret
  exact ⟨rfl, H2.out⟩

set_option maxHeartbeats 4000000 in
theorem order14_any (room : Int) (A : Option Addr) (n c : Nat) (l : List Bool) (W : World) (hl : RowBo W A n l) (hn : n ≤ 100) :
    Calls Try.prog 4 #[.int .i64 room, .slice A n c] W fun e w' => e = .returned (.bool true) ∧ Below W.heap.size W w' := by
  have hd : decide ((100 : Int) < (n : Int)) = false := by simp; omega
  obtain ⟨t, ht⟩ : ∃ t, room.tmod 65 = t := ⟨_, rfl⟩
  have ht1 : -65 < t := by have := Int.lt_tmod_of_pos room (show (0 : Int) < 65 by decide); omega
  have ht2 : t < 65 := by have := Int.tmod_lt_of_pos room (show (0 : Int) < 65 by decide); omega
  obtain ⟨k, hk⟩ : ∃ k : Nat, t % 65 = (k : Int) := Int.eq_ofNat_of_zero_le (by omega)
  have hk1 : k ≤ 64 := by omega
  have HL := Lib.hid hl
  have HA := Lib.hid fun w => awake14_any w
  have HN := Lib.hid fun w (hb : Below W.heap.size W w) => pNew W w k hk1 hb
  clear hl
  go_enter Try.func4, Try.ntmps4
  go_wp2_with fail
  (with_reducible refine (HA.out _).mono ?_); rintro e w1 ⟨rfl, hb1⟩
  have H1 := Lib.hid hb1; clear hb1
  go_wp2_with fail
  refine (HN.out _ H1.out).mono ?_; rintro e w2 ⟨g, rfl, hp⟩
  have HP := Lib.hid hp; clear hp
  have HT := Lib.hid ht; have HK := Lib.hid hk
  clear ht hk
  go_wp2_with fail
  go_loopw [7, 8, 9] (fun vs va vi wr => ∃ (i a s : Nat), vs = .int .i64 (s : Int) ∧ va = .int .i64 (a : Int) ∧ vi = .int .i64 (i : Int) ∧ i ≤ n ∧ s ≤ i ∧ a ≤ s ∧ Hid (Pip W wr [] g k (rowN a (s - a)) (s : Int) false)) (fun _ _ vi _ => n - (intOf vi).toNat)
  case atStart => exact ⟨0, 0, 0, rfl, rfl, rfl, Nat.zero_le _, Nat.le_refl _, Nat.le_refl _, HP⟩
  case round =>
    obtain ⟨i, a, s, rfl, rfl, rfl, hi, hsi, has, HR⟩ := hrel
    by_cases hlt : i < n
    · obtain ⟨b, o, rfl, hbw, hc⟩ := HL.out.2 (by omega)
      obtain ⟨v, hv⟩ : ∃ v, l[i]? = some v := ⟨_, List.getElem?_eq_getElem (by rw [HL.out.1]; exact hlt)⟩
      have d0 := (HR.out.to.cell (p := ⟨b, o + i, none⟩) hbw).trans (hc i v hv)
      clear hc hv
      rcases v with _ | _
      · have HS := Lib.hid (pSendRow HR.out s (by omega) (by omega) hk1 (by omega) (by omega))
        go_wp2_with (go_at_call 9; (with_reducible refine HS.out.mono ?_); rintro e w3 ⟨rfl, hp3⟩; have H3 := Lib.hid hp3; clear hp3)
        refine ⟨⟨i + 1, a, s + 1, by go_num, rfl, by go_num, by omega, by omega, by omega, Lib.hid ?_⟩, by simp [intOf]; omega⟩
        have := H3.out
        rw [show s - a + 1 = s + 1 - a by omega] at this
        exact this
      · rcases Nat.lt_or_ge a s with h1 | h1
        · obtain ⟨m, hm⟩ : ∃ m, s - a = m + 1 := ⟨s - a - 1, by omega⟩
          have hR := HR.out
          rw [hm] at hR
          have HS := Lib.hid (pTakeRow hR (by omega))
          have hne : ((a : Int) == (s : Int)) = false := by simp; omega
          have hmm : s - (a + 1) = m := by omega
          have HM := Lib.hid hmm
          clear hR hm hmm
          go_wp2_with (go_at_call 11; (with_reducible refine HS.out.mono ?_); rintro e w3 ⟨rfl, hp3⟩; have H3 := Lib.hid (hp3.alloc #[.int .i64 (a : Int), .int .i64 0, .int .i64 0, .int .i64 0, .string ⟨#[]⟩, .slice none 0 0, .int .i64 0] 36); clear hp3)
          refine ⟨⟨i + 1, a + 1, s, rfl, by go_num, by go_num, by omega, by omega, by omega, Lib.hid ?_⟩, by simp [intOf]; omega⟩
          rw [HM.out]
          exact H3.out.free (by simp)
        · have has2 : a = s := by omega
          subst has2
          have hR := HR.out
          rw [Nat.sub_self] at hR
          have HS := Lib.hid (show Calls Try.prog 11 #[.pointer (some ⟨g, 0, none⟩)] wr fun e w' => e = .returned (.tuple #[.agg #[.int .i64 0, .int .i64 0, .int .i64 0, .int .i64 0, .string ⟨#[]⟩, .slice none 0 0, .int .i64 0], .int .i64 19]) ∧ _ from pTakeNone hR)
          clear hR
          go_wp2_with (go_at_call 11; (with_reducible refine HS.out.mono ?_); rintro e w3 ⟨rfl, hp3⟩; have H3 := Lib.hid (hp3.alloc #[.int .i64 0, .int .i64 0, .int .i64 0, .int .i64 0, .string ⟨#[]⟩, .slice none 0 0, .int .i64 0] 36); clear hp3)
          refine ⟨⟨i + 1, a, a, rfl, rfl, by go_num, by omega, by omega, by omega, Lib.hid ?_⟩, by simp [intOf]; omega⟩
          rw [Nat.sub_self]
          exact H3.out.free (by simp)
    · have hin : i = n := by omega
      subst hin
      obtain ⟨d, hd2⟩ : ∃ d, d = s - a := ⟨_, rfl⟩
      have hI := pItems HR.out (by rw [rowN_length]; omega) (fun o ho => rowN_hits ho wr)
      rw [rowN_length, ← hd2] at hI
      have HI := Lib.hid hI
      have hsub : (s : Int) - (a : Int) = (d : Int) := by omega
      clear hI hd2
      go_wp2_with (first
        | (go_at_call 18; (with_reducible refine HI.out.mono ?_); rintro e w3 ⟨A3, c3, ys, rfl, -, -, -, hp3⟩; have H3 := Lib.hid hp3; have HS3 := Lib.hid (pSent hp3); clear hp3)
        | (go_at_call 22; (with_reducible refine HS3.out.mono ?_); rintro e w4 ⟨rfl, rfl⟩))
      go_ret
      exact ⟨rfl, H3.out.to⟩
end Go.Proofs.Ytmmfioemnoijoaa
