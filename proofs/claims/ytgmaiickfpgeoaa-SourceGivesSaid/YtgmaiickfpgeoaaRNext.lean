/- The document's own Next; Texts. -/
import Derived.Test.YtgmaiickfpgeoaaRSrc
namespace Go.Proofs.Ytgmaiickfpgeoaa
open Go Go.RowKit
set_option linter.unusedVariables false

theorem rnext_arg (g : Nat) (most : Int) (w : World) (hm : most < 1) :
    Calls Try.prog 11 #[.pointer (some ⟨g, 0, none⟩), .int .i64 most] w fun e' w' => e' = .returned (.tuple #[.string ⟨#[]⟩, .int .i64 2]) ∧ w = w' := by
  go_enter Try.func11, Try.ntmps11
  go_wp2_with fail
  go_ret2
  exact ⟨rfl, rfl⟩

set_option maxHeartbeats 1000000 in
theorem rnext_fails {w : World} {B U g : Nat} {S : ByteArray} {given fail : Int} {es : List Int} (h : RSrc w B U g S given fail es) (most : Int) (hm : 1 ≤ most) (h0 : 0 ≤ fail) (hf : fail ≤ given) :
    Calls Try.prog 11 #[.pointer (some ⟨g, 0, none⟩), .int .i64 most] w fun e' w' => e' = .returned (.tuple #[.string ⟨#[]⟩, .int .i64 11]) ∧ Below w.heap.size w w' := by
  have c1 := h.c1
  have c2 := h.c2
  have hd : decide (most < 1) = false := by simp; omega
  have hd1 : decide (0 ≤ fail) = true := by simp; omega
  have hd2 : decide (fail ≤ given) = true := by simp; omega
  clear h
  go_enter Try.func11, Try.ntmps11
  go_wp2_with fail
  go_quiet (fail)
  go_wp2_with fail
  go_ret2
  exact ⟨rfl, below_drewN (Below.refl _ _) _⟩

set_option maxHeartbeats 1000000 in
theorem rnext_none {w : World} {B U g : Nat} {S : ByteArray} {given fail : Int} {es : List Int} (h : RSrc w B U g S given fail es) (most : Int) (hm : 1 ≤ most) (hf : fail < 0 ∨ given < fail) (hg : given = (S.size : Int)) :
    Calls Try.prog 11 #[.pointer (some ⟨g, 0, none⟩), .int .i64 most] w fun e' w' => e' = .returned (.tuple #[.string ⟨#[]⟩, .int .i64 19]) ∧ Below w.heap.size w w' := by
  have c0 := h.c0
  have c1 := h.c1
  have c2 := h.c2
  have hd : decide (most < 1) = false := by simp; omega
  clear h
  subst hg
  rcases hf with hf | hf
  · have hd1 : decide (0 ≤ fail) = false := by simp; omega
    go_enter Try.func11, Try.ntmps11
    go_wp2_with fail
    go_quiet (fail)
    go_wp2_with fail
    go_quiet (fail)
    go_wp2_with fail
    go_ret2
    exact ⟨rfl, below_drewN (below_drewN (Below.refl _ _) _) _⟩
  · have hd1 : decide (0 ≤ fail) = true := by simp; omega
    have hd2 : decide (fail ≤ (S.size : Int)) = false := by simp; omega
    go_enter Try.func11, Try.ntmps11
    go_wp2_with fail
    go_quiet (fail)
    go_wp2_with fail
    go_quiet (fail)
    go_wp2_with fail
    go_ret2
    exact ⟨rfl, below_drewN (below_drewN (Below.refl _ _) _) _⟩

/-- As far as an answer goes, without the place of a failure. -/
def firstI (st G : Nat) (most : Int) : Int := if most < (st : Int) - G then G + most else st

set_option maxHeartbeats 4000000 in
/-- The next octets. -/
theorem rnext_some {w : World} {B U g : Nat} {S : ByteArray} {fail : Int} {ps : List (List Int)} {G : Nat} (h : RSrc w B U g S (G : Int) fail (endsP 0 ps)) (most : Int) (hm : 1 ≤ most) (hf : fail < 0 ∨ (G : Int) < fail) (hS : S.size = ps.flatten.length) (hG : G < S.size) (hl : S.size ≤ 1000) (hfew : ps.length ≤ 1000) (T : Nat)
    (hT : (T : Int) = if fail < 0 then firstI (stopP G ps) G most else min (firstI (stopP G ps) G most) fail) :
    Calls Try.prog 11 #[.pointer (some ⟨g, 0, none⟩), .int .i64 most] w fun e' w' => e' = .returned (.tuple #[.string (S.extract G T), .int .i64 0]) ∧ RSrc w' B U g S (T : Int) fail (endsP 0 ps) ∧ Touch B U w w' := by
  have c0 := h.c0
  have c1 := h.c1
  have c2 := h.c2
  have f1 := h.fz 1
  obtain ⟨A, ec, c3, hrow⟩ := h.c3
  have hst := stopP_gt ps G (by omega)
  obtain ⟨st, hste⟩ : ∃ st, st = stopP G ps := ⟨_, rfl⟩
  rw [← hste] at hst hT
  have hd : decide (most < 1) = false := by simp; omega
  have hset := h.set1 (T : Int)
  have hset2 := h.touch1 (.int .i64 (T : Int))
  have hel : (endsP 0 ps).length = ps.length := endsP_length ps 0
  rw [hel] at c3 hrow
  obtain ⟨K, hK⟩ : ∃ K, K = ps.length := ⟨_, rfl⟩
  have hK1 : K ≤ 1000 := by omega
  rw [← hK] at c3 hrow
  clear hfew
  have HSET := Lib.hid hset; clear hset
  have HSET2 := Lib.hid hset2; clear hset2
  have HROW := Lib.hid hrow; clear hrow
  have HSTE := Lib.hid hste; clear hste
  have HK := Lib.hid hK; clear hK
  have hne : decide ((G : Int) = (S.size : Int)) = false := by simp; omega
  have HH := Lib.hid h; clear h
  have HSZ := Lib.hid hS; clear hS
  have hst1 : st ≤ 1000 := by have := HSZ.out; omega
  clear hel
  have loop : ∀ (q : Nat) (j t : Nat), j ≤ K → ((t = (ps.take j).flatten.length ∧ t ≤ G) ∨ (t = st ∧ G < t)) → t ≤ G → j < K ∧ ∃ t', (endsP 0 ps).getD j 0 = ((t' : Nat) : Int) ∧ ((t' = (ps.take (j + 1)).flatten.length ∧ t' ≤ G) ∨ (t' = st ∧ G < t')) := by
    intro q j t hj hor hle
    have h1 : t = (ps.take j).flatten.length := by
      rcases hor with ⟨h1, _⟩ | ⟨_, h2⟩
      · exact h1
      · omega
    have hjK : j < K := by
      rcases Nat.lt_or_ge j K with h2 | h2
      · exact h2
      · rw [List.take_of_length_le (by rw [← HK.out]; exact h2)] at h1
        have := HSZ.out
        omega
    refine ⟨hjK, (ps.take (j + 1)).flatten.length, ?_, ?_⟩
    · rw [endsP_get ps 0 j (by rw [← HK.out]; exact hjK), Nat.zero_add]
    · by_cases h3 : (ps.take (j + 1)).flatten.length ≤ G
      · exact .inl ⟨rfl, h3⟩
      · exact .inr ⟨by rw [HSTE.out, stopP_at ps j G (by omega) (by omega)], by omega⟩
  have HLOOP := Lib.hid loop; clear loop
  rcases hf with hf | hf
  · have hd1 : decide (0 ≤ fail) = false := by simp; omega
    rw [if_pos hf] at hT
    go_enter Try.func11, Try.ntmps11
    go_wp2_with fail
    go_quiet (fail)
    revert nq; intro q1
    go_wp2_with fail
    go_quiet (fail)
    revert nq; intro q2
    go_wp2_with fail
    go_loopw [6, 7] (fun vt vi wr => ∃ j t : Nat, vi = .int .i64 (j : Int) ∧ vt = .int .i64 (t : Int) ∧ j ≤ K ∧ t ≤ 1000 ∧ Hid ((t = (ps.take j).flatten.length ∧ t ≤ G) ∨ (t = st ∧ G < t)) ∧ wr = w.drewN (q1 + q2)) (fun _ vi _ => K - (intOf vi).toNat)
    case atStart => exact ⟨0, 0, rfl, rfl, by omega, by omega, Lib.hid (Or.inl ⟨by simp, by omega⟩), by simp⟩
    case round =>
      obtain ⟨j, t, rfl, rfl, hjK, ht1, HOR, rfl⟩ := hrel
      by_cases hle : t ≤ G
      · obtain ⟨hlt, t', hge, hor⟩ := HLOOP.out 0 j t hjK HOR.out hle
        obtain ⟨b, o, rfl, _, hc⟩ := HROW.out.2 (by omega)
        have hce := hc j hlt
        rw [hge] at hce
        have ht2 : t' ≤ 1000 := by omega
        have HOR2 := Lib.hid hor
        clear hc hge hor
        go_wp2_with fail
        refine ⟨⟨j + 1, t', by go_num, rfl, by omega, ht2, HOR2, by simp⟩, by simp [intOf]; omega⟩
      · have hts : t = st := by have := HOR.out; omega
        subst hts
        by_cases hmo : most < (t : Int) - (G : Int)
        · obtain ⟨u, hu⟩ := Int.eq_ofNat_of_zero_le (show 0 ≤ (G : Int) + most by omega)
          have hfi : firstI t G most = (u : Int) := by rw [firstI, if_pos hmo, hu]
          rw [hfi] at hT
          have hadd : IntKind.i64.wrap ((G : Int) + most) = (u : Int) := by rw [IntKind.wrap_i64]; omega
          have hug : G < u ∧ u ≤ S.size := by have := HSZ.out; omega
          obtain rfl : T = u := by omega
          clear hT
          go_wp2_with fail
          go_quiet (fail)
          go_wp2_with fail
          go_ret2
          exact ⟨rfl, HSET.out.drewN _, HSET2.out.drewN _⟩
        · have hfi : firstI t G most = (t : Int) := by rw [firstI, if_neg hmo]
          rw [hfi] at hT
          have hug : G < t ∧ t ≤ S.size := by have := HSZ.out; omega
          obtain rfl : T = t := by omega
          clear hT
          go_wp2_with fail
          go_quiet (fail)
          go_wp2_with fail
          go_ret2
          exact ⟨rfl, HSET.out.drewN _, HSET2.out.drewN _⟩
  · have hd1 : decide (0 ≤ fail) = true := by simp; omega
    have hd2 : decide (fail ≤ (G : Int)) = false := by simp; omega
    rw [if_neg (by omega)] at hT
    go_enter Try.func11, Try.ntmps11
    go_wp2_with fail
    go_quiet (fail)
    revert nq; intro q1
    go_wp2_with fail
    go_quiet (fail)
    revert nq; intro q2
    go_wp2_with fail
    go_loopw [6, 7] (fun vt vi wr => ∃ j t : Nat, vi = .int .i64 (j : Int) ∧ vt = .int .i64 (t : Int) ∧ j ≤ K ∧ t ≤ 1000 ∧ Hid ((t = (ps.take j).flatten.length ∧ t ≤ G) ∨ (t = st ∧ G < t)) ∧ wr = w.drewN (q1 + q2)) (fun _ vi _ => K - (intOf vi).toNat)
    case atStart => exact ⟨0, 0, rfl, rfl, by omega, by omega, Lib.hid (Or.inl ⟨by simp, by omega⟩), by simp⟩
    case round =>
      obtain ⟨j, t, rfl, rfl, hjK, ht1, HOR, rfl⟩ := hrel
      by_cases hle : t ≤ G
      · obtain ⟨hlt, t', hge, hor⟩ := HLOOP.out 0 j t hjK HOR.out hle
        obtain ⟨b, o, rfl, _, hc⟩ := HROW.out.2 (by omega)
        have hce := hc j hlt
        rw [hge] at hce
        have ht2 : t' ≤ 1000 := by omega
        have HOR2 := Lib.hid hor
        clear hc hge hor
        go_wp2_with fail
        refine ⟨⟨j + 1, t', by go_num, rfl, by omega, ht2, HOR2, by simp⟩, by simp [intOf]; omega⟩
      · have hts : t = st := by have := HOR.out; omega
        subst hts
        by_cases hmo : most < (t : Int) - (G : Int)
        · obtain ⟨u, hu⟩ := Int.eq_ofNat_of_zero_le (show 0 ≤ (G : Int) + most by omega)
          have hfi : firstI t G most = (u : Int) := by rw [firstI, if_pos hmo, hu]
          rw [hfi] at hT
          have hadd : IntKind.i64.wrap ((G : Int) + most) = (u : Int) := by rw [IntKind.wrap_i64]; omega
          have hug : G < u ∧ u ≤ S.size := by have := HSZ.out; omega
          obtain ⟨F, hF⟩ := Int.eq_ofNat_of_zero_le (show 0 ≤ fail by omega)
          subst hF
          by_cases hfl : (F : Int) < (u : Int)
          · obtain rfl : T = F := by omega
            clear hT
            go_wp2_with fail
            go_quiet (fail)
            go_wp2_with fail
            go_ret2
            exact ⟨rfl, HSET.out.drewN _, HSET2.out.drewN _⟩
          · obtain rfl : T = u := by omega
            clear hT
            go_wp2_with fail
            go_quiet (fail)
            go_wp2_with fail
            go_ret2
            exact ⟨rfl, HSET.out.drewN _, HSET2.out.drewN _⟩
        · have hfi : firstI t G most = (t : Int) := by rw [firstI, if_neg hmo]
          rw [hfi] at hT
          have hug : G < t ∧ t ≤ S.size := by have := HSZ.out; omega
          obtain ⟨F, hF⟩ := Int.eq_ofNat_of_zero_le (show 0 ≤ fail by omega)
          subst hF
          by_cases hfl : (F : Int) < (t : Int)
          · obtain rfl : T = F := by omega
            clear hT
            go_wp2_with fail
            go_quiet (fail)
            go_wp2_with fail
            go_ret2
            exact ⟨rfl, HSET.out.drewN _, HSET2.out.drewN _⟩
          · obtain rfl : T = t := by omega
            clear hT
            go_wp2_with fail
            go_quiet (fail)
            go_wp2_with fail
            go_ret2
            exact ⟨rfl, HSET.out.drewN _, HSET2.out.drewN _⟩
end Go.Proofs.Ytgmaiickfpgeoaa
