/- A number parted: in plain words; the contract of cuts.Spread. -/
import Derived.Test.YtjiagpbmaepamaaRepeat
import Derived.Lib.MinMax
import Derived.BigQuiet
namespace Go.Proofs.Ytjiagpbmaepamaa
open Go Go.RowKit Go.Deep
set_option linter.unusedVariables false

/-- How many parts: as few as may be. -/
def cntN (N M : Nat) : Nat := (N - 1) / M + 1
/-- The parts: the lesser ones ahead. -/
def partsL (N M : Nat) : List Int := List.replicate (cntN N M - N % cntN N M) ((N / cntN N M : Nat) : Int) ++ List.replicate (N % cntN N M) (((N / cntN N M : Nat) : Int) + 1)
theorem cntN_pos (N M : Nat) : 0 < cntN N M := Nat.succ_pos _
theorem partsL_length (N M : Nat) : (partsL N M).length = cntN N M := by
  have : N % cntN N M < cntN N M := Nat.mod_lt _ (cntN_pos N M)
  simp [partsL]; omega
theorem partsL_get (N M j : Nat) (h : j < cntN N M) : (partsL N M).getD j 0 = if cntN N M - N % cntN N M ≤ j then ((N / cntN N M : Nat) : Int) + 1 else ((N / cntN N M : Nat) : Int) := by
  have hr : N % cntN N M < cntN N M := Nat.mod_lt _ (cntN_pos N M)
  unfold partsL
  generalize cntN N M = C at *
  generalize N % C = R at *
  generalize N / C = E at *
  rw [List.getD]
  split
  · rw [List.getElem?_append_right (by simp only [List.length_replicate]; assumption), List.getElem?_replicate, if_pos (by simp; omega)]
    rfl
  · rw [List.getElem?_append_left (by simp; omega), List.getElem?_replicate, if_pos (by omega)]
    rfl

theorem spread_none (n most : Int) (hn : n < 1) (W : World) :
    Calls Try.prog 13 #[.int .i64 n, .int .i64 most] W fun e w' => e = .returned (.slice none 0 0) ∧ W = w' := by
  go_enter Try.func13, Try.ntmps13
  go_wp2
  go_ret
  exact ⟨rfl, rfl⟩

set_option maxHeartbeats 2000000 in
theorem spread_some (N M : Nat) (most : Int) (hM : max most 1 = (M : Int)) (hN1 : 1 ≤ N) (hN : N ≤ 100000) (W : World) :
    Calls Try.prog 13 #[.int .i64 (N : Int), .int .i64 most] W fun e w' => ∃ A c, e = .returned (.slice A (cntN N M) c) ∧ RowI .i64 w' A (cntN N M) (partsL N M) ∧ Below W.heap.size W w' := by
  have hM1 : 1 ≤ M := by omega
  have hq : ((N : Int) - 1) / (M : Int) = (((N - 1) / M : Nat) : Int) := by
    rw [show (N : Int) - 1 = ((N - 1 : Nat) : Int) by omega]
    simp
  have hc0 : (N - 1) / M ≤ N - 1 := Nat.div_le_self _ _
  have hget := partsL_get N M
  have hlen := partsL_length N M
  have hcnt : cntN N M = (N - 1) / M + 1 := rfl
  obtain ⟨c0, hc0e⟩ : ∃ c0, c0 = (N - 1) / M := ⟨_, rfl⟩
  rw [← hc0e] at hq hc0 hcnt
  rw [hcnt] at hget hlen
  have hE : (N : Int) / ((c0 : Int) + 1) = ((N / (c0 + 1) : Nat) : Int) := by
    rw [show (c0 : Int) + 1 = ((c0 + 1 : Nat) : Int) by omega]
    simp
  have hR : (N : Int) % ((c0 : Int) + 1) = ((N % (c0 + 1) : Nat) : Int) := by
    rw [show (c0 : Int) + 1 = ((c0 + 1 : Nat) : Int) by omega]
    simp
  have hRC : N % (c0 + 1) < c0 + 1 := Nat.mod_lt _ (by omega)
  have hEN : N / (c0 + 1) ≤ N := Nat.div_le_self _ _
  obtain ⟨E, hEe⟩ : ∃ E, E = N / (c0 + 1) := ⟨_, rfl⟩
  obtain ⟨R, hRe⟩ : ∃ R, R = N % (c0 + 1) := ⟨_, rfl⟩
  rw [← hEe] at hE hEN hget
  rw [← hRe] at hR hRC hget
  have hrep : ∀ w gA, w.cell? ⟨gA, 0, none⟩ = some (.int .i64 (E : Int)) → Calls Try.prog 20 #[.slice (some ⟨gA, 0, none⟩) 1 1, .int .i64 ((c0 : Int) + 1)] w fun e w' => e = .returned (.slice (some ⟨w.heap.size, 0, none⟩) (c0 + 1) (c0 + 1)) ∧ w'.heap[w.heap.size]? = some (.cells (halfL (c0 + 1) (c0 + 1) (E : Int)).toArray 3 (0, 0)) ∧ Below w.heap.size w w' := fun w gA h => by
    have := repeat_any (E : Int) gA (c0 + 1) w h (by omega) (by omega)
    rwa [show ((c0 + 1 : Nat) : Int) = (c0 : Int) + 1 by omega] at this
  obtain ⟨D, hD0⟩ : ∃ D, D + R = c0 + 1 := ⟨c0 + 1 - R, by omega⟩
  have hD : (c0 : Int) + 1 - (R : Int) = (D : Int) := by omega
  rw [hcnt]
  have HGET := Lib.hid hget; clear hget
  have HLEN := Lib.hid hlen; clear hlen
  have HREP := Lib.hid hrep; clear hrep
  clear hcnt hEe hRe hc0e
  go_enter Try.func13, Try.ntmps13
  go_wp2_with fail
  go_quiet (fail)
  go_wp2_with fail
  have hsz : ((W.drewN nq).alloc (.cells #[.int .i64 (E : Int)] 3)).heap.size = W.heap.size + 1 := by simp
  have hrp := HREP.out ((W.drewN nq).alloc (.cells #[.int .i64 (E : Int)] 3)) W.heap.size ((cell_of_row _ W.heap.size 0 _ 3 (0, 0) (heap_alloc_new (W.drewN nq) _)).trans rfl)
  rw [hsz] at hrp
  refine hrp.mono ?_; rintro e w2 ⟨rfl, hheap, hb2⟩
  have hb02 : Below W.heap.size W w2 := ((below_drewN (Below.refl W.heap.size W) nq).alloc (show W.heap.size ≤ W.heap.size from Nat.le_refl _) _).trans (Below.mono hb2 (Nat.le_succ _))
  have hrow : w2.rowIs (W.heap.size + 1) 3 (c0 + 1) (fun j => .int .i64 (if D ≤ j ∧ j < D then (E : Int) + 1 else (E : Int))) := by
    refine ⟨_, hheap, by simp [halfL_length], fun i hi => ?_⟩
    show _ = some (Value.int .i64 (if D ≤ i ∧ i < D then (E : Int) + 1 else (E : Int)))
    rw [if_neg (by omega)]
    simpa using halfL_get (c0 + 1) (c0 + 1) i (E : Int) hi
  have HROW := Lib.hid hrow; clear hrow hheap hb2 hrp hsz
  go_wp2_with fail
  go_loopw [9] (fun vi wr => ∃ i : Nat, D ≤ i ∧ i ≤ c0 + 1 ∧ vi = .int .i64 (i : Int) ∧ Hid (wr.rowIs (W.heap.size + 1) 3 (c0 + 1) (fun j => .int .i64 (if D ≤ j ∧ j < i then (E : Int) + 1 else (E : Int)))) ∧ Below W.heap.size W wr) (fun vi _ => c0 + 1 - (intOf vi).toNat)
  case atStart => exact ⟨D, by omega, by omega, rfl, HROW, hb02⟩
  case round =>
    obtain ⟨i, hDi, hi, rfl, HRW, hb⟩ := hrel
    by_cases hlt : i < c0 + 1
    · have hcell := HRW.out.cell hlt
      rw [if_neg (by omega)] at hcell
      have hfz := HRW.out.frozen i
      have hset := HRW.out.set i (.int .i64 ((E : Int) + 1))
      have hset2 := hset.congr (g := fun j => .int .i64 (if D ≤ j ∧ j < i + 1 then (E : Int) + 1 else (E : Int))) (fun j hj => by
        by_cases e : j = i
        · rw [if_pos e, if_pos (by omega)]
        · rw [if_neg e]
          by_cases e2 : D ≤ j ∧ j < i
          · rw [if_pos e2, if_pos (by omega)]
          · rw [if_neg e2, if_neg (by omega)])
      have hb3 : Below W.heap.size W (wr.setCell ⟨W.heap.size + 1, i, none⟩ (.int .i64 ((E : Int) + 1))) := hb.setCell (by simp) _
      have HS := Lib.hid hset2; clear hset hset2
      go_wp2
      refine ⟨⟨i + 1, by omega, by omega, by go_num, HS, hb3⟩, by simp [intOf]; omega⟩
    · obtain rfl : i = c0 + 1 := by omega
      go_wp2
      go_ret
      refine ⟨_, _, rfl, ⟨HLEN.out, fun _ => ⟨_, _, rfl, HRW.out.lt, fun j hj => ?_⟩⟩, hb⟩
      rw [Nat.zero_add, HGET.out j hj, HRW.out.cell hj]
      by_cases e : D ≤ j
      · rw [if_pos ⟨e, hj⟩, if_pos (by omega)]
      · rw [if_neg (by omega), if_neg (by omega)]
end Go.Proofs.Ytjiagpbmaepamaa
