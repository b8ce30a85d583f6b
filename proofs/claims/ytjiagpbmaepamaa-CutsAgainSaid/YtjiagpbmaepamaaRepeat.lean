/- math/bits.Mul; slices.Repeat of one number. -/
import Derived.Test.YtjiagpbmaepamaaOwn
import Derived.Laws.Bits64b
import Derived.Laws.CopyRow
import Derived.Laws.CopyOwn
import Derived.BigRegion
import Derived.Deep.RegionLaw
import Derived.Deep.OwnRows
namespace Go.Proofs.Ytjiagpbmaepamaa
open Go Go.RowKit Go.Deep
set_option linter.unusedVariables false

theorem and_mask (y : Nat) (hy : y < 4294967296) : bits .and .u64 (y : Int) 4294967295 = (y : Int) := by
  rw [show (4294967295 : Int) = ((4294967295 : Nat) : Int) from rfl, bits_and_u64_nat y 4294967295 (by omega) (by omega), Nat.and_two_pow_sub_one_eq_mod y 32, Nat.mod_eq_of_lt (by omega)]
theorem and_none : bits .and .u64 0 4294967295 = 0 := by decide
theorem and_one : bits .and .u64 1 4294967295 = 1 := by decide

set_option maxHeartbeats 1000000 in
/-- math/bits.Mul64(1, y), of a y that has 32 bits: nothing above, y below. -/
theorem mul64_one (y : Nat) (hy : y < 4294967296) (w : World) :
    Calls Try.prog 24 #[.int .u64 1, .int .u64 y] w fun e w' => e = .returned (.tuple #[.int .u64 0, .int .u64 (y : Int)]) ∧ w = w' := by
  have k0 := and_none
  have k1 := and_one
  have ky := and_mask y hy
  have hdiv : (y : Int) / 4294967296 = 0 := by omega
  have hwr : IntKind.u64.wrap (y : Int) = (y : Int) := by rw [IntKind.wrap_u64]; omega
  go_enter Try.func24, Try.ntmps24
  go_wp2
  go_ret2
  exact ⟨rfl, rfl⟩
theorem mul_one (y : Nat) (hy : y < 4294967296) (w : World) :
    Calls Try.prog 22 #[.int .u64 1, .int .u64 y] w fun e w' => e = .returned (.tuple #[.int .u64 0, .int .u64 (y : Int)]) ∧ w = w' := by
  have HM := Lib.hid (mul64_one y hy w)
  go_enter Try.func22, Try.ntmps22
  go_wp2_with fail
  refine HM.out.mono ?_; rintro e w' ⟨rfl, rfl⟩
  go_wp2_with fail
  go_ret2
  exact ⟨rfl, rfl⟩

/-- What slices.Repeat fills: q copies, and noughts. -/
def halfL (N q : Nat) (x : Int) : List Value := List.replicate q (Value.int .i64 x) ++ List.replicate (N - q) (Value.int .i64 0)
theorem halfL_length (N q : Nat) (x : Int) (h : q ≤ N) : (halfL N q x).length = N := by simp [halfL]; omega
theorem halfL_copy (N q m : Nat) (x : Int) (h : q + m ≤ N) : splice (halfL N q x) q (List.replicate m (Value.int .i64 x)) = halfL N (q + m) x := by
  unfold splice halfL
  rw [List.take_append, List.drop_append]
  simp only [List.length_replicate, List.take_replicate, List.drop_replicate, Nat.sub_self, Nat.min_self]
  rw [show q - (q + m) = 0 by omega, show N - q - (q + m - q) = N - (q + m) by omega, ← List.replicate_append_replicate]
  simp only [List.append_assoc, Nat.zero_min, List.replicate_zero, List.nil_append]
theorem halfL_get (N q j : Nat) (x : Int) (h : j < q) : (halfL N q x)[j]? = some (.int .i64 x) := by
  unfold halfL
  rw [List.getElem?_append_left (by simpa using h), List.getElem?_replicate, if_pos h]
theorem made_half (N : Nat) (x : Int) : madeCells #[Value.int .i64 0] N = (halfL N 0 x).toArray := by
  apply Array.ext
  · rw [size_madeCells]; simp [halfL]
  · intro i h1 h2
    simp [madeCells, halfL, Nat.mod_one]

/-- copy onto such a row, behind its copies. -/
theorem copy_half (w w0 : World) (g N q m B : Nat) (x : Int) (hg : w.heap[g]? = some (.cells (halfL N q x).toArray 3 (0, 0))) (hb : Below B w0 w) (hB : B ≤ g) (ad : Addr) (sl sc dl dc : Nat) (hm : m = Nat.min sl dl)
    (hsrc : ∀ j, j < m → w.cell? (ad.add j) = some (.int .i64 x)) (hq : q + m ≤ N) :
    ∃ w2, (Builtin.copy_ #[23, 23] 3 #[.slice (some ⟨g, q, none⟩) dl dc, .slice (some ad) sl sc]).run Try.prog w = .ok (.int .i64 (m : Int)) w2 ∧ w2.heap[g]? = some (.cells (halfL N (q + m) x).toArray 3 (0, 0)) ∧ Below B w0 w2 := by
  have hr := run_copy_row (P := Try.prog) w 23 23 3 3 g q dl dc ad sl sc (halfL N q x).toArray 3 (List.replicate m (Value.int .i64 x)) Try.underlying23 (by kernel_rfl) hg (by simpa using hm)
    (by
      intro j v hj
      rw [List.getElem?_replicate] at hj
      split at hj
      · injection hj with hj
        subst hj
        exact hsrc j (by assumption)
      · cases hj) (by simp [halfL_length N q x (by omega)]; omega) (by intro v hv; rw [List.eq_of_mem_replicate hv]; rfl)
  rw [List.length_replicate] at hr
  refine ⟨_, hr, ?_, below_setRow hb hB _⟩
  rw [setRow_heap w g _ _ 3 _ hg]
  have := halfL_copy N q m x hq
  unfold splice at this
  simp only [List.length_replicate] at this
  rw [← this]
  simp

set_option maxHeartbeats 2000000 in
theorem repeat_any (x : Int) (gA : Nat) (N : Nat) (W : World) (hA : W.cell? ⟨gA, 0, none⟩ = some (.int .i64 x)) (hN1 : 1 ≤ N) (hN : N ≤ 1000000) :
    Calls Try.prog 20 #[.slice (some ⟨gA, 0, none⟩) 1 1, .int .i64 (N : Int)] W fun e w' => e = .returned (.slice (some ⟨W.heap.size, 0, none⟩) N N) ∧ w'.heap[W.heap.size]? = some (.cells (halfL N N x).toArray 3 (0, 0)) ∧ Below W.heap.size W w' := by
  have hgA : gA < W.heap.size := World.block_lt_of_cell? W (⟨gA, 0, none⟩ : Addr) hA
  have hmul := fun w => mul_one N (by omega) w
  have HMUL := Lib.hid hmul; clear hmul
  have hmk := run_make_row' (P := Try.prog) 23 3 (.int .i64 0) 8 Try.underlying23 info_int rfl .i64 .i64 N (by omega) (by omega)
  rw [made_half N x] at hmk
  have hw1 : IntKind.u64.wrap (N : Int) = (N : Int) := by rw [IntKind.wrap_u64]; omega
  have hw2 : IntKind.i64.wrap (N : Int) = (N : Int) := by rw [IntKind.wrap_i64]; omega
  have hd1 : decide ((N : Int) < 0) = false := by simp
  have hd2 : decide ((9223372036854775807 : Int) < (N : Int)) = false := by simp; omega
  obtain ⟨L0, hL0⟩ : ∃ L0, L0 = halfL N 0 x := ⟨_, rfl⟩
  rw [← hL0] at hmk
  have hg0 := at_new W (.cells L0.toArray 3) rfl
  have hA1 : (W.alloc (.cells L0.toArray 3)).cell? ⟨gA, 0, none⟩ = some (.int .i64 x) := (((Below.refl W.heap.size W).alloc (Nat.le_refl _) _).cell (p := ⟨gA, 0, none⟩) hgA).trans hA
  have hb0 : Below W.heap.size W (W.alloc (.cells L0.toArray 3)) := (Below.refl W.heap.size W).alloc (Nat.le_refl _) _
  have hsrc0 : ∀ j, j < 1 → (W.alloc (.cells L0.toArray 3)).cell? ((⟨gA, 0, none⟩ : Addr).add j) = some (.int .i64 x) := by
    intro j hj
    obtain rfl : j = 0 := by omega
    exact hA1
  obtain ⟨w2, hcp, HG2, hb2⟩ := copy_half (W.alloc (.cells L0.toArray 3)) W W.heap.size N 0 1 W.heap.size x (by rw [← hL0]; exact hg0) hb0 (Nat.le_refl _) ⟨gA, 0, none⟩ 1 1 N N (by show 1 = min 1 N; omega) hsrc0 (by omega)
  rw [Nat.zero_add] at HG2
  have HG3 := Lib.hid HG2; clear HG2
  clear hL0 hg0 hA1 hb0 hA hgA hsrc0
  go_enter Try.func20, Try.ntmps20
  go_wp2_with fail
  refine (HMUL.out _).mono ?_; rintro e w' ⟨rfl, rfl⟩
  go_wp2_with fail
  go_loopw [8] (fun vi wr => ∃ q : Nat, 1 ≤ q ∧ q ≤ N ∧ vi = .int .i64 (q : Int) ∧ Hid (wr.heap[W.heap.size]? = some (.cells (halfL N q x).toArray 3 (0, 0))) ∧ Below W.heap.size W wr) (fun vi _ => N - (intOf vi).toNat)
  case atStart => exact ⟨1, by omega, by omega, rfl, HG3, hb2⟩
  case round =>
    obtain ⟨q, hq1, hqN, rfl, HG, hb⟩ := hrel
    by_cases hlt : q < N
    · obtain ⟨m, hm⟩ : ∃ m, m = min q (N - q) := ⟨_, rfl⟩
      have hm1 : 1 ≤ m ∧ m ≤ q ∧ q + m ≤ N := by rw [hm]; omega
      obtain ⟨hm1, hmq, hmN⟩ := hm1
      obtain ⟨w4, hcp4, hg4, hb4⟩ := copy_half wr.drew W W.heap.size N q m W.heap.size x HG.out hb.drew (Nat.le_refl _) ⟨W.heap.size, 0, none⟩ q N (N - q) (N - q) hm (fun j hj => by
        rw [show (⟨W.heap.size, 0, none⟩ : Addr).add j = ⟨W.heap.size, j, none⟩ by unfold Addr.add; split <;> simp_all]
        rw [cell_of_row wr.drew W.heap.size j _ 3 (0, 0) HG.out]
        simpa using halfL_get N q j x (by omega)) hmN
      have HG4 := Lib.hid hg4; clear hg4
      have HM := Lib.hid hm; clear hm
      go_wp2_with fail
      go_region
      go_wp2
      refine ⟨⟨q + m, by omega, hmN, by go_num, HG4, hb4⟩, by simp [intOf]; omega⟩
    · obtain rfl : q = N := by omega
      go_wp2
      go_ret
      exact ⟨rfl, HG.out, hb⟩
end Go.Proofs.Ytjiagpbmaepamaa
