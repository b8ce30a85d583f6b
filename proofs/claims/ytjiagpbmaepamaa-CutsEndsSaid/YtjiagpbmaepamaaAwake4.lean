/- The document's examples: awake. -/
import Derived.Test.YtjiagpbmaepamaaCut
import Derived.Test.YtjiagpbmaepamaaSame4
import Derived.Test.YtjiagpbmaepamaaSpread
import Derived.Test.YtjiagpbmaepamaaIntsK
import Derived.Lib.SlBytesConst
namespace Go.Proofs.Ytjiagpbmaepamaa
open Go Go.RowKit
set_option linter.unusedVariables false

theorem RowI.newM4 (k : IntKind) (w : World) (xs : List Int) (t : TypeId) (fr : Nat × Nat) : RowI k (w.alloc (.cells (xs.map (Value.int k)).toArray t fr)) (some ⟨w.heap.size, 0, none⟩) xs.length xs := by
  refine ⟨rfl, fun _ => ⟨_, _, rfl, by simp, fun j hj => ?_⟩⟩
  rw [Nat.zero_add, cell_of_row _ w.heap.size j _ t fr (heap_alloc_new w _)]
  simp [List.getElem?_eq_getElem hj]
theorem cut_example : cutL [1, 2] [97, 98, 99, 100, 101, 102] 0 = [[97], [98, 99], [100], [101, 102]] := by
  rw [cutL_step _ _ _ (by decide), show stepN [1, 2] 0 ([97, 98, 99, 100, 101, 102] : List Int).length = 1 by decide]
  rw [cutL_step _ _ _ (by decide), show stepN [1, 2] (0 + 1) (([97, 98, 99, 100, 101, 102] : List Int).drop 1).length = 2 by decide]
  rw [cutL_step _ _ _ (by decide), show stepN [1, 2] (0 + 1 + 1) ((([97, 98, 99, 100, 101, 102] : List Int).drop 1).drop 2).length = 1 by decide]
  rw [cutL_step _ _ _ (by decide), show stepN [1, 2] (0 + 1 + 1 + 1) (((([97, 98, 99, 100, 101, 102] : List Int).drop 1).drop 2).drop 1).length = 2 by decide]
  rw [show (((([97, 98, 99, 100, 101, 102] : List Int).drop 1).drop 2).drop 1).drop 2 = [] by decide, cutL_nil]
  decide
theorem RowS.new (w : World) (ss : List ByteArray) : RowS (w.alloc (.cells (ss.map .string).toArray 9)) (some ⟨w.heap.size, 0, none⟩) ss.length ss := by
  refine ⟨rfl, fun _ => ⟨_, _, rfl, by simp, fun j hj => ?_⟩⟩
  rw [Nat.zero_add, cell_of_row _ w.heap.size j _ 9 (0, 0) (heap_alloc_new w _)]
  simp [List.getElem?_eq_getElem hj]

set_option maxHeartbeats 1000000 in
theorem awake4_any (w : World) : Calls Try.prog 7 #[] w fun e w' => e = .returned (.bool true) ∧ Below w.heap.size w w' := by
  have kc := fun (w : World) (C : Array Value) (n c : Nat) => Lib.run_convert_bytes_const (P := Try.prog) w 22 5 C n c Try.underlying22 Try.underlying5
  have hc := cut_any [1, 2] [97, 98, 99, 100, 101, 102] (some ⟨w.heap.size, 0, none⟩) (some ⟨w.heap.size + 1, 0, none⟩) 6 6 2 2
    ((w.alloc (.cells #[.int .u8 97, .int .u8 98, .int .u8 99, .int .u8 100, .int .u8 101, .int .u8 102] 5 (6, 7))).alloc (.cells #[.int .i64 1, .int .i64 2] 3))
    ((RowI.newM4 .u8 w [97, 98, 99, 100, 101, 102] 5 (6, 7)).alloc _) (by decide) (by decide) (by decide) (fun h => by cases h)
    (by have := RowI.new .i64 (w.alloc (.cells #[.int .u8 97, .int .u8 98, .int .u8 99, .int .u8 100, .int .u8 101, .int .u8 102] 5 (6, 7))) [1, 2] 3; simpa using this) (by decide)
  rw [cut_example] at hc
  have hb0 : Below w.heap.size w ((w.alloc (.cells #[.int .u8 97, .int .u8 98, .int .u8 99, .int .u8 100, .int .u8 101, .int .u8 102] 5 (6, 7))).alloc (.cells #[.int .i64 1, .int .i64 2] 3)) :=
    ((Below.refl w.heap.size w).alloc (Nat.le_refl _) _).alloc (by simp) _
  have HC := Lib.hid hc; clear hc
  have hsp := fun w => spread_some 7 3 3 (by decide) (by decide) (by decide) w
  rw [show cntN 7 3 = 3 by decide, show partsL 7 3 = [2, 2, 3] by decide] at hsp
  have HSP := Lib.hid hsp; clear hsp
  have HB0 := Lib.hid hb0; clear hb0
  go_enter Try.func7, Try.ntmps7
  go_wp2_with fail
  refine HC.out.mono ?_; rintro e w1 ⟨V, vs, rfl, hown, hpc, hb1⟩
  obtain ⟨A, c, rfl, hrow, _, _, _, _⟩ := rowB_of_own hown hpc
  have hsm := fun (D : Option Addr) (d : Nat) (w' : World) (h1 : RowB w' A 4 [[97], [98, 99], [100], [101, 102]]) (h2 : RowS w' D 4 ([[97], [98, 99], [100], [101, 102]].map strOfNums)) => same_any [[97], [98, 99], [100], [101, 102]] A D 4 c d w' h1 h2 (by decide)
  have hrow2 := hrow.below ((Below.refl w1.heap.size w1).alloc (Nat.le_refl _) (.cells #[.string ⟨#[97]⟩, .string ⟨#[98, 99]⟩, .string ⟨#[100]⟩, .string ⟨#[101, 102]⟩] 9)) (Nat.le_refl _)
  have hs2 := RowS.new w1 ([[97], [98, 99], [100], [101, 102]].map strOfNums)
  have hb2 : Below w.heap.size w (w1.alloc (.cells #[.string ⟨#[97]⟩, .string ⟨#[98, 99]⟩, .string ⟨#[100]⟩, .string ⟨#[101, 102]⟩] 9)) := (HB0.out.trans (Below.mono hb1 HB0.out.size)).alloc (by have := hb1.size; have := HB0.out.size; omega) _
  have hsame := hsm (some ⟨w1.heap.size, 0, none⟩) 4 _ hrow2 hs2
  have HSM := Lib.hid hsame; clear hsame hsm
  have HB2 := Lib.hid hb2; clear hb2
  clear hown hpc hb1 hrow hrow2 hs2
  go_wp2_with fail
  refine HSM.out.mono ?_; rintro e w2 ⟨rfl, q, rfl⟩
  go_wp2_with fail
  refine (HSP.out _).mono ?_; rintro e w3 ⟨D, d, rfl, hri, hb3⟩
  have hb3' : Below w.heap.size w w3 := (below_drewN HB2.out q).trans (Below.mono hb3 (below_drewN HB2.out q).size)
  have hi := fun w' => ints_row D (some ⟨w3.heap.size, 0, none⟩) 3 d 3 [2, 2, 3] [2, 2, 3] w'
  have hi2 := hi (w3.alloc (.cells #[.int .i64 2, .int .i64 2, .int .i64 3] 3)) (hri.alloc _) (RowI.new .i64 w3 [2, 2, 3] 3) (by decide)
  have hb4 : Below w.heap.size w (w3.alloc (.cells #[.int .i64 2, .int .i64 2, .int .i64 3] 3)) := hb3'.alloc hb3'.size _
  have HI := Lib.hid hi2; clear hi hi2 hri hb3 hb3'
  go_wp2_with fail
  refine HI.out.mono ?_; rintro e w4 ⟨rfl, q4, rfl⟩
  go_wp2_with fail
  go_ret
  exact ⟨rfl, below_drewN hb4 q4⟩
end Go.Proofs.Ytjiagpbmaepamaa
