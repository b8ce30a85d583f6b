/- The document's example: awake. -/
import Derived.Test.YtgmaiickfpgeoaaNext
import Derived.Test.YtgmaiickfpgeoaaNew
import Derived.Test.YtgmaiickfpgeoaaSink
import Derived.Lib.SlBytesConst
namespace Go.Proofs.Ytgmaiickfpgeoaa
open Go Go.RowKit
set_option linter.unusedVariables false

theorem RowI.newM4 (k : IntKind) (w : World) (xs : List Int) (t : TypeId) (fr : Nat × Nat) : RowI k (w.alloc (.cells (xs.map (Value.int k)).toArray t fr)) (some ⟨w.heap.size, 0, none⟩) xs.length xs := by
  refine ⟨rfl, fun _ => ⟨_, _, rfl, by simp, fun j hj => ?_⟩⟩
  rw [Nat.zero_add, cell_of_row _ w.heap.size j _ t fr (heap_alloc_new w _)]
  simp [List.getElem?_eq_getElem hj]
theorem own_touch {w w' : World} {B C U : Nat} {e : TypeId} {v : Value} {n : Nat} {xs : List Value} (h : w.ownsRow C e 1 v n xs) (ht : Touch B U w w') (hU : U ≤ C) : w'.ownsRow C e 1 v n xs := by
  refine ⟨h.1, ?_⟩
  rcases h.2 with h2 | ⟨g, cap, cur, hv, hbg, hw, hr⟩
  · exact .inl h2
  · exact .inr ⟨g, cap, cur, hv, hbg, (ht.2 g (by omega) (Array.getElem?_eq_some_iff.1 hw).1).trans hw, hr⟩
theorem Touch.size {w w' : World} {B U : Nat} (h : Touch B U w w') : w.heap.size ≤ w'.heap.size := h.1.size

theorem cut_example : cutL [2] (([97, 98, 99, 100, 101] : List Int).take 4) 0 = [[97, 98], [99, 100]] := by
  rw [show (([97, 98, 99, 100, 101] : List Int).take 4) = [97, 98, 99, 100] by decide]
  rw [cutL_step _ _ _ (by decide), show stepN [2] 0 ([97, 98, 99, 100] : List Int).length = 2 by decide]
  rw [cutL_step _ _ _ (by decide), show stepN [2] (0 + 1) (([97, 98, 99, 100] : List Int).drop 2).length = 2 by decide]
  rw [show (([97, 98, 99, 100] : List Int).drop 2).drop 2 = [] by decide, cutL_nil]
  decide

/-- Four answers of the source of the example. -/
theorem four_any {w : World} {B U g : Nat} (h : Src w B U g [[97, 98], [99, 100]] 11 0 5) (hU : B ≤ U) :
    Calls Try.prog 10 #[.pointer (some ⟨g, 0, none⟩), .int .i64 9] w fun e w1 => ∃ v1, e = .returned (.tuple #[v1, .int .i64 0]) ∧ w1.ownsRow U 5 1 v1 2 (([97, 98] : List Int).map (Value.int .u8)) ∧ Touch B U w w1 ∧
      Calls Try.prog 10 #[.pointer (some ⟨g, 0, none⟩), .int .i64 1] w1 fun e w2 => ∃ v2, e = .returned (.tuple #[v2, .int .i64 0]) ∧ w2.ownsRow U 5 1 v2 1 (([99] : List Int).map (Value.int .u8)) ∧ Touch B U w1 w2 ∧
        Calls Try.prog 10 #[.pointer (some ⟨g, 0, none⟩), .int .i64 9] w2 fun e w3 => ∃ v3, e = .returned (.tuple #[v3, .int .i64 0]) ∧ w3.ownsRow U 5 1 v3 1 (([100] : List Int).map (Value.int .u8)) ∧ Touch B U w2 w3 ∧
          Calls Try.prog 10 #[.pointer (some ⟨g, 0, none⟩), .int .i64 9] w3 fun e w4 => e = .returned (.tuple #[.slice none 0 0, .int .i64 11]) ∧ Touch B U w3 w4 := by
  have hs := h.2.2.1
  refine (next_some h (by unfold Full; decide) 9 (by decide) 2 (by decide) (by decide) (by decide)).mono ?_
  rintro e w1 ⟨v1, rfl, ho1, h1, t1⟩
  refine ⟨v1, rfl, own_mono1 ho1 hs, t1, ?_⟩
  rw [show dropP 2 [[97, 98], [99, 100]] = [[99, 100]] by decide] at h1
  refine (next_some h1 (by unfold Full; decide) 1 (by decide) 1 (by decide) (by decide) (by decide)).mono ?_
  rintro e w2 ⟨v2, rfl, ho2, h2, t2⟩
  refine ⟨v2, rfl, own_mono1 ho2 h1.2.2.1, t2, ?_⟩
  rw [show dropP 1 [[99, 100]] = [[100]] by decide] at h2
  refine (next_some h2 (by unfold Full; decide) 9 (by decide) 1 (by decide) (by decide) (by decide)).mono ?_
  rintro e w3 ⟨v3, rfl, ho3, h3, t3⟩
  refine ⟨v3, rfl, own_mono1 ho3 h2.2.2.1, t3, ?_⟩
  rw [show dropP 1 [[100]] = [] by decide] at h3
  refine (next_end h3 9 (by decide)).mono ?_
  rintro e w4 ⟨rfl, q, rfl⟩
  exact ⟨rfl, (Touch.refl _ _ _).drewN q⟩

set_option maxHeartbeats 1000000 in
theorem awake5_any (w : World) : Calls Try.prog 7 #[] w fun e w' => e = .returned (.bool true) ∧ Below w.heap.size w w' := by
  have kc := fun (w : World) (C : Array Value) (n c : Nat) => Lib.run_convert_bytes_const (P := Try.prog) w 22 5 C n c Try.underlying22 Try.underlying5
  obtain ⟨W0, hW0⟩ : ∃ W0, W0 = ((w.alloc (.cells #[.int .u8 97, .int .u8 98, .int .u8 99, .int .u8 100, .int .u8 101] 5 (5, 6))).alloc (.cells #[.int .i64 2] 3)) := ⟨_, rfl⟩
  have hb0 : Below w.heap.size w W0 := by rw [hW0]; exact ((Below.refl w.heap.size w).alloc (Nat.le_refl _) _).alloc (by simp) _
  have hnew := new_fails [2] [97, 98, 99, 100, 101] (some ⟨w.heap.size, 0, none⟩) (some ⟨w.heap.size + 1, 0, none⟩) 5 5 1 1 4 W0
    (by rw [hW0]; exact (RowI.newM4 .u8 w [97, 98, 99, 100, 101] 5 (5, 6)).alloc _) (by decide) (by decide) (by decide) (fun h => by cases h)
    (by rw [hW0]; have := RowI.new .i64 (w.alloc (.cells #[.int .u8 97, .int .u8 98, .int .u8 99, .int .u8 100, .int .u8 101] 5 (5, 6))) [2] 3; simpa using this) (by decide) (by decide)
  rw [cut_example] at hnew
  have HNEW := Lib.hid hnew; clear hnew
  have HB0 := Lib.hid hb0; clear hb0
  have hopen := fun w => sopen_any 0 w
  have HOPEN := Lib.hid hopen; clear hopen
  go_enter Try.func7, Try.ntmps7
  go_wp2_with fail
  rw [← hW0]
  clear hW0
  refine HNEW.out.mono ?_; rintro e w1 ⟨rfl, hsrc, hb1⟩
  obtain ⟨B, hB⟩ : ∃ B, B = W0.heap.size := ⟨_, rfl⟩
  obtain ⟨U, hU⟩ : ∃ U, U = w1.heap.size := ⟨_, rfl⟩
  rw [← hB, ← hU] at hsrc
  rw [← hB] at hb1 ⊢
  have HBB := Lib.hid hB; clear hB
  have HUU := Lib.hid hU; clear hU
  have HSRC := Lib.hid hsrc; clear hsrc
  go_wp2_with fail
  refine (HOPEN.out _).mono ?_; rintro e w2 ⟨rfl, hsnk, hb2⟩
  have hsrc2 := HSRC.out.below hb2 (Nat.le_of_eq HUU.out)
  have hput := put_no hsnk ⟨#[120]⟩ (by decide) (by decide)
  have HPUT := Lib.hid hput; clear hput
  rw [← HUU.out] at hsnk hb2 HPUT ⊢
  have HSRC2 := Lib.hid hsrc2; clear hsrc2
  have HSNK := Lib.hid hsnk; clear hsnk
  have HB2 := Lib.hid hb2; clear hb2
  have HB1 := Lib.hid hb1; clear hb1
  go_wp2_with fail
  refine HPUT.out.mono ?_; rintro e w3 ⟨rfl, _, hoff⟩
  have hb3 : Below U w2 w3 := hoff.below HSNK.out.1 (by simp [Value.ownBlock]) (by have := HSNK.out.lt; omega)
  have hsrc3 := HSRC2.out.below hb3 (Nat.le_refl _)
  have hBU : B ≤ U := by have := hsrc3.1; have := hsrc3.2.1; omega
  have HF := Lib.hid (four_any hsrc3 hBU)
  have hbw3 : Below w.heap.size w w3 := by
    have h1 := HB0.out.size
    have h3 := HBB.out
    have h2 := HB0.out.trans (Below.mono HB1.out (by omega))
    exact (h2.trans (Below.mono HB2.out (by omega))).trans (Below.mono hb3 (by omega))
  have HBW := Lib.hid hbw3; clear hbw3
  have hwB : w.heap.size ≤ B := by have := HB0.out.size; have := HBB.out; omega
  clear hoff hb3 hsrc3
  go_wp2_with fail
  refine HF.out.mono ?_; rintro e w4 ⟨v1, rfl, ho1, t1, hF2⟩
  have HF2 := Lib.hid hF2; clear hF2
  go_wp2_with fail
  refine HF2.out.mono ?_; rintro e w5 ⟨v2, rfl, ho2, t2, hF3⟩
  have HF3 := Lib.hid hF3; clear hF3
  go_wp2_with fail
  refine HF3.out.mono ?_; rintro e w6 ⟨v3, rfl, ho3, t3, hF4⟩
  have HF4 := Lib.hid hF4; clear hF4
  go_wp2_with fail
  refine HF4.out.mono ?_; rintro e w7 ⟨rfl, t4⟩
  have hbw7 : Below w.heap.size w w7 := HBW.out.trans (Below.mono (((t1.trans t2).trans t3).trans t4).1 hwB)
  obtain ⟨A1, c1, rfl, r1, _, _⟩ := row_of_own (own_touch (own_touch (own_touch ho1 t2 (Nat.le_refl _)) t3 (Nat.le_refl _)) t4 (Nat.le_refl _))
  obtain ⟨A2, c2, rfl, r2, _, _⟩ := row_of_own (own_touch (own_touch ho2 t3 (Nat.le_refl _)) t4 (Nat.le_refl _))
  obtain ⟨A3, c3, rfl, r3, _, _⟩ := row_of_own (own_touch ho3 t4 (Nat.le_refl _))
  have k1 := strRow w7 A1 2 c1 _ r1
  have k2 := strRow w7 A2 1 c2 _ r2
  have k3 := strRow w7 A3 1 c3 _ r3
  rw [show strOfNums [97, 98] = ⟨#[97, 98]⟩ by rfl] at k1
  rw [show strOfNums [99] = ⟨#[99]⟩ by rfl] at k2
  rw [show strOfNums [100] = ⟨#[100]⟩ by rfl] at k3
  clear r1 r2 r3 ho1 ho2 ho3 t1 t2 t3 t4
  go_wp2_with fail
  go_ret
  exact ⟨rfl, hbw7⟩
end Go.Proofs.Ytgmaiickfpgeoaa
