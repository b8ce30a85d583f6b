/- The document's example: awake. -/
import Derived.Test.YtgjmgbpphfccaaaPSt
namespace Go.Proofs.Ytgjmgbpphfccaaa
open Go Go.RowKit
set_option linter.unusedVariables false

theorem Step.below {F F' : Nat → Prop} {w w' : World} (h : Step F F' w w') {B g size : Nat} {s : St} (hp : PoolS w B F g size s) : Below B w w' :=
  h.1.below (fun k hk => (hp.low hk).1) (by have := hp.low hp.fg; omega)

set_option maxHeartbeats 1000000 in
theorem awake6_any (w : World) : Calls Try.prog 8 #[] w fun e w' => e = .returned (.bool true) ∧ Below w.heap.size w w' := by
  obtain ⟨B, hB⟩ : ∃ B, B = w.heap.size := ⟨_, rfl⟩
  have hnew : Calls Try.prog 9 #[.int .i64 2, .int .i64 4] w fun e w' => ∃ F g, e = .returned (.tuple #[.pointer (some ⟨g, 0, none⟩), .int .i64 0]) ∧ PoolS w' w.heap.size F g 4 ⟨[[], []], [0, 0], [0, 1]⟩ ∧ Below w.heap.size w w' := newAny 2 4 (by decide) (by decide) w
  rw [← hB] at hnew ⊢
  have g0 : Good 2 4 0 ⟨[[], []], [0, 0], [0, 1]⟩ := good_new 2 4
  have g1 : Good 2 4 1 ⟨[[], []], [1, 0], [1]⟩ := good_take g0
  have g2 : Good 2 4 2 ⟨[[], []], [1, 1], []⟩ := good_take g1
  have g4 : Good 2 4 2 ⟨[[], []], [0, 1], [0]⟩ := good_drop g2 0
  have HNEW := Lib.hid hnew; clear hnew
  have G0 := Lib.hid g0; have G1 := Lib.hid g1; have G2 := Lib.hid g2; have G4 := Lib.hid g4
  have HB := Lib.hid hB
  clear hB g0 g1 g2 g4
  go_enter Try.func8, Try.ntmps8
  go_wp2_with fail
  refine HNEW.out.mono ?_; rintro e w1 ⟨F1, g, rfl, hp1, hb1⟩
  have HP1 := Lib.hid hp1; clear hp1
  have HB1 := Lib.hid hb1; clear hb1
  have hc1 : Calls Try.prog 11 #[.pointer (some ⟨g, 0, none⟩)] w1 fun e w' => e = .returned (.tuple #[.int .i64 0, .int .i64 0]) ∧ ∃ F', PoolS w' B F' g 4 ⟨[[], []], [1, 0], [1]⟩ ∧ Step F1 F' w1 w' := takeAny HP1.out G0.out (by decide)
  have HC1 := Lib.hid hc1; clear hc1
  go_wp2_with fail
  refine HC1.out.mono ?_; rintro e w2 ⟨rfl, F2, hp2, hs2⟩
  have hb2 := HB1.out.trans (hs2.below HP1.out)
  have hc2 : Calls Try.prog 11 #[.pointer (some ⟨g, 0, none⟩)] w2 fun e w' => e = .returned (.tuple #[.int .i64 1, .int .i64 0]) ∧ ∃ F', PoolS w' B F' g 4 ⟨[[], []], [1, 1], []⟩ ∧ Step F2 F' w2 w' := takeAny hp2 G1.out (by decide)
  have HC2 := Lib.hid hc2; clear hc2
  have HP2 := Lib.hid hp2; clear hp2 hs2
  have HB2 := Lib.hid hb2; clear hb2
  go_wp2_with fail
  refine HC2.out.mono ?_; rintro e w3 ⟨rfl, F3, hp3, hs3⟩
  have hb3 := HB2.out.trans (hs3.below HP2.out)
  have hc3 : Calls Try.prog 11 #[.pointer (some ⟨g, 0, none⟩)] w3 fun e w' => e = .returned (.tuple #[.int .i64 0, .int .i64 19]) ∧ ∃ F', PoolS w' B F' g 4 ⟨[[], []], [1, 1], []⟩ ∧ Step F3 F' w3 w' := takeAny hp3 G2.out (by decide)
  have HC3 := Lib.hid hc3; clear hc3
  have HP3 := Lib.hid hp3; clear hp3 hs3
  have HB3 := Lib.hid hb3; clear hb3
  go_wp2_with fail
  refine HC3.out.mono ?_; rintro e w4 ⟨rfl, F4, hp4, hs4⟩
  have hb4 := HB3.out.trans (hs4.below HP3.out)
  have hc4 : Calls Try.prog 20 #[.pointer (some ⟨g, 0, none⟩), .int .i64 0] w4 fun e w' => e = .returned (.int .i64 0) ∧ ∃ F', PoolS w' B F' g 4 ⟨[[], []], [0, 1], [0]⟩ ∧ Step F4 F' w4 w' := dropAny hp4 G2.out (by decide) (by decide) 0
  have HC4 := Lib.hid hc4; clear hc4
  have HP4 := Lib.hid hp4; clear hp4 hs4
  have HB4 := Lib.hid hb4; clear hb4
  go_wp2_with fail
  refine HC4.out.mono ?_; rintro e w5 ⟨rfl, F5, hp5, hs5⟩
  have hb5 := HB4.out.trans (hs5.below HP4.out)
  have hc5 : Calls Try.prog 11 #[.pointer (some ⟨g, 0, none⟩)] w5 fun e w' => e = .returned (.tuple #[.int .i64 0, .int .i64 0]) ∧ ∃ F', PoolS w' B F' g 4 ⟨[[], []], [1, 1], []⟩ ∧ Step F5 F' w5 w' := takeAny hp5 G4.out (by decide)
  have HC5 := Lib.hid hc5; clear hc5
  have HP5 := Lib.hid hp5; clear hp5 hs5
  have HB5 := Lib.hid hb5; clear hb5
  go_wp2_with fail
  refine HC5.out.mono ?_; rintro e w6 ⟨rfl, F6, hp6, hs6⟩
  have hb6 := HB5.out.trans (hs6.below HP5.out)
  have HB6 := Lib.hid hb6; clear hb6 hp6 hs6
  go_wp2_with fail
  go_ret
  exact ⟨rfl, HB6.out⟩
end Go.Proofs.Ytgjmgbpphfccaaa
