/- PoolViews: the walk. -/
import Derived.Test.YtgjmgbpphfccaaaAwake6
import Derived.Test.YtgjmgbpphfccaaaPView
namespace Go.Proofs.Ytgjmgbpphfccaaa
open Go Go.RowKit
set_option linter.unusedVariables false

theorem lawViews_many (A D : Option Addr) (n c m d : Nat) (h : Int) (w : World) (hl : 100 < n ∨ 100 < m) (hn : n ≤ maxLen) (hm : m ≤ maxLen) :
    Calls Try.prog 5 #[.slice A n c, .slice D m d, .int .u8 h] w fun e w' => e = .returned (.bool true) ∧ Below w.heap.size w w' := by
  unfold maxLen at hn hm
  by_cases h1 : 100 < n
  · have hd : decide ((100 : Int) < (n : Int)) = true := by simp; omega
    go_enter Try.func5, Try.ntmps5
    go_wp2_with fail
    refine (awake6_any _).mono ?_; rintro e w1 ⟨rfl, hbel⟩
    go_wp2_with fail
    refine (awake6_any _).mono ?_; rintro e w2 ⟨rfl, hbel2⟩
    go_wp2_with fail
    go_ret
    exact ⟨rfl, hbel.trans (Below.mono hbel2 hbel.size)⟩
  · have hd : decide ((100 : Int) < (n : Int)) = false := by simp; omega
    have hd2 : decide ((100 : Int) < (m : Int)) = true := by simp; omega
    go_enter Try.func5, Try.ntmps5
    go_wp2_with fail
    refine (awake6_any _).mono ?_; rintro e w1 ⟨rfl, hbel⟩
    go_wp2_with fail
    refine (awake6_any _).mono ?_; rintro e w2 ⟨rfl, hbel2⟩
    go_wp2_with fail
    go_ret
    exact ⟨rfl, hbel.trans (Below.mono hbel2 hbel.size)⟩

/-- One buffer, held so many times. -/
theorem good_one (xs : List Int) (hx : xs.length ≤ 100) (k : Nat) (hk : 1 ≤ k) : Good 1 100 k ⟨[xs], [k], []⟩ where
  hn := rfl
  lo := rfl
  fr := fun i hi => by simp at hi
  nd := by simp
  cnt := by simp; omega
  len := by simpa using hx
  emp := fun i hi => by
    rcases i with _ | i
    · simp at hi; omega
    · simp at hi
  low := by simp

section
variable {w : World} {B g : Nat} {F : Nat → Prop} {xs : List Int} {k : Nat}
theorem v_hold (h : PoolS w B F g 100 ⟨[xs], [k], []⟩) (hx : xs.length ≤ 100) (hk : 1 ≤ k ∧ k ≤ 100) :
    Calls Try.prog 18 #[.pointer (some ⟨g, 0, none⟩), .int .i64 0] w fun e w' => e = .returned (.int .i64 0) ∧ ∃ F', PoolS w' B F' g 100 ⟨[xs], [k + 1], []⟩ ∧ Step F F' w w' := by
  have hl : heldL [k] 0 = k := rfl
  have := holdAny h (good_one xs hx k hk.1) (by omega) (by omega) 0
  rw [show turnE ⟨[xs], [k], []⟩ 0 = 0 by simp [turnE, hl]; omega, show holdS ⟨[xs], [k], []⟩ 0 = ⟨[xs], [k + 1], []⟩ by simp [holdS, hl]; omega] at this
  exact this
theorem v_drop (h : PoolS w B F g 100 ⟨[xs], [k + 1], []⟩) (hx : xs.length ≤ 100) (hk : 1 ≤ k ∧ k ≤ 100) :
    Calls Try.prog 20 #[.pointer (some ⟨g, 0, none⟩), .int .i64 0] w fun e w' => e = .returned (.int .i64 0) ∧ ∃ F', PoolS w' B F' g 100 ⟨[xs], [k], []⟩ ∧ Step F F' w w' := by
  have hl : heldL [k + 1] 0 = k + 1 := rfl
  have := dropAny h (good_one xs hx (k + 1) (by omega)) (by omega) (by omega) 0
  rw [show turnE ⟨[xs], [k + 1], []⟩ 0 = 0 by simp [turnE, hl], show dropS ⟨[xs], [k + 1], []⟩ 0 = ⟨[xs], [k], []⟩ by simp [dropS, hl]; omega] at this
  exact this
theorem v_last (h : PoolS w B F g 100 ⟨[xs], [1], []⟩) (hx : xs.length ≤ 100) :
    Calls Try.prog 20 #[.pointer (some ⟨g, 0, none⟩), .int .i64 0] w fun e w' => e = .returned (.int .i64 0) ∧ ∃ F', PoolS w' B F' g 100 ⟨[[]], [0], [0]⟩ ∧ Step F F' w w' :=
  dropAny h (good_one xs hx 1 (by omega)) (by omega) (by omega) 0
theorem v_fill (h : PoolS w B F g 100 ⟨[xs], [1], []⟩) (hx : xs.length ≤ 100) (A : Option Addr) (m c : Nat) (ys : List Int) (hr : RowI .u8 w A m ys) (hnil : A = none → m = 0 ∧ c = 0) (hm : m ≤ 100) :
    Calls Try.prog 13 #[.pointer (some ⟨g, 0, none⟩), .int .i64 0, .slice A m c] w fun e w' => e = .returned (.int .i64 0) ∧ ∃ F', PoolS w' B F' g 100 ⟨[ys], [1], []⟩ ∧ Step F F' w w' := by
  have hl : heldL [1] 0 = 1 := rfl
  have hlen := hr.1
  have := fillAny h (good_one xs hx 1 (by omega)) (by omega) 0 A m c ys hr hnil (by omega)
  rw [show fillE 100 ⟨[xs], [1], []⟩ 0 m = 0 by simp [fillE, hl]; omega, show fillS 100 ⟨[xs], [1], []⟩ 0 ys = ⟨[ys], [1], []⟩ by simp [fillS, fillE, hl]; omega] at this
  exact this
theorem v_busy (h : PoolS w B F g 100 ⟨[xs], [k + 1], []⟩) (hx : xs.length ≤ 100) (hk : 1 ≤ k) (A : Option Addr) (m c : Nat) (ys : List Int) (hr : RowI .u8 w A m ys) (hnil : A = none → m = 0 ∧ c = 0) (hm : m ≤ 100) :
    Calls Try.prog 13 #[.pointer (some ⟨g, 0, none⟩), .int .i64 0, .slice A m c] w fun e w' => e = .returned (.int .i64 18) ∧ ∃ F', PoolS w' B F' g 100 ⟨[xs], [k + 1], []⟩ ∧ Step F F' w w' := by
  have hl : heldL [k + 1] 0 = k + 1 := rfl
  have := fillAny h (good_one xs hx (k + 1) (by omega)) (by omega) 0 A m c ys hr hnil (by omega)
  rw [show fillE 100 ⟨[xs], [k + 1], []⟩ 0 m = 18 by simp [fillE, hl]; omega, show fillS 100 ⟨[xs], [k + 1], []⟩ 0 ys = ⟨[xs], [k + 1], []⟩ by simp [fillS, fillE, hl]; omega] at this
  exact this
theorem v_none (h : PoolS w B F g 100 ⟨[xs], [k], []⟩) (hx : xs.length ≤ 100) (hk : 1 ≤ k) :
    Calls Try.prog 11 #[.pointer (some ⟨g, 0, none⟩)] w fun e w' => e = .returned (.tuple #[.int .i64 0, .int .i64 19]) ∧ ∃ F', PoolS w' B F' g 100 ⟨[xs], [k], []⟩ ∧ Step F F' w w' :=
  takeAny h (good_one xs hx k hk) (by omega)
theorem v_view (h : PoolS w B F g 100 ⟨[xs], [k], []⟩) (hx : xs.length ≤ 100) (hk : 1 ≤ k) (m : Nat) (hm : xs.length = m) :
    Calls Try.prog 16 #[.pointer (some ⟨g, 0, none⟩), .int .i64 0, .int .i64 0, .int .i64 (m : Int)] w fun e w' => e = .returned (.tuple #[.string (strOfNums xs), .int .i64 0]) ∧ w = w' := by
  have hv : viewOk [xs] [k] 0 0 (m : Int) := by
    refine ⟨?_, by omega, by omega, ?_⟩
    · show 0 < k; omega
    · show (m : Int) ≤ (xs.length : Int); omega
  have := viewAny h (good_one xs hx k hk) (by omega) 0 0 (m : Int)
  rw [show viewX ⟨[xs], [k], []⟩ 0 0 (m : Int) = xs by simp only [viewX, if_pos hv]; simp [hm, List.take_of_length_le], show viewE ⟨[xs], [k], []⟩ 0 0 (m : Int) = 0 by simp only [viewE, if_pos hv]] at this
  exact this
theorem v_holds (h : PoolS w B F g 100 ⟨[xs], [k], []⟩) (hx : xs.length ≤ 100) (hk : 1 ≤ k) :
    Calls Try.prog 25 #[.pointer (some ⟨g, 0, none⟩), .int .i64 0] w fun e w' => e = .returned (.int .i64 (k : Int)) ∧ w = w' :=
  holdsAny h (good_one xs hx k hk) (by omega) 0
end

set_option maxHeartbeats 4000000 in
set_option maxRecDepth 10000 in
theorem lawViews_short (A D : Option Addr) (n c m d : Nat) (xs ys : List Int) (h : Int) (W : World) (hn : n ≤ 100) (hm : m ≤ 100) (hr : RowI .u8 W A n xs) (hr2 : RowI .u8 W D m ys) (hnil : A = none → n = 0 ∧ c = 0) (hnil2 : D = none → m = 0 ∧ d = 0) (hh : 0 ≤ h ∧ h ≤ 255) :
    Calls Try.prog 5 #[.slice A n c, .slice D m d, .int .u8 h] W fun e w' => e = .returned (.bool true) ∧ Below W.heap.size W w' := by
  have hd : decide ((100 : Int) < (n : Int)) = false := by simp; omega
  have hd2 : decide ((100 : Int) < (m : Int)) = false := by simp; omega
  obtain ⟨h0, h1⟩ := hh
  have hx : xs.length ≤ 100 := by rw [hr.1]; exact hn
  have hy : ys.length ≤ 100 := by rw [hr2.1]; exact hm
  obtain ⟨k, hk⟩ : ∃ k : Nat, 1 + h % 9 = (k : Int) := Int.eq_ofNat_of_zero_le (by omega)
  have hk1 : 1 ≤ k ∧ k ≤ 9 := by omega
  have HR := Lib.hid hr
  have HR2 := Lib.hid hr2
  have HN := Lib.hid hnil
  have HN2 := Lib.hid hnil2
  have hnew : ∀ w, Calls Try.prog 9 #[.int .i64 1, .int .i64 100] w fun e w' => ∃ F g, e = .returned (.tuple #[.pointer (some ⟨g, 0, none⟩), .int .i64 0]) ∧ PoolS w' w.heap.size F g 100 ⟨[[]], [0], [0]⟩ ∧ Below w.heap.size w w' := fun w => newAny 1 100 (by decide) (by decide) w
  have HNEW := Lib.hid hnew
  have g0 : Good 1 100 0 ⟨[[]], [0], [0]⟩ := good_new 1 100
  have G0 := Lib.hid g0
  clear hr hr2 hnil hnil2 hnew g0
  go_enter Try.func5, Try.ntmps5
  go_wp2_with fail
  refine (awake6_any _).mono ?_; rintro e w1 ⟨rfl, hb1⟩
  go_wp2_with fail
  refine (HNEW.out _).mono ?_; rintro e w2 ⟨F2, g, rfl, hp2, hb2⟩
  have hWB := hb1.size
  have hb02 : Below W.heap.size W w2 := hb1.trans (Below.mono hb2 hWB)
  obtain ⟨B, hB⟩ : ∃ B, B = w1.heap.size := ⟨_, rfl⟩
  rw [← hB] at hp2 hWB
  clear hB hb1 hb2
  have hc1 : Calls Try.prog 11 #[.pointer (some ⟨g, 0, none⟩)] w2 fun e w' => e = .returned (.tuple #[.int .i64 0, .int .i64 0]) ∧ ∃ F', PoolS w' B F' g 100 ⟨[[]], [1], []⟩ ∧ Step F2 F' w2 w' := takeAny hp2 G0.out (by decide)
  have HC1 := Lib.hid hc1; clear hc1
  have HP2 := Lib.hid hp2; clear hp2
  have HB2 := Lib.hid hb02; clear hb02
  go_wp2_with fail
  refine HC1.out.mono ?_; rintro e w3 ⟨rfl, F3, hp3, hs3⟩
  have hb3 : Below W.heap.size W w3 := HB2.out.trans (Below.mono (hs3.below HP2.out) hWB)
  have HF1 := Lib.hid (v_fill hp3 (by decide) A n c xs (HR.out.below hb3 (Nat.le_refl _)) HN.out hn)
  have HP3 := Lib.hid hp3; clear hp3 hs3
  have HB3 := Lib.hid hb3; clear hb3
  go_wp2_with fail
  refine HF1.out.mono ?_; rintro e w4 ⟨rfl, F4, hp4, hs4⟩
  have hb4 : Below W.heap.size W w4 := HB3.out.trans (Below.mono (hs4.below HP3.out) hWB)
  have HP4 := Lib.hid hp4; clear hp4 hs4
  have HB4 := Lib.hid hb4; clear hb4
  go_wp2_with fail
  have HK := Lib.hid hk; clear hk
  go_loopw [10] (fun v10 wr => ∃ (i : Nat) (F : Nat → Prop), i ≤ k ∧ v10 = .int .i64 (i : Int) ∧ Hid (PoolS wr B F g 100 ⟨[xs], [i + 1], []⟩) ∧ Hid (Below W.heap.size W wr)) (fun v10 _ => k - (intOf v10).toNat)
  case atStart => exact ⟨0, F4, by omega, rfl, HP4, HB4⟩
  case round =>
    obtain ⟨i, F, hi, rfl, HP, HB⟩ := hrel
    clear HP4 HB4
    by_cases hlt : i < k
    · have HH := Lib.hid (v_hold HP.out hx (by omega))
      go_wp2_with fail
      refine HH.out.mono ?_; rintro e w5 ⟨rfl, F5, hp5, hs5⟩
      have hb5 : Below W.heap.size W w5 := HB.out.trans (Below.mono (hs5.below HP.out) hWB)
      have HP5 := Lib.hid hp5; clear hp5 hs5
      have HB5 := Lib.hid hb5; clear hb5
      go_wp2_with fail
      refine ⟨⟨i + 1, F5, by omega, by go_num, HP5, HB5⟩, by simp [intOf]; omega⟩
    · have hie : i = k := by omega
      have HP' : Hid (PoolS wr B F g 100 ⟨[xs], [k + 1], []⟩) := Lib.hid (by rw [← hie]; exact HP.out)
      clear hie HP
      go_wp2_with fail
      go_loopw [11] (fun v11 wr => ∃ (j : Nat) (F : Nat → Prop), j ≤ k ∧ v11 = .int .i64 (j : Int) ∧ Hid (PoolS wr B F g 100 ⟨[xs], [j + 1], []⟩) ∧ Hid (Below W.heap.size W wr)) (fun v11 _ => (intOf v11).toNat)
      case atStart => exact ⟨k, F, by omega, rfl, HP', HB⟩
      case round =>
        clear HP' HB hlt hi
        obtain ⟨j, F, hj, rfl, HP, HB⟩ := hrel
        by_cases hlt : 0 < j
        · have hjk : 1 ≤ j ∧ j ≤ 100 := by omega
          have HV := Lib.hid (v_view HP.out hx (by omega) n HR.out.1)
          have HT := Lib.hid (v_none HP.out hx (by omega))
          go_wp2_with fail
          refine HV.out.mono ?_; rintro e w5 ⟨rfl, rfl⟩
          go_wp2_with fail
          refine HT.out.mono ?_; rintro e w5 ⟨rfl, F5, hp5, hs5⟩
          have hb5 : Below W.heap.size W w5 := HB.out.trans (Below.mono (hs5.below HP.out) hWB)
          have HFB := Lib.hid (v_busy hp5 hx (by omega) D m d ys (HR2.out.below hb5 (Nat.le_refl _)) HN2.out hm)
          have HP5 := Lib.hid hp5; clear hp5 hs5
          have HB5 := Lib.hid hb5; clear hb5
          go_wp2_with fail
          refine HFB.out.mono ?_; rintro e w6 ⟨rfl, F6, hp6, hs6⟩
          have hb6 : Below W.heap.size W w6 := HB5.out.trans (Below.mono (hs6.below HP5.out) hWB)
          have hst := strRow w6 A n c xs (HR.out.below hb6 (Nat.le_refl _))
          have HD := Lib.hid (v_drop hp6 hx (by omega))
          have HP6 := Lib.hid hp6; clear hp6 hs6
          have HB6 := Lib.hid hb6; clear hb6
          go_wp2_with fail
          refine HD.out.mono ?_; rintro e w7 ⟨rfl, F7, hp7, hs7⟩
          have hb7 : Below W.heap.size W w7 := HB6.out.trans (Below.mono (hs7.below HP6.out) hWB)
          have HH := Lib.hid (v_holds hp7 hx (by omega))
          have hp7' : PoolS w7 B F7 g 100 ⟨[xs], [j - 1 + 1], []⟩ := by rw [show j - 1 + 1 = j by omega]; exact hp7
          have HP7 := Lib.hid hp7'; clear hp7 hs7 hp7' hst
          have HB7 := Lib.hid hb7; clear hb7
          go_wp2_with fail
          refine HH.out.mono ?_; rintro e w8 ⟨rfl, rfl⟩
          go_wp2_with fail
          refine ⟨⟨j - 1, F7, by omega, by go_num, HP7, HB7⟩, by simp [intOf]; omega⟩
        · have hj0 : j = 0 := by omega
          have HP0 : Hid (PoolS wr B F g 100 ⟨[xs], [1], []⟩) := Lib.hid (by have := HP.out; rw [hj0] at this; exact this)
          clear hj0 HP
          have HF1 := Lib.hid (v_fill HP0.out hx D m d ys (HR2.out.below HB.out (Nat.le_refl _)) HN2.out hm)
          go_wp2_with fail
          refine HF1.out.mono ?_; rintro e w5 ⟨rfl, F5, hp5, hs5⟩
          have hb5 : Below W.heap.size W w5 := HB.out.trans (Below.mono (hs5.below HP0.out) hWB)
          have HD := Lib.hid (v_last hp5 hy)
          have HP5 := Lib.hid hp5; clear hp5 hs5
          have HB5 := Lib.hid hb5; clear hb5
          go_wp2_with fail
          refine HD.out.mono ?_; rintro e w6 ⟨rfl, F6, hp6, hs6⟩
          have hb6 : Below W.heap.size W w6 := HB5.out.trans (Below.mono (hs6.below HP5.out) hWB)
          have hc6 : Calls Try.prog 20 #[.pointer (some ⟨g, 0, none⟩), .int .i64 0] w6 fun e w' => e = .returned (.int .i64 2) ∧ ∃ F', PoolS w' B F' g 100 ⟨[[]], [0], [0]⟩ ∧ Step F6 F' w6 w' := dropAny hp6 G0.out (by decide) (by decide) 0
          have HC6 := Lib.hid hc6; clear hc6
          have HP6 := Lib.hid hp6; clear hp6 hs6
          have HB6 := Lib.hid hb6; clear hb6
          go_wp2_with fail
          refine HC6.out.mono ?_; rintro e w7 ⟨rfl, F7, hp7, hs7⟩
          have hb7 : Below W.heap.size W w7 := HB6.out.trans (Below.mono (hs7.below HP6.out) hWB)
          have hc7 : Calls Try.prog 16 #[.pointer (some ⟨g, 0, none⟩), .int .i64 0, .int .i64 0, .int .i64 0] w7 fun e w' => e = .returned (.tuple #[.string ⟨#[]⟩, .int .i64 2]) ∧ w7 = w' := viewAny hp7 G0.out (by decide) 0 0 0
          have hc8 : Calls Try.prog 22 #[.pointer (some ⟨g, 0, none⟩)] w7 fun e w' => ∃ v', e = .returned v' ∧ w'.ownsRow w7.heap.size 3 1 v' 1 (iv [0]) ∧ Below w7.heap.size w7 w' := freeAny hp7 G0.out (by decide)
          have HC7 := Lib.hid hc7; clear hc7
          have HC8 := Lib.hid hc8; clear hc8
          have HP7 := Lib.hid hp7; clear hp7 hs7
          have HB7 := Lib.hid hb7; clear hb7
          go_wp2_with fail
          refine HC7.out.mono ?_; rintro e w8 ⟨rfl, rfl⟩
          go_wp2_with fail
          refine HC8.out.mono ?_; rintro e w8 ⟨v8, rfl, ho8, hb8⟩
          obtain ⟨A8, c8, rfl, _⟩ := own_cells ho8
          have hb08 : Below W.heap.size W w8 := HB7.out.trans (Below.mono hb8 HB7.out.size)
          have hc9 : Calls Try.prog 23 #[.pointer (some ⟨g, 0, none⟩)] w8 fun e w' => e = .returned (.int .i64 0) ∧ Below w8.heap.size w8 w' := bytesAny (HP7.out.below hb8) G0.out (by decide) (by decide)
          have HC9 := Lib.hid hc9; clear hc9
          have HB8 := Lib.hid hb08; clear hb08 ho8 hb8
          go_wp2_with fail
          refine HC9.out.mono ?_; rintro e w9 ⟨rfl, hb9⟩
          have HB9 := Lib.hid (HB8.out.trans (Below.mono hb9 HB8.out.size)); clear hb9
          go_wp2_with fail
          go_ret
          exact ⟨rfl, HB9.out⟩

theorem lawViews (A D : Option Addr) (n c m d : Nat) (xs ys : List Int) (h : Int) (W : World)
    (h1 : (A = none ∧ n = 0 ∧ c = 0 ∧ xs = []) ∨
      ∃ x, A = some x ∧ n ≤ c ∧ c ≤ maxLen ∧ xs.length = c ∧ (∀ i, i < xs.length → W.cell? (x.add i) = some (.int .u8 (xs.getD i 0))) ∧ ∀ n ∈ xs, (Lit.int .u8 n).wf = true)
    (h2 : (D = none ∧ m = 0 ∧ d = 0 ∧ ys = []) ∨
      ∃ x, D = some x ∧ m ≤ d ∧ d ≤ maxLen ∧ ys.length = d ∧ (∀ i, i < ys.length → W.cell? (x.add i) = some (.int .u8 (ys.getD i 0))) ∧ ∀ n ∈ ys, (Lit.int .u8 n).wf = true)
    (h3 : (Lit.int .u8 h).wf = true) :
    Calls Try.prog 5 #[.slice A n c, .slice D m d, .int .u8 h] W fun e w' => e = .returned (.bool true) ∧ Below W.heap.size W w' := by
  obtain ⟨hr1, hc1, hm1, hn1, _⟩ := rowI_of_row h1
  obtain ⟨hr2, hc2, hm2, hn2, _⟩ := rowI_of_row h2
  have hb := byte_of_wf h3
  by_cases hl : 100 < n ∨ 100 < m
  · exact lawViews_many A D n c m d h W hl (Nat.le_trans hc1 hm1) (Nat.le_trans hc2 hm2)
  · exact lawViews_short A D n c m d _ _ h W (by omega) (by omega) hr1 hr2 hn1 hn2 (by omega)
end Go.Proofs.Ytgjmgbpphfccaaa
