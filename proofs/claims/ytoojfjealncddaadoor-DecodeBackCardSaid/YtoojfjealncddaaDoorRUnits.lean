/- The document's own Units. -/
import Derived.Test.YtoojfjealncddaaDoorOUnits
import Derived.Test.YtoojfjealncddaaDoorNums
namespace Go.Proofs.YtoojfjealncddaaDoor
open Go Go.RowKit
set_option linter.unusedVariables false

set_option maxHeartbeats 1000000 in
theorem runits2 (s : ByteArray) (W : World) (hn : s.size ≤ 1000) :
    Calls Tryd.prog 19 #[.int .i64 2, .string s] W fun e w' => ∃ A' c', e = .returned (.slice A' (s.size / 2) c') ∧ RowI .i64 w' A' (s.size / 2) (unitsAt 2 (nums s) (s.size / 2)) ∧ Below W.heap.size W w' ∧ s.size / 2 ≤ c' ∧ c' ≤ maxLen := by
  have hby := nums_byte s
  have hidx := idx_at s
  have hll := nums_length s
  have HB := Lib.hid hby; clear hby
  have HI := Lib.hid hidx; clear hidx
  have HLL := Lib.hid hll; clear hll
  have hnn : (s.size : Int) ≤ 1000 := by omega
  go_enter Tryd.func19, Tryd.ntmps19
  go_wp2_with fail
  go_loopw [5, 6] (fun vu vi wr => ∃ (q j : Nat) (v : Value), q ≤ s.size ∧ Hid (q = 2 * j) ∧ vi = .int .i64 (q : Int) ∧ v = vu ∧ wr.ownsRow W.heap.size 3 1 v j ((unitsAt 2 (nums s) j).map (Value.int .i64)) ∧ Below W.heap.size W wr) (fun _ vi _ => s.size - (intOf vi).toNat)
  case atStart => exact ⟨0, 0, _, by omega, Lib.hid rfl, rfl, rfl, World.ownsRow_nil _ _ _ _, Below.refl _ _⟩
  case round =>
    obtain ⟨q, j, v, hq, HQ, rfl, rfl, hown, hb⟩ := hrel
    have hj : j ≤ 500 := by have := HQ.out; omega
    by_cases hlt : q + 2 ≤ s.size
    · have cx := HI.out q (by omega)
      have cy := HI.out (q + 1) (by omega)
      obtain ⟨x, hx⟩ : ∃ x, x = (nums s).getD q 0 := ⟨_, rfl⟩
      obtain ⟨y, hy⟩ : ∃ y, y = (nums s).getD (q + 1) 0 := ⟨_, rfl⟩
      rw [← hx] at cx
      rw [← hy, show ((q + 1 : Nat) : Int) = (q : Int) + 1 by omega] at cy
      have hxm : x ∈ nums s := by rw [hx]; exact getD_mem (by have := HLL.out; omega)
      have hym : y ∈ nums s := by rw [hy]; exact getD_mem (by have := HLL.out; omega)
      obtain ⟨hx0, hx1⟩ := HB.out x hxm
      obtain ⟨hy0, hy1⟩ := HB.out y hym
      clear hxm hym
      have HX := Lib.hid hx; clear hx
      have HY := Lib.hid hy; clear hy
      have d1 : decide ((q : Int) + 2 ≤ (s.size : Int)) = true := by simp; omega
      have w1 : IntKind.i64.wrap ((q : Int) + 1) = (q : Int) + 1 := by rw [IntKind.wrap_i64]; omega
      have wx : IntKind.i64.wrap x = x := by rw [IntKind.wrap_i64]; omega
      have wy : IntKind.i64.wrap y = y := by rw [IntKind.wrap_i64]; omega
      have wm : IntKind.i64.wrap (256 * y) = 256 * y := by rw [IntKind.wrap_i64]; omega
      obtain ⟨u, hu⟩ : ∃ u, u = x + 256 * y := ⟨_, rfl⟩
      have wu : IntKind.i64.wrap u = u := by rw [IntKind.wrap_i64]; omega
      have wu2 : x + 256 * y = u := hu.symm
      have HU := Lib.hid hu; clear hu
      obtain ⟨v', w2, happ, hown2, hgrow2⟩ := app_run .i64 27 3 8 Tryd.underlying27 info_int ((wr.alloc (.cells #[.int .i64 u] 3)).drew) W.heap.size v j (unitsAt 2 (nums s) j) ((hown.alloc _).drew)
        (some ⟨wr.heap.size, 0, none⟩) 1 1 [u] ((RowI.new .i64 wr [u] 3).below ((Below.refl _ _).drew) (Nat.le_refl _)) (fun h => by cases h) (by omega) (by unfold maxLen; omega) (by have := hb.size; simp; omega)
      have hb2 : Below W.heap.size W w2 := ((hb.alloc hb.size _).drew).grown hgrow2 (by have := hb.size; simp; omega) (by intro k hk; exact (hown.lt k hk).1)
      have HAPP := Lib.hid happ; clear happ
      have HOWN := Lib.hid hown2; clear hown2
      clear hgrow2 hown
      go_wp2_with fail
      go_region_held_law (fun _ => True) (trivial) (refine step_append_run rfl _ _ 27 rfl rfl _ _ _ _ rfl rfl HAPP.out ?_)
      all_goals
        go_wp2
        refine ⟨⟨q + 2, j + 1, _, by omega, Lib.hid (by have := HQ.out; omega), by go_num, rfl, ?_, hb2⟩, by simp [intOf]; omega⟩
        have e := HOWN.out
        rw [unitsAt_succ, ← HQ.out, ← HX.out, ← HY.out]
        rw [HU.out] at e
        exact e
    · obtain ⟨A', c', rfl, hri, hq1, hq2⟩ := row_of_own hown
      have ej : s.size / 2 = j := by have := HQ.out; omega
      have d1 : decide ((q : Int) + 2 ≤ (s.size : Int)) = false := by simp; omega
      go_wp2
      go_ret
      rw [ej]
      exact ⟨A', c', rfl, hri, hb, hq1, hq2⟩

set_option maxHeartbeats 1000000 in
theorem runits3 (s : ByteArray) (W : World) (hn : s.size ≤ 1000) :
    Calls Tryd.prog 19 #[.int .i64 3, .string s] W fun e w' => ∃ A' c', e = .returned (.slice A' (s.size / 2) c') ∧ RowI .i64 w' A' (s.size / 2) (unitsAt 3 (nums s) (s.size / 2)) ∧ Below W.heap.size W w' ∧ s.size / 2 ≤ c' ∧ c' ≤ maxLen := by
  have hby := nums_byte s
  have hidx := idx_at s
  have hll := nums_length s
  have HB := Lib.hid hby; clear hby
  have HI := Lib.hid hidx; clear hidx
  have HLL := Lib.hid hll; clear hll
  have hnn : (s.size : Int) ≤ 1000 := by omega
  go_enter Tryd.func19, Tryd.ntmps19
  go_wp2_with fail
  go_loopw [5, 6] (fun vu vi wr => ∃ (q j : Nat) (v : Value), q ≤ s.size ∧ Hid (q = 2 * j) ∧ vi = .int .i64 (q : Int) ∧ v = vu ∧ wr.ownsRow W.heap.size 3 1 v j ((unitsAt 3 (nums s) j).map (Value.int .i64)) ∧ Below W.heap.size W wr) (fun _ vi _ => s.size - (intOf vi).toNat)
  case atStart => exact ⟨0, 0, _, by omega, Lib.hid rfl, rfl, rfl, World.ownsRow_nil _ _ _ _, Below.refl _ _⟩
  case round =>
    obtain ⟨q, j, v, hq, HQ, rfl, rfl, hown, hb⟩ := hrel
    have hj : j ≤ 500 := by have := HQ.out; omega
    by_cases hlt : q + 2 ≤ s.size
    · have cx := HI.out q (by omega)
      have cy := HI.out (q + 1) (by omega)
      obtain ⟨x, hx⟩ : ∃ x, x = (nums s).getD q 0 := ⟨_, rfl⟩
      obtain ⟨y, hy⟩ : ∃ y, y = (nums s).getD (q + 1) 0 := ⟨_, rfl⟩
      rw [← hx] at cx
      rw [← hy, show ((q + 1 : Nat) : Int) = (q : Int) + 1 by omega] at cy
      have hxm : x ∈ nums s := by rw [hx]; exact getD_mem (by have := HLL.out; omega)
      have hym : y ∈ nums s := by rw [hy]; exact getD_mem (by have := HLL.out; omega)
      obtain ⟨hx0, hx1⟩ := HB.out x hxm
      obtain ⟨hy0, hy1⟩ := HB.out y hym
      clear hxm hym
      have HX := Lib.hid hx; clear hx
      have HY := Lib.hid hy; clear hy
      have d1 : decide ((q : Int) + 2 ≤ (s.size : Int)) = true := by simp; omega
      have w1 : IntKind.i64.wrap ((q : Int) + 1) = (q : Int) + 1 := by rw [IntKind.wrap_i64]; omega
      have wx : IntKind.i64.wrap x = x := by rw [IntKind.wrap_i64]; omega
      have wy : IntKind.i64.wrap y = y := by rw [IntKind.wrap_i64]; omega
      have wm : IntKind.i64.wrap (256 * x) = 256 * x := by rw [IntKind.wrap_i64]; omega
      obtain ⟨u, hu⟩ : ∃ u, u = y + 256 * x := ⟨_, rfl⟩
      have wu : IntKind.i64.wrap u = u := by rw [IntKind.wrap_i64]; omega
      have wu2 : y + 256 * x = u := hu.symm
      have HU := Lib.hid hu; clear hu
      obtain ⟨v', w2, happ, hown2, hgrow2⟩ := app_run .i64 27 3 8 Tryd.underlying27 info_int ((wr.alloc (.cells #[.int .i64 u] 3)).drew) W.heap.size v j (unitsAt 3 (nums s) j) ((hown.alloc _).drew)
        (some ⟨wr.heap.size, 0, none⟩) 1 1 [u] ((RowI.new .i64 wr [u] 3).below ((Below.refl _ _).drew) (Nat.le_refl _)) (fun h => by cases h) (by omega) (by unfold maxLen; omega) (by have := hb.size; simp; omega)
      have hb2 : Below W.heap.size W w2 := ((hb.alloc hb.size _).drew).grown hgrow2 (by have := hb.size; simp; omega) (by intro k hk; exact (hown.lt k hk).1)
      have HAPP := Lib.hid happ; clear happ
      have HOWN := Lib.hid hown2; clear hown2
      clear hgrow2 hown
      go_wp2_with fail
      go_region_held_law (fun _ => True) (trivial) (refine step_append_run rfl _ _ 27 rfl rfl _ _ _ _ rfl rfl HAPP.out ?_)
      all_goals
        go_wp2
        refine ⟨⟨q + 2, j + 1, _, by omega, Lib.hid (by have := HQ.out; omega), by go_num, rfl, ?_, hb2⟩, by simp [intOf]; omega⟩
        have e := HOWN.out
        rw [unitsAt_succ, ← HQ.out, ← HX.out, ← HY.out]
        rw [HU.out] at e
        exact e
    · obtain ⟨A', c', rfl, hri, hq1, hq2⟩ := row_of_own hown
      have ej : s.size / 2 = j := by have := HQ.out; omega
      have d1 : decide ((q : Int) + 2 ≤ (s.size : Int)) = false := by simp; omega
      go_wp2
      go_ret
      rw [ej]
      exact ⟨A', c', rfl, hri, hb, hq1, hq2⟩

theorem runitsNo (k : Int) (s : ByteArray) (W : World) (h2 : k ≠ 2) (h3 : k ≠ 3) (hn : s.size ≤ 1000) :
    Calls Tryd.prog 19 #[.int .i64 k, .string s] W fun e w' => e = .returned (.slice none 0 0) ∧ Below W.heap.size W w' := by
  have hnn : (s.size : Int) ≤ 1000 := by omega
  have e2 : (k == 2) = false := by simpa using h2
  have e3 : (k == 3) = false := by simpa using h3
  clear h2 h3
  go_enter Tryd.func19, Tryd.ntmps19
  go_wp2_with fail
  go_loopw [5, 6] (fun vu vi wr => ∃ (q : Nat), q ≤ s.size ∧ vi = .int .i64 (q : Int) ∧ vu = .slice none 0 0 ∧ Below W.heap.size W wr) (fun _ vi _ => s.size - (intOf vi).toNat)
  case atStart => exact ⟨0, by omega, rfl, rfl, Below.refl _ _⟩
  case round =>
    obtain ⟨q, hq, rfl, rfl, hb⟩ := hrel
    by_cases hlt : q + 2 ≤ s.size
    · have d1 : decide ((q : Int) + 2 ≤ (s.size : Int)) = true := by simp; omega
      go_wp2
      exact ⟨⟨q + 2, by omega, by go_num, rfl, hb⟩, by simp [intOf]; omega⟩
    · have d1 : decide ((q : Int) + 2 ≤ (s.size : Int)) = false := by simp; omega
      go_wp2
      go_ret
      exact ⟨rfl, hb⟩

theorem runits_cap (k : Int) (s : ByteArray) (W : World) (hn : s.size ≤ 1000) :
    Calls Tryd.prog 19 #[.int .i64 k, .string s] W fun e w' => ∃ A' c', e = .returned (.slice A' (unitsL k (nums s)).length c') ∧ RowI .i64 w' A' (unitsL k (nums s)).length (unitsL k (nums s)) ∧ Below W.heap.size W w' ∧ (unitsL k (nums s)).length ≤ c' ∧ c' ≤ maxLen := by
  by_cases h2 : k = 2
  · subst h2
    rw [unitsL_is (.inl rfl), unitsAt_length, nums_length]
    exact runits2 s W hn
  · by_cases h3 : k = 3
    · subst h3
      rw [unitsL_is (.inr rfl), unitsAt_length, nums_length]
      exact runits3 s W hn
    · rw [unitsL_no (fun h => h.elim h2 h3)]
      exact (runitsNo k s W h2 h3 hn).mono fun e w' ⟨he, hb⟩ => ⟨none, 0, he, RowI.nil_, hb, Nat.le_refl _, Nat.zero_le _⟩
theorem runits_any (k : Int) (s : ByteArray) (W : World) (hn : s.size ≤ 1000) :
    Calls Tryd.prog 19 #[.int .i64 k, .string s] W fun e w' => ∃ A' c', e = .returned (.slice A' (unitsL k (nums s)).length c') ∧ RowI .i64 w' A' (unitsL k (nums s)).length (unitsL k (nums s)) ∧ Below W.heap.size W w' :=
  (runits_cap k s W hn).mono fun e w' ⟨A', c', he, h1, h2, _⟩ => ⟨A', c', he, h1, h2⟩
end Go.Proofs.YtoojfjealncddaaDoor
