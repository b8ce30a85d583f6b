/- Octets of package order. -/
import Derived.Test.YtoojfjealncddaaDoorOUnits
namespace Go.Proofs.YtoojfjealncddaaDoor
open Go Go.RowKit
set_option linter.unusedVariables false

set_option maxHeartbeats 1000000 in
theorem ooctets2 (A : Option Addr) (n c : Nat) (us : List Int) (W : World) (hr : RowI .i64 W A n us) (hby : ∀ u ∈ us, -9223372036854775808 ≤ u ∧ u ≤ 9223372036854775807) (hn : n ≤ 1000) :
    Calls Tryd.prog 52 #[.int .i64 2, .slice A n c] W fun e w' => ∃ A' c', e = .returned (.slice A' (octL 2 us).length c') ∧ RowI .u8 w' A' (octL 2 us).length (octL 2 us) ∧ (octL 2 us).length ≤ c' ∧ c' ≤ maxLen ∧ A' ≠ none ∧ Below W.heap.size W w' := by
  have hp := fun w => places2 w
  have hll := hr.1
  have HP := Lib.hid hp; clear hp
  have HR := Lib.hid hr; clear hr
  have HB := Lib.hid hby; clear hby
  have HLL := Lib.hid hll; clear hll
  obtain ⟨i0, hi, hz0, hz1, hz2⟩ := info_parts info_u8
  obtain ⟨w1, hmk, hown0, hgrow0⟩ := run_make_own (P := Tryd.prog) ((W.alloc (.cells #[.int .i64 0, .int .i64 8] 65)).alloc (.cells #[.int .i64 0, .int .i64 8] 65)) (W.heap.size + 2) 22 5 i0 (.int .u8 0) 1 Tryd.underlying22 hi hz0 hz1 .i64 .i64 (2 * n) (by rw [hz2]; omega) (by unfold maxLen; omega) (by simp)
  rw [show ((2 * n : Nat) : Int) = 2 * (n : Int) by omega] at hmk
  obtain ⟨v0, hv0⟩ : ∃ v, v = (Value.slice (some ⟨((W.alloc (.cells #[.int .i64 0, .int .i64 8] 65)).alloc (.cells #[.int .i64 0, .int .i64 8] 65)).heap.size, 0, none⟩) 0 (2 * n)) := ⟨_, rfl⟩
  have hvn0 : ∀ m c', v0 ≠ .slice none m c' := by intro m c' h; rw [hv0] at h; cases h
  rw [← hv0] at hmk hown0
  clear hv0
  have hbW : Below W.heap.size W ((W.alloc (.cells #[.int .i64 0, .int .i64 8] 65)).alloc (.cells #[.int .i64 0, .int .i64 8] 65)) := by go_grown
  have hat : ((W.alloc (.cells #[.int .i64 0, .int .i64 8] 65)).alloc (.cells #[.int .i64 0, .int .i64 8] 65)).heap[W.heap.size + 1]? = some (.cells #[.int .i64 0, .int .i64 8] 65) := at_new _ _ (by simp)
  have hsz : ((W.alloc (.cells #[.int .i64 0, .int .i64 8] 65)).alloc (.cells #[.int .i64 0, .int .i64 8] 65)).heap.size = W.heap.size + 2 := by simp
  obtain ⟨wM, hwM⟩ : ∃ w, w = ((W.alloc (.cells #[.int .i64 0, .int .i64 8] 65)).alloc (.cells #[.int .i64 0, .int .i64 8] 65)) := ⟨_, rfl⟩
  rw [← hwM] at hbW hat hsz hgrow0
  have hb0 : Below (W.heap.size + 2) wM w1 := (Below.refl _ _).grown hgrow0 (by omega) (by intro k hk; simp at hk)
  have HWM := Lib.hid hwM
  have HV0 := Lib.hid hvn0
  clear hwM hgrow0 hvn0
  go_enter Tryd.func52, Tryd.ntmps52
  go_wp2_with fail
  refine (HP.out _).mono ?_; rintro e w' ⟨rfl, rfl⟩
  go_wp2_with fail
  go_loopw [7, 23] (fun vb vi wr => ∃ (q m : Nat) (v : Value), q ≤ n ∧ m = 2 * q ∧ vi = .int .i64 (q : Int) ∧ v = vb ∧ wr.ownsRow (W.heap.size + 2) 5 1 v m ((octL 2 (us.take q)).map (Value.int .u8)) ∧ Hid (∀ m c', v ≠ .slice none m c') ∧ Below (W.heap.size + 2) wM wr) (fun _ vi _ => n - (intOf vi).toNat)
  case atStart => exact ⟨0, 0, _, by omega, rfl, rfl, rfl, hown0, HV0, hb0⟩
  case round =>
    obtain ⟨q, m, v, hq, hm, rfl, rfl, hown, HV, hb⟩ := hrel
    by_cases hlt : q < n
    · obtain ⟨b, o, rfl, hbl, hc⟩ := HR.out.2 (by omega)
      obtain ⟨u, hu⟩ : ∃ u, u = us.getD q 0 := ⟨_, rfl⟩
      have hrM := HR.out.below (hbW.trans (Below.mono hb (by omega))) (Nat.le_refl _)
      obtain ⟨b', o', hA', hbl', hc'⟩ := hrM.2 (by omega)
      injection hA' with hA'
      injection hA' with hb1 ho1
      subst hb1 ho1
      have cu := hc' q hlt
      rw [← hu] at cu
      have hcells : ∀ w', Below (W.heap.size + 2) wM w' → w'.cell? ⟨W.heap.size + 1, 0, none⟩ = some (.int .i64 0) ∧ w'.cell? ⟨W.heap.size + 1, 1, none⟩ = some (.int .i64 8) := by
        intro w' hb'
        refine ⟨?_, ?_⟩
        · rw [hb'.cell (p := ⟨W.heap.size + 1, 0, none⟩) (by simp), cell_of_row _ _ 0 _ _ _ hat]; rfl
        · rw [hb'.cell (p := ⟨W.heap.size + 1, 1, none⟩) (by simp), cell_of_row _ _ 1 _ _ _ hat]; rfl
      have hum : u ∈ us := by rw [hu]; exact getD_mem (by have := HLL.out; omega)
      obtain ⟨hu0, hu1⟩ := HB.out u hum
      clear hum hrM hc' hbl'
      have HU := Lib.hid hu; clear hu
      obtain ⟨c0, c8⟩ := hcells wr hb
      have k1 : (q : Int) < (n : Int) := by omega
      obtain ⟨x, hx⟩ : ∃ x, x = u % 256 := ⟨_, rfl⟩
      obtain ⟨y, hy⟩ : ∃ y, y = u / 256 % 256 := ⟨_, rfl⟩
      have w8 : IntKind.u8.wrap u = x := by rw [IntKind.wrap_u8, hx]
      have w8b : IntKind.u8.wrap (u / 256) = y := by rw [IntKind.wrap_u8, hy]
      have w64 : IntKind.i64.wrap u = u := by rw [IntKind.wrap_i64]; omega
      have w64b : IntKind.i64.wrap (u / 256) = u / 256 := by rw [IntKind.wrap_i64]; omega
      have HX := Lib.hid hx; clear hx
      have HY := Lib.hid hy; clear hy
      obtain ⟨v', w2, happ, hown2, hgrow2⟩ := app_run .u8 22 5 1 Tryd.underlying22 info_u8 ((wr.alloc (.cells #[.int .u8 x, .int .u8 y] 5)).drew) (W.heap.size + 2) v m (octL 2 (us.take q)) ((hown.alloc _).drew)
        (some ⟨wr.heap.size, 0, none⟩) 2 2 [x, y] ((RowI.new .u8 wr [x, y] 5).below ((Below.refl _ _).drew) (Nat.le_refl _)) (fun h => by cases h) (by omega) (by unfold maxLen; omega) (by have := hb.size; simp; omega)
      have hb2 : Below (W.heap.size + 2) wM w2 := ((hb.alloc (by have := hb.size; omega) _).drew).grown hgrow2 (by have := hb.size; simp; omega) (by intro k hk; exact (hown.lt k hk).1)
      have hvn : ∀ m c', v' ≠ .slice none m c' := by
        intro m' c' h
        have h2 := hown2.2
        rw [h] at h2
        rcases h2 with ⟨_, h0⟩ | ⟨g, cap, cur, hv, _⟩
        · omega
        · cases hv
      have HVN := Lib.hid hvn; clear hvn
      have hS2 := hcells w2 hb2
      have HAPP := Lib.hid happ; clear happ
      have HOWN := Lib.hid hown2; clear hown2
      clear hc hgrow2 hcells hown
      go_wp2_with fail
      go_region_held_law (fun w' => w'.cell? ⟨W.heap.size + 1, 0, none⟩ = some (.int .i64 0) ∧ w'.cell? ⟨W.heap.size + 1, 1, none⟩ = some (.int .i64 8)) (first | exact hS2 | go_keep) (refine step_append_run rfl _ _ 22 rfl rfl _ _ _ _ rfl rfl HAPP.out ?_)
      go_wp2
      refine ⟨⟨q + 1, m + 2, _, by omega, by omega, by go_num, rfl, ?_, HVN, hb2⟩, by simp [intOf]; omega⟩
      have e := HOWN.out
      rw [show us.take (q + 1) = us.take q ++ [u] by rw [List.take_succ_eq_append_getElem (by have := HLL.out; omega), HU.out]; simp [List.getD, show q < us.length by have := HLL.out; omega], octL_append, octL_one]
      rw [HX.out, HY.out] at e
      exact e
    · obtain rfl : q = n := by omega
      have et : us.take q = us := List.take_of_length_le (by rw [HLL.out]; exact Nat.le_refl _)
      rw [et] at hown
      have em : (octL 2 us).length = m := by rw [octL_length (by decide), HLL.out]; omega
      obtain ⟨A', c', rfl, hri, hcc, hcm⟩ := row_of_own hown
      go_wp2
      go_ret
      rw [em]
      exact ⟨A', c', rfl, hri, hcc, hcm, fun h => HV.out m c' (by rw [h]), hbW.trans (Below.mono hb (by omega))⟩

set_option maxHeartbeats 1000000 in
theorem ooctets3 (A : Option Addr) (n c : Nat) (us : List Int) (W : World) (hr : RowI .i64 W A n us) (hby : ∀ u ∈ us, -9223372036854775808 ≤ u ∧ u ≤ 9223372036854775807) (hn : n ≤ 1000) :
    Calls Tryd.prog 52 #[.int .i64 3, .slice A n c] W fun e w' => ∃ A' c', e = .returned (.slice A' (octL 3 us).length c') ∧ RowI .u8 w' A' (octL 3 us).length (octL 3 us) ∧ (octL 3 us).length ≤ c' ∧ c' ≤ maxLen ∧ A' ≠ none ∧ Below W.heap.size W w' := by
  have hp := fun w => places3 w
  have hll := hr.1
  have HP := Lib.hid hp; clear hp
  have HR := Lib.hid hr; clear hr
  have HB := Lib.hid hby; clear hby
  have HLL := Lib.hid hll; clear hll
  obtain ⟨i0, hi, hz0, hz1, hz2⟩ := info_parts info_u8
  obtain ⟨w1, hmk, hown0, hgrow0⟩ := run_make_own (P := Tryd.prog) ((W.alloc (.cells #[.int .i64 8, .int .i64 0] 65)).alloc (.cells #[.int .i64 8, .int .i64 0] 65)) (W.heap.size + 2) 22 5 i0 (.int .u8 0) 1 Tryd.underlying22 hi hz0 hz1 .i64 .i64 (2 * n) (by rw [hz2]; omega) (by unfold maxLen; omega) (by simp)
  rw [show ((2 * n : Nat) : Int) = 2 * (n : Int) by omega] at hmk
  obtain ⟨v0, hv0⟩ : ∃ v, v = (Value.slice (some ⟨((W.alloc (.cells #[.int .i64 8, .int .i64 0] 65)).alloc (.cells #[.int .i64 8, .int .i64 0] 65)).heap.size, 0, none⟩) 0 (2 * n)) := ⟨_, rfl⟩
  have hvn0 : ∀ m c', v0 ≠ .slice none m c' := by intro m c' h; rw [hv0] at h; cases h
  rw [← hv0] at hmk hown0
  clear hv0
  have hbW : Below W.heap.size W ((W.alloc (.cells #[.int .i64 8, .int .i64 0] 65)).alloc (.cells #[.int .i64 8, .int .i64 0] 65)) := by go_grown
  have hat : ((W.alloc (.cells #[.int .i64 8, .int .i64 0] 65)).alloc (.cells #[.int .i64 8, .int .i64 0] 65)).heap[W.heap.size + 1]? = some (.cells #[.int .i64 8, .int .i64 0] 65) := at_new _ _ (by simp)
  have hsz : ((W.alloc (.cells #[.int .i64 8, .int .i64 0] 65)).alloc (.cells #[.int .i64 8, .int .i64 0] 65)).heap.size = W.heap.size + 2 := by simp
  obtain ⟨wM, hwM⟩ : ∃ w, w = ((W.alloc (.cells #[.int .i64 8, .int .i64 0] 65)).alloc (.cells #[.int .i64 8, .int .i64 0] 65)) := ⟨_, rfl⟩
  rw [← hwM] at hbW hat hsz hgrow0
  have hb0 : Below (W.heap.size + 2) wM w1 := (Below.refl _ _).grown hgrow0 (by omega) (by intro k hk; simp at hk)
  have HWM := Lib.hid hwM
  have HV0 := Lib.hid hvn0
  clear hwM hgrow0 hvn0
  go_enter Tryd.func52, Tryd.ntmps52
  go_wp2_with fail
  refine (HP.out _).mono ?_; rintro e w' ⟨rfl, rfl⟩
  go_wp2_with fail
  go_loopw [7, 23] (fun vb vi wr => ∃ (q m : Nat) (v : Value), q ≤ n ∧ m = 2 * q ∧ vi = .int .i64 (q : Int) ∧ v = vb ∧ wr.ownsRow (W.heap.size + 2) 5 1 v m ((octL 3 (us.take q)).map (Value.int .u8)) ∧ Hid (∀ m c', v ≠ .slice none m c') ∧ Below (W.heap.size + 2) wM wr) (fun _ vi _ => n - (intOf vi).toNat)
  case atStart => exact ⟨0, 0, _, by omega, rfl, rfl, rfl, hown0, HV0, hb0⟩
  case round =>
    obtain ⟨q, m, v, hq, hm, rfl, rfl, hown, HV, hb⟩ := hrel
    by_cases hlt : q < n
    · obtain ⟨b, o, rfl, hbl, hc⟩ := HR.out.2 (by omega)
      obtain ⟨u, hu⟩ : ∃ u, u = us.getD q 0 := ⟨_, rfl⟩
      have hrM := HR.out.below (hbW.trans (Below.mono hb (by omega))) (Nat.le_refl _)
      obtain ⟨b', o', hA', hbl', hc'⟩ := hrM.2 (by omega)
      injection hA' with hA'
      injection hA' with hb1 ho1
      subst hb1 ho1
      have cu := hc' q hlt
      rw [← hu] at cu
      have hcells : ∀ w', Below (W.heap.size + 2) wM w' → w'.cell? ⟨W.heap.size + 1, 0, none⟩ = some (.int .i64 8) ∧ w'.cell? ⟨W.heap.size + 1, 1, none⟩ = some (.int .i64 0) := by
        intro w' hb'
        refine ⟨?_, ?_⟩
        · rw [hb'.cell (p := ⟨W.heap.size + 1, 0, none⟩) (by simp), cell_of_row _ _ 0 _ _ _ hat]; rfl
        · rw [hb'.cell (p := ⟨W.heap.size + 1, 1, none⟩) (by simp), cell_of_row _ _ 1 _ _ _ hat]; rfl
      have hum : u ∈ us := by rw [hu]; exact getD_mem (by have := HLL.out; omega)
      obtain ⟨hu0, hu1⟩ := HB.out u hum
      clear hum hrM hc' hbl'
      have HU := Lib.hid hu; clear hu
      obtain ⟨c0, c8⟩ := hcells wr hb
      have k1 : (q : Int) < (n : Int) := by omega
      obtain ⟨x, hx⟩ : ∃ x, x = u % 256 := ⟨_, rfl⟩
      obtain ⟨y, hy⟩ : ∃ y, y = u / 256 % 256 := ⟨_, rfl⟩
      have w8 : IntKind.u8.wrap u = x := by rw [IntKind.wrap_u8, hx]
      have w8b : IntKind.u8.wrap (u / 256) = y := by rw [IntKind.wrap_u8, hy]
      have w64 : IntKind.i64.wrap u = u := by rw [IntKind.wrap_i64]; omega
      have w64b : IntKind.i64.wrap (u / 256) = u / 256 := by rw [IntKind.wrap_i64]; omega
      have HX := Lib.hid hx; clear hx
      have HY := Lib.hid hy; clear hy
      obtain ⟨v', w2, happ, hown2, hgrow2⟩ := app_run .u8 22 5 1 Tryd.underlying22 info_u8 ((wr.alloc (.cells #[.int .u8 y, .int .u8 x] 5)).drew) (W.heap.size + 2) v m (octL 3 (us.take q)) ((hown.alloc _).drew)
        (some ⟨wr.heap.size, 0, none⟩) 2 2 [y, x] ((RowI.new .u8 wr [y, x] 5).below ((Below.refl _ _).drew) (Nat.le_refl _)) (fun h => by cases h) (by omega) (by unfold maxLen; omega) (by have := hb.size; simp; omega)
      have hb2 : Below (W.heap.size + 2) wM w2 := ((hb.alloc (by have := hb.size; omega) _).drew).grown hgrow2 (by have := hb.size; simp; omega) (by intro k hk; exact (hown.lt k hk).1)
      have hvn : ∀ m c', v' ≠ .slice none m c' := by
        intro m' c' h
        have h2 := hown2.2
        rw [h] at h2
        rcases h2 with ⟨_, h0⟩ | ⟨g, cap, cur, hv, _⟩
        · omega
        · cases hv
      have HVN := Lib.hid hvn; clear hvn
      have hS2 := hcells w2 hb2
      have HAPP := Lib.hid happ; clear happ
      have HOWN := Lib.hid hown2; clear hown2
      clear hc hgrow2 hcells hown
      go_wp2_with fail
      go_region_held_law (fun w' => w'.cell? ⟨W.heap.size + 1, 0, none⟩ = some (.int .i64 8) ∧ w'.cell? ⟨W.heap.size + 1, 1, none⟩ = some (.int .i64 0)) (first | exact hS2 | go_keep) (refine step_append_run rfl _ _ 22 rfl rfl _ _ _ _ rfl rfl HAPP.out ?_)
      go_wp2
      refine ⟨⟨q + 1, m + 2, _, by omega, by omega, by go_num, rfl, ?_, HVN, hb2⟩, by simp [intOf]; omega⟩
      have e := HOWN.out
      rw [show us.take (q + 1) = us.take q ++ [u] by rw [List.take_succ_eq_append_getElem (by have := HLL.out; omega), HU.out]; simp [List.getD, show q < us.length by have := HLL.out; omega], octL_append, octL_one]
      rw [HX.out, HY.out] at e
      exact e
    · obtain rfl : q = n := by omega
      have et : us.take q = us := List.take_of_length_le (by rw [HLL.out]; exact Nat.le_refl _)
      rw [et] at hown
      have em : (octL 3 us).length = m := by rw [octL_length (by decide), HLL.out]; omega
      obtain ⟨A', c', rfl, hri, hcc, hcm⟩ := row_of_own hown
      go_wp2
      go_ret
      rw [em]
      exact ⟨A', c', rfl, hri, hcc, hcm, fun h => HV.out m c' (by rw [h]), hbW.trans (Below.mono hb (by omega))⟩

theorem ooctetsNo (k : Int) (A : Option Addr) (n c : Nat) (W : World) (h2 : k ≠ 2) (h3 : k ≠ 3) :
    Calls Tryd.prog 52 #[.int .i64 k, .slice A n c] W fun e w' => e = .returned (.slice none 0 0) ∧ Below W.heap.size W w' := by
  have hp := fun w => placesNo k w h2 h3
  have HP := Lib.hid hp; clear hp
  clear h2 h3
  go_enter Tryd.func52, Tryd.ntmps52
  go_wp2_with fail
  refine (HP.out _).mono ?_; rintro e w' ⟨rfl, rfl⟩
  go_wp2_with fail
  go_ret
  exact ⟨rfl, by go_grown⟩

theorem ooctets_any (k : Int) (A : Option Addr) (n c : Nat) (us : List Int) (W : World) (hr : RowI .i64 W A n us) (hby : ∀ u ∈ us, -9223372036854775808 ≤ u ∧ u ≤ 9223372036854775807) (hn : n ≤ 1000) :
    Calls Tryd.prog 52 #[.int .i64 k, .slice A n c] W fun e w' => ∃ A' c', e = .returned (.slice A' (octL k us).length c') ∧ RowI .u8 w' A' (octL k us).length (octL k us) ∧ (octL k us).length ≤ c' ∧ c' ≤ maxLen ∧ (A' = none → (octL k us).length = 0 ∧ c' = 0) ∧ Below W.heap.size W w' := by
  by_cases h2 : k = 2
  · subst h2
    exact (ooctets2 A n c us W hr hby hn).mono fun e w' ⟨A', c', he, h1, h2, h3, h4, h5⟩ => ⟨A', c', he, h1, h2, h3, fun h => absurd h h4, h5⟩
  · by_cases h3 : k = 3
    · subst h3
      exact (ooctets3 A n c us W hr hby hn).mono fun e w' ⟨A', c', he, h1, h2, h3, h4, h5⟩ => ⟨A', c', he, h1, h2, h3, fun h => absurd h h4, h5⟩
    · rw [octL_no (fun h => h.elim h2 h3)]
      exact (ooctetsNo k A n c W h2 h3).mono fun e w' ⟨he, hb⟩ => ⟨none, 0, he, RowI.nil_, Nat.le_refl _, Nat.zero_le _, fun _ => ⟨rfl, rfl⟩, hb⟩
end Go.Proofs.YtoojfjealncddaaDoor
