/- The document's own Octets. -/
import Derived.Test.YtoojfjealncddaaDoorOUnits
import Derived.Test.YtoojfjealncddaaDoorNums
namespace Go.Proofs.YtoojfjealncddaaDoor
open Go Go.RowKit
set_option linter.unusedVariables false

theorem str2 (g : Nat) (x y : Int) (w : World) (hg : g = w.heap.size) : (convert 22 9 (.slice (some ⟨g, 0, none⟩) 2 2)).run Tryd.prog (w.alloc (.cells #[.int .u8 x, .int .u8 y] 5)) = .ok (.string (strOfNums [x, y])) (w.alloc (.cells #[.int .u8 x, .int .u8 y] 5)) := by
  subst hg
  exact strRow _ _ 2 2 _ (RowI.new .u8 w [x, y] 5)
theorem str_append (a b : List Int) : strOfNums (a ++ b) = strOfNums a ++ strOfNums b := by
  simp [strOfNums]; rfl
theorem tmod_lt (u : Int) : -65536 < u.tmod 65536 ∧ u.tmod 65536 < 65536 := ⟨Int.lt_tmod_of_pos u (by decide), Int.tmod_lt_of_pos u (by decide)⟩
theorem tmod_eq (u : Int) : (if u.tmod 65536 < 0 then u.tmod 65536 + 65536 else u.tmod 65536) = u % 65536 := by
  have h := tmod_lt u
  have h2 : u = 65536 * u.tdiv 65536 + u.tmod 65536 := (Int.mul_tdiv_add_tmod u 65536).symm
  split <;> omega

set_option maxHeartbeats 1000000 in
theorem roctets2 (A : Option Addr) (n c : Nat) (us : List Int) (W : World) (hr : RowI .i64 W A n us) (hby : ∀ u ∈ us, -9223372036854775808 ≤ u ∧ u ≤ 9223372036854775807) (hn : n ≤ 1000) :
    Calls Tryd.prog 23 #[.int .i64 2, .slice A n c] W fun e w' => e = .returned (.string (strOfNums (octL 2 us))) ∧ Below W.heap.size W w' := by
  have hll := hr.1
  have HR := Lib.hid hr; clear hr
  have HB := Lib.hid hby; clear hby
  have HLL := Lib.hid hll; clear hll
  go_enter Tryd.func23, Tryd.ntmps23
  go_wp2_with fail
  go_loopw [5, 6] (fun vs vi wr => ∃ (q : Nat), q ≤ n ∧ vi = .int .i64 (q : Int) ∧ vs = .string (strOfNums (octL 2 (us.take q))) ∧ Below W.heap.size W wr) (fun _ vi _ => n - (intOf vi).toNat)
  case atStart => exact ⟨0, by omega, rfl, rfl, Below.refl _ _⟩
  case round =>
    obtain ⟨q, hq, rfl, rfl, hb⟩ := hrel
    by_cases hlt : q < n
    · have hrM := HR.out.below hb (Nat.le_refl _)
      obtain ⟨b, o, rfl, hbl, hc⟩ := hrM.2 (by omega)
      obtain ⟨u, hu⟩ : ∃ u, u = us.getD q 0 := ⟨_, rfl⟩
      have cu := hc q hlt
      rw [← hu] at cu
      have hum : u ∈ us := by rw [hu]; exact getD_mem (by have := HLL.out; omega)
      obtain ⟨hu0, hu1⟩ := HB.out u hum
      clear hum hrM hc
      have HU := Lib.hid hu; clear hu
      obtain ⟨r, hr⟩ : ∃ r, r = u.tmod 65536 := ⟨_, rfl⟩
      have hrb := tmod_lt u
      have hre := tmod_eq u
      rw [← hr] at hrb hre
      obtain ⟨hr0, hr1⟩ := hrb
      have et : u.tmod 65536 = r := hr.symm
      clear hr
      obtain ⟨x, hx⟩ : ∃ x, x = u % 256 := ⟨_, rfl⟩
      obtain ⟨y, hy⟩ : ∃ y, y = u / 256 % 256 := ⟨_, rfl⟩
      have hst := str2
      have hsz : (strOfNums (octL 2 (us.take q))).size ≤ 2000 := by
        rw [strOfNums_size]
        have := octL_le 2 (us.take q)
        rw [List.length_take] at this
        omega
      have hcat : ¬ 9223372036854775807 < (strOfNums (octL 2 (us.take q))).size + (strOfNums [x, y]).size := by rw [strOfNums_size [x, y]]; simp; omega
      clear hsz
      by_cases hneg : r < 0
      · rw [if_pos hneg] at hre
        have hz0 : 0 ≤ r + 65536 := by omega
        have hz1 : r + 65536 < 65536 := by omega
        have ex : (r + 65536) % 256 = x := by omega
        have ey : (r + 65536) / 256 = y := by omega
        have wx : IntKind.u8.wrap x = x := by rw [IntKind.wrap_u8]; omega
        have wy : IntKind.u8.wrap y = y := by rw [IntKind.wrap_u8]; omega
        have wz : IntKind.i64.wrap (r + 65536) = r + 65536 := by rw [IntKind.wrap_i64]; omega
        have HX := Lib.hid hx; clear hx
        have HY := Lib.hid hy; clear hy
        have HRE := Lib.hid hre; clear hre
        go_wp2
        refine ⟨⟨q + 1, by omega, by go_num, ?_, hb.alloc hb.size _⟩, by simp [intOf]; omega⟩
        rw [show us.take (q + 1) = us.take q ++ [u] by rw [List.take_succ_eq_append_getElem (by have := HLL.out; omega), HU.out]; simp [List.getD, show q < us.length by have := HLL.out; omega], octL_append, octL_one, str_append]
        rw [HX.out, HY.out]
        rfl
      · rw [if_neg hneg] at hre
        have hz0 : 0 ≤ r := by omega
        have ex : r % 256 = x := by omega
        have ey : r / 256 = y := by omega
        have wx : IntKind.u8.wrap x = x := by rw [IntKind.wrap_u8]; omega
        have wy : IntKind.u8.wrap y = y := by rw [IntKind.wrap_u8]; omega
        have HX := Lib.hid hx; clear hx
        have HY := Lib.hid hy; clear hy
        have HRE := Lib.hid hre; clear hre
        go_wp2
        refine ⟨⟨q + 1, by omega, by go_num, ?_, hb.alloc hb.size _⟩, by simp [intOf]; omega⟩
        rw [show us.take (q + 1) = us.take q ++ [u] by rw [List.take_succ_eq_append_getElem (by have := HLL.out; omega), HU.out]; simp [List.getD, show q < us.length by have := HLL.out; omega], octL_append, octL_one, str_append]
        rw [HX.out, HY.out]
        rfl
    · obtain rfl : q = n := by omega
      have et : us.take q = us := List.take_of_length_le (by rw [HLL.out]; exact Nat.le_refl _)
      rw [et]
      go_wp2
      go_ret
      exact ⟨rfl, hb⟩

set_option maxHeartbeats 1000000 in
theorem roctets3 (A : Option Addr) (n c : Nat) (us : List Int) (W : World) (hr : RowI .i64 W A n us) (hby : ∀ u ∈ us, -9223372036854775808 ≤ u ∧ u ≤ 9223372036854775807) (hn : n ≤ 1000) :
    Calls Tryd.prog 23 #[.int .i64 3, .slice A n c] W fun e w' => e = .returned (.string (strOfNums (octL 3 us))) ∧ Below W.heap.size W w' := by
  have hll := hr.1
  have HR := Lib.hid hr; clear hr
  have HB := Lib.hid hby; clear hby
  have HLL := Lib.hid hll; clear hll
  go_enter Tryd.func23, Tryd.ntmps23
  go_wp2_with fail
  go_loopw [5, 6] (fun vs vi wr => ∃ (q : Nat), q ≤ n ∧ vi = .int .i64 (q : Int) ∧ vs = .string (strOfNums (octL 3 (us.take q))) ∧ Below W.heap.size W wr) (fun _ vi _ => n - (intOf vi).toNat)
  case atStart => exact ⟨0, by omega, rfl, rfl, Below.refl _ _⟩
  case round =>
    obtain ⟨q, hq, rfl, rfl, hb⟩ := hrel
    by_cases hlt : q < n
    · have hrM := HR.out.below hb (Nat.le_refl _)
      obtain ⟨b, o, rfl, hbl, hc⟩ := hrM.2 (by omega)
      obtain ⟨u, hu⟩ : ∃ u, u = us.getD q 0 := ⟨_, rfl⟩
      have cu := hc q hlt
      rw [← hu] at cu
      have hum : u ∈ us := by rw [hu]; exact getD_mem (by have := HLL.out; omega)
      obtain ⟨hu0, hu1⟩ := HB.out u hum
      clear hum hrM hc
      have HU := Lib.hid hu; clear hu
      obtain ⟨r, hr⟩ : ∃ r, r = u.tmod 65536 := ⟨_, rfl⟩
      have hrb := tmod_lt u
      have hre := tmod_eq u
      rw [← hr] at hrb hre
      obtain ⟨hr0, hr1⟩ := hrb
      have et : u.tmod 65536 = r := hr.symm
      clear hr
      obtain ⟨x, hx⟩ : ∃ x, x = u % 256 := ⟨_, rfl⟩
      obtain ⟨y, hy⟩ : ∃ y, y = u / 256 % 256 := ⟨_, rfl⟩
      have hst := str2
      have hsz : (strOfNums (octL 3 (us.take q))).size ≤ 2000 := by
        rw [strOfNums_size]
        have := octL_le 3 (us.take q)
        rw [List.length_take] at this
        omega
      have hcat : ¬ 9223372036854775807 < (strOfNums (octL 3 (us.take q))).size + (strOfNums [y, x]).size := by rw [strOfNums_size [y, x]]; simp; omega
      clear hsz
      by_cases hneg : r < 0
      · rw [if_pos hneg] at hre
        have hz0 : 0 ≤ r + 65536 := by omega
        have hz1 : r + 65536 < 65536 := by omega
        have ex : (r + 65536) % 256 = x := by omega
        have ey : (r + 65536) / 256 = y := by omega
        have wx : IntKind.u8.wrap x = x := by rw [IntKind.wrap_u8]; omega
        have wy : IntKind.u8.wrap y = y := by rw [IntKind.wrap_u8]; omega
        have wz : IntKind.i64.wrap (r + 65536) = r + 65536 := by rw [IntKind.wrap_i64]; omega
        have HX := Lib.hid hx; clear hx
        have HY := Lib.hid hy; clear hy
        have HRE := Lib.hid hre; clear hre
        go_wp2
        refine ⟨⟨q + 1, by omega, by go_num, ?_, hb.alloc hb.size _⟩, by simp [intOf]; omega⟩
        rw [show us.take (q + 1) = us.take q ++ [u] by rw [List.take_succ_eq_append_getElem (by have := HLL.out; omega), HU.out]; simp [List.getD, show q < us.length by have := HLL.out; omega], octL_append, octL_one, str_append]
        rw [HX.out, HY.out]
        rfl
      · rw [if_neg hneg] at hre
        have hz0 : 0 ≤ r := by omega
        have ex : r % 256 = x := by omega
        have ey : r / 256 = y := by omega
        have wx : IntKind.u8.wrap x = x := by rw [IntKind.wrap_u8]; omega
        have wy : IntKind.u8.wrap y = y := by rw [IntKind.wrap_u8]; omega
        have HX := Lib.hid hx; clear hx
        have HY := Lib.hid hy; clear hy
        have HRE := Lib.hid hre; clear hre
        go_wp2
        refine ⟨⟨q + 1, by omega, by go_num, ?_, hb.alloc hb.size _⟩, by simp [intOf]; omega⟩
        rw [show us.take (q + 1) = us.take q ++ [u] by rw [List.take_succ_eq_append_getElem (by have := HLL.out; omega), HU.out]; simp [List.getD, show q < us.length by have := HLL.out; omega], octL_append, octL_one, str_append]
        rw [HX.out, HY.out]
        rfl
    · obtain rfl : q = n := by omega
      have et : us.take q = us := List.take_of_length_le (by rw [HLL.out]; exact Nat.le_refl _)
      rw [et]
      go_wp2
      go_ret
      exact ⟨rfl, hb⟩

set_option maxHeartbeats 1000000 in
theorem roctetsNo (k : Int) (A : Option Addr) (n c : Nat) (us : List Int) (W : World) (h2 : k ≠ 2) (h3 : k ≠ 3) (hr : RowI .i64 W A n us) (hby : ∀ u ∈ us, -9223372036854775808 ≤ u ∧ u ≤ 9223372036854775807) (hn : n ≤ 1000) :
    Calls Tryd.prog 23 #[.int .i64 k, .slice A n c] W fun e w' => e = .returned (.string (strOfNums (octL k us))) ∧ Below W.heap.size W w' := by
  have e2 : (k == 2) = false := by simpa using h2
  have e3 : (k == 3) = false := by simpa using h3
  have hno : ∀ us, octL k us = [] := fun us => octL_no (fun h => h.elim h2 h3) us
  have HNO := Lib.hid hno; clear hno
  clear h2 h3
  have hll := hr.1
  have HR := Lib.hid hr; clear hr
  have HB := Lib.hid hby; clear hby
  have HLL := Lib.hid hll; clear hll
  go_enter Tryd.func23, Tryd.ntmps23
  go_wp2_with fail
  go_loopw [5, 6] (fun vs vi wr => ∃ (q : Nat), q ≤ n ∧ vi = .int .i64 (q : Int) ∧ vs = .string (strOfNums (octL k (us.take q))) ∧ Below W.heap.size W wr) (fun _ vi _ => n - (intOf vi).toNat)
  case atStart => exact ⟨0, by omega, rfl, rfl, Below.refl _ _⟩
  case round =>
    obtain ⟨q, hq, rfl, rfl, hb⟩ := hrel
    by_cases hlt : q < n
    · have hrM := HR.out.below hb (Nat.le_refl _)
      obtain ⟨b, o, rfl, hbl, hc⟩ := hrM.2 (by omega)
      obtain ⟨u, hu⟩ : ∃ u, u = us.getD q 0 := ⟨_, rfl⟩
      have cu := hc q hlt
      rw [← hu] at cu
      have hum : u ∈ us := by rw [hu]; exact getD_mem (by have := HLL.out; omega)
      obtain ⟨hu0, hu1⟩ := HB.out u hum
      clear hum hrM hc
      have HU := Lib.hid hu; clear hu
      obtain ⟨r, hr⟩ : ∃ r, r = u.tmod 65536 := ⟨_, rfl⟩
      have hrb := tmod_lt u
      have hre := tmod_eq u
      rw [← hr] at hrb hre
      obtain ⟨hr0, hr1⟩ := hrb
      have et : u.tmod 65536 = r := hr.symm
      clear hr
      obtain ⟨x, hx⟩ : ∃ x, x = u % 256 := ⟨_, rfl⟩
      obtain ⟨y, hy⟩ : ∃ y, y = u / 256 % 256 := ⟨_, rfl⟩
      by_cases hneg : r < 0
      · rw [if_pos hneg] at hre
        have hz0 : 0 ≤ r + 65536 := by omega
        have hz1 : r + 65536 < 65536 := by omega
        have ex : (r + 65536) % 256 = x := by omega
        have ey : (r + 65536) / 256 = y := by omega
        have wx : IntKind.u8.wrap x = x := by rw [IntKind.wrap_u8]; omega
        have wy : IntKind.u8.wrap y = y := by rw [IntKind.wrap_u8]; omega
        have wz : IntKind.i64.wrap (r + 65536) = r + 65536 := by rw [IntKind.wrap_i64]; omega
        have HX := Lib.hid hx; clear hx
        have HY := Lib.hid hy; clear hy
        have HRE := Lib.hid hre; clear hre
        go_wp2
        refine ⟨⟨q + 1, by omega, by go_num, ?_, hb⟩, by simp [intOf]; omega⟩
        rw [HNO.out, HNO.out]
      · rw [if_neg hneg] at hre
        have hz0 : 0 ≤ r := by omega
        have ex : r % 256 = x := by omega
        have ey : r / 256 = y := by omega
        have wx : IntKind.u8.wrap x = x := by rw [IntKind.wrap_u8]; omega
        have wy : IntKind.u8.wrap y = y := by rw [IntKind.wrap_u8]; omega
        have HX := Lib.hid hx; clear hx
        have HY := Lib.hid hy; clear hy
        have HRE := Lib.hid hre; clear hre
        go_wp2
        refine ⟨⟨q + 1, by omega, by go_num, ?_, hb⟩, by simp [intOf]; omega⟩
        rw [HNO.out, HNO.out]
    · obtain rfl : q = n := by omega
      have et : us.take q = us := List.take_of_length_le (by rw [HLL.out]; exact Nat.le_refl _)
      rw [et]
      go_wp2
      go_ret
      exact ⟨rfl, hb⟩

theorem roctets_any (k : Int) (A : Option Addr) (n c : Nat) (us : List Int) (W : World) (hr : RowI .i64 W A n us) (hby : ∀ u ∈ us, -9223372036854775808 ≤ u ∧ u ≤ 9223372036854775807) (hn : n ≤ 1000) :
    Calls Tryd.prog 23 #[.int .i64 k, .slice A n c] W fun e w' => e = .returned (.string (strOfNums (octL k us))) ∧ Below W.heap.size W w' := by
  by_cases h2 : k = 2
  · subst h2
    exact roctets2 A n c us W hr hby hn
  · by_cases h3 : k = 3
    · subst h3
      exact roctets3 A n c us W hr hby hn
    · exact roctetsNo k A n c us W h2 h3 hr hby hn
end Go.Proofs.YtoojfjealncddaaDoor
