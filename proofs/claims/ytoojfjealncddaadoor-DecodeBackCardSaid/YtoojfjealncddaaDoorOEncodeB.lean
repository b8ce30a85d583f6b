/- Encode of package order. -/
import Derived.Test.YtoojfjealncddaaDoorOEncode
namespace Go.Proofs.YtoojfjealncddaaDoor
open Go Go.RowKit
set_option linter.unusedVariables false

/-- What Put hands back, as a row. -/
theorem putRow (r : Int) (w : World) : Calls Tryd.prog 30 #[.int .i64 r] w fun e w' => ∃ A' c', e = .returned (.slice A' (putI (sndI r)).length c') ∧ RowI .u8 w' A' (putI (sndI r)).length (putI (sndI r)) ∧ (putI (sndI r)).length ≤ c' ∧ c' ≤ maxLen ∧ (A' = none → (putI (sndI r)).length = 0 ∧ c' = 0) ∧ Below w.heap.size w w' :=
  (put_any r w).mono fun e w' ⟨he, hw⟩ => ⟨_, putN r, he, by rw [hw]; exact RowI.new _ _ _ _, Nat.le_refl _, by have := (putI_len4 (sndI r)).2; unfold putN maxLen; omega, (fun h => by cases h), by rw [hw]; exact (Below.refl _ _).alloc (Nat.le_refl _) _⟩

set_option maxHeartbeats 1000000 in
theorem oencode0 (A : Option Addr) (n c : Nat) (rs : List Int) (W : World) (hr : RowI .i64 W A n rs) (hn : n ≤ 400) :
    Calls Tryd.prog 43 #[.int .i64 0, .slice A n c] W fun e w' => ∃ A' c', e = .returned (.slice A' (encL 0 rs).length c') ∧ RowI .u8 w' A' (encL 0 rs).length (encL 0 rs) ∧ Below W.heap.size W w' ∧ (encL 0 rs).length ≤ c' := by
  have hll := hr.1
  have HR := Lib.hid hr; clear hr
  have HLL := Lib.hid hll; clear hll
  have hbW : Below W.heap.size W (W.alloc (.cells #[.int .i64 0] 3)) := by go_grown
  have hbox0 : (W.alloc (.cells #[.int .i64 0] 3)).cell? ⟨W.heap.size, 0, none⟩ = some (.int .i64 0) := by simp
  have hsz : (W.alloc (.cells #[.int .i64 0] 3)).heap.size = W.heap.size + 1 := by simp
  obtain ⟨wM, hwM⟩ : ∃ w, w = W.alloc (.cells #[.int .i64 0] 3) := ⟨_, rfl⟩
  rw [← hwM] at hbW hbox0 hsz
  have HWM := Lib.hid hwM
  have hb0 : Below (W.heap.size + 1) wM wM := Below.refl _ _
  go_enter Tryd.func43, Tryd.ntmps43
  go_wp2_with fail
  rw [← hwM]
  clear hwM
  go_loopw [5, 19] (fun vb vi wr => ∃ (q m : Nat) (es : List Int) (v : Value), q ≤ n ∧ vi = .int .i64 (q : Int) ∧ Hid (es = encL 0 (rs.take q)) ∧ v = vb ∧ wr.ownsRow (W.heap.size + 1) 5 1 v m (es.map (Value.int .u8)) ∧ m ≤ 4 * q ∧ Below (W.heap.size + 1) wM wr) (fun _ vi _ => n - (intOf vi).toNat)
  case atStart => exact ⟨0, 0, [], _, by omega, rfl, Lib.hid rfl, rfl, World.ownsRow_nil _ _ _ _, by omega, hb0⟩
  case round =>
    obtain ⟨q, m, es, v, hq, rfl, HES, rfl, hown, hml, hb⟩ := hrel
    by_cases hlt : q < n
    · have hrM := HR.out.below (hbW.trans (Below.mono hb (by omega))) (Nat.le_refl _)
      obtain ⟨b, o, rfl, hbl, hc⟩ := hrM.2 (by omega)
      obtain ⟨u, hu⟩ : ∃ u, u = rs.getD q 0 := ⟨_, rfl⟩
      have cu := hc q hlt
      rw [← hu] at cu
      have hbox : wr.cell? ⟨W.heap.size, 0, none⟩ = some (.int .i64 0) := (hb.cell (p := ⟨W.heap.size, 0, none⟩) (by simp)).trans hbox0
      clear hrM hc
      have HU := Lib.hid hu; clear hu
      have hp := putRow u wr
      obtain ⟨p, hpe⟩ : ∃ p, p = putI (sndI u) := ⟨_, rfl⟩
      have hp4 : p.length ≤ 4 := by have := enc1_len 0 u; rw [enc1, if_pos (by decide)] at this; rw [hpe]; exact this
      rw [← hpe] at hp
      have HPE := Lib.hid hpe; clear hpe
      have HP := Lib.hid hp; clear hp
      clear hbox
      go_wp2_with fail
      refine HP.out.mono ?_; rintro e w3 ⟨A', c', rfl, q1, q2, q3, q4, q5⟩
      obtain ⟨v', w4, happ, hown4, hgrow4⟩ := app_run .u8 22 5 1 Tryd.underlying22 info_u8 w3 (W.heap.size + 1) v m es (own_below hown q5) A' p.length c' p q1 q4 (by omega) (by unfold maxLen; omega) (by have := hb.size; have := q5.size; omega)
      have hb3 : Below (W.heap.size + 1) wM w3 := hb.trans (Below.mono q5 (by have := hb.size; omega))
      have hb4 : Below (W.heap.size + 1) wM w4 := hb3.grown hgrow4 (by have := hb3.size; omega) (by intro k hk; exact (hown.lt k hk).1)
      have HAPP := Lib.hid happ; clear happ
      have HOWN := Lib.hid hown4; clear hown4
      clear hgrow4 hown q1 q2 q3 q4 q5 hb3
      go_wp2_with (at_builtin; refine wpList_append_run rfl _ _ 22 rfl rfl _ _ _ _ rfl rfl HAPP.out ?_)
      refine ⟨⟨q + 1, m + p.length, es ++ p, _, by omega, by go_num, Lib.hid ?_, rfl, HOWN.out, by omega, hb4⟩, by simp [intOf]; omega⟩
      rw [show rs.take (q + 1) = rs.take q ++ [u] by rw [List.take_succ_eq_append_getElem (by have := HLL.out; omega), HU.out]; simp [List.getD, show q < rs.length by have := HLL.out; omega], encL_append, encL_one, enc1, if_pos (by decide), HES.out, HPE.out]
    · obtain rfl : q = n := by omega
      have et : rs.take q = rs := List.take_of_length_le (by rw [HLL.out]; exact Nat.le_refl _)
      have hes := HES.out
      rw [et] at hes
      subst hes
      obtain ⟨A', c', rfl, hri, hq1, _⟩ := row_of_own hown
      have hm := hri.1
      go_wp2
      go_ret
      exact ⟨A', c', by rw [hm]; rfl, by rw [hm]; exact hri, hbW.trans (Below.mono hb (by omega)), by rw [hm]; exact hq1⟩

set_option maxHeartbeats 1000000 in
theorem oencode1 (A : Option Addr) (n c : Nat) (rs : List Int) (W : World) (hr : RowI .i64 W A n rs) (hn : n ≤ 400) :
    Calls Tryd.prog 43 #[.int .i64 1, .slice A n c] W fun e w' => ∃ A' c', e = .returned (.slice A' (encL 1 rs).length c') ∧ RowI .u8 w' A' (encL 1 rs).length (encL 1 rs) ∧ Below W.heap.size W w' ∧ (encL 1 rs).length ≤ c' := by
  have hll := hr.1
  have HR := Lib.hid hr; clear hr
  have HLL := Lib.hid hll; clear hll
  have hbW : Below W.heap.size W (W.alloc (.cells #[.int .i64 1] 3)) := by go_grown
  have hbox0 : (W.alloc (.cells #[.int .i64 1] 3)).cell? ⟨W.heap.size, 0, none⟩ = some (.int .i64 1) := by simp
  have hsz : (W.alloc (.cells #[.int .i64 1] 3)).heap.size = W.heap.size + 1 := by simp
  obtain ⟨wM, hwM⟩ : ∃ w, w = W.alloc (.cells #[.int .i64 1] 3) := ⟨_, rfl⟩
  rw [← hwM] at hbW hbox0 hsz
  have HWM := Lib.hid hwM
  have hb0 : Below (W.heap.size + 1) wM wM := Below.refl _ _
  go_enter Tryd.func43, Tryd.ntmps43
  go_wp2_with fail
  rw [← hwM]
  clear hwM
  go_loopw [5, 19] (fun vb vi wr => ∃ (q m : Nat) (es : List Int) (v : Value), q ≤ n ∧ vi = .int .i64 (q : Int) ∧ Hid (es = encL 1 (rs.take q)) ∧ v = vb ∧ wr.ownsRow (W.heap.size + 1) 5 1 v m (es.map (Value.int .u8)) ∧ m ≤ 4 * q ∧ Below (W.heap.size + 1) wM wr) (fun _ vi _ => n - (intOf vi).toNat)
  case atStart => exact ⟨0, 0, [], _, by omega, rfl, Lib.hid rfl, rfl, World.ownsRow_nil _ _ _ _, by omega, hb0⟩
  case round =>
    obtain ⟨q, m, es, v, hq, rfl, HES, rfl, hown, hml, hb⟩ := hrel
    by_cases hlt : q < n
    · have hrM := HR.out.below (hbW.trans (Below.mono hb (by omega))) (Nat.le_refl _)
      obtain ⟨b, o, rfl, hbl, hc⟩ := hrM.2 (by omega)
      obtain ⟨u, hu⟩ : ∃ u, u = rs.getD q 0 := ⟨_, rfl⟩
      have cu := hc q hlt
      rw [← hu] at cu
      have hbox : wr.cell? ⟨W.heap.size, 0, none⟩ = some (.int .i64 1) := (hb.cell (p := ⟨W.heap.size, 0, none⟩) (by simp)).trans hbox0
      clear hrM hc
      have HU := Lib.hid hu; clear hu
      have hp := putRow u wr
      obtain ⟨p, hpe⟩ : ∃ p, p = putI (sndI u) := ⟨_, rfl⟩
      have hp4 : p.length ≤ 4 := by have := enc1_len 1 u; rw [enc1, if_pos (by decide)] at this; rw [hpe]; exact this
      rw [← hpe] at hp
      have HPE := Lib.hid hpe; clear hpe
      have HP := Lib.hid hp; clear hp
      clear hbox
      go_wp2_with fail
      refine HP.out.mono ?_; rintro e w3 ⟨A', c', rfl, q1, q2, q3, q4, q5⟩
      obtain ⟨v', w4, happ, hown4, hgrow4⟩ := app_run .u8 22 5 1 Tryd.underlying22 info_u8 w3 (W.heap.size + 1) v m es (own_below hown q5) A' p.length c' p q1 q4 (by omega) (by unfold maxLen; omega) (by have := hb.size; have := q5.size; omega)
      have hb3 : Below (W.heap.size + 1) wM w3 := hb.trans (Below.mono q5 (by have := hb.size; omega))
      have hb4 : Below (W.heap.size + 1) wM w4 := hb3.grown hgrow4 (by have := hb3.size; omega) (by intro k hk; exact (hown.lt k hk).1)
      have HAPP := Lib.hid happ; clear happ
      have HOWN := Lib.hid hown4; clear hown4
      clear hgrow4 hown q1 q2 q3 q4 q5 hb3
      go_wp2_with (at_builtin; refine wpList_append_run rfl _ _ 22 rfl rfl _ _ _ _ rfl rfl HAPP.out ?_)
      refine ⟨⟨q + 1, m + p.length, es ++ p, _, by omega, by go_num, Lib.hid ?_, rfl, HOWN.out, by omega, hb4⟩, by simp [intOf]; omega⟩
      rw [show rs.take (q + 1) = rs.take q ++ [u] by rw [List.take_succ_eq_append_getElem (by have := HLL.out; omega), HU.out]; simp [List.getD, show q < rs.length by have := HLL.out; omega], encL_append, encL_one, enc1, if_pos (by decide), HES.out, HPE.out]
    · obtain rfl : q = n := by omega
      have et : rs.take q = rs := List.take_of_length_le (by rw [HLL.out]; exact Nat.le_refl _)
      have hes := HES.out
      rw [et] at hes
      subst hes
      obtain ⟨A', c', rfl, hri, hq1, _⟩ := row_of_own hown
      have hm := hri.1
      go_wp2
      go_ret
      exact ⟨A', c', by rw [hm]; rfl, by rw [hm]; exact hri, hbW.trans (Below.mono hb (by omega)), by rw [hm]; exact hq1⟩

set_option maxHeartbeats 1000000 in
theorem oencode2 (A : Option Addr) (n c : Nat) (rs : List Int) (W : World) (hr : RowI .i64 W A n rs) (hn : n ≤ 400) :
    Calls Tryd.prog 43 #[.int .i64 2, .slice A n c] W fun e w' => ∃ A' c', e = .returned (.slice A' (encL 2 rs).length c') ∧ RowI .u8 w' A' (encL 2 rs).length (encL 2 rs) ∧ Below W.heap.size W w' ∧ (encL 2 rs).length ≤ c' := by
  have hll := hr.1
  have HR := Lib.hid hr; clear hr
  have HLL := Lib.hid hll; clear hll
  have hbW : Below W.heap.size W (W.alloc (.cells #[.int .i64 2] 3)) := by go_grown
  have hbox0 : (W.alloc (.cells #[.int .i64 2] 3)).cell? ⟨W.heap.size, 0, none⟩ = some (.int .i64 2) := by simp
  have hsz : (W.alloc (.cells #[.int .i64 2] 3)).heap.size = W.heap.size + 1 := by simp
  obtain ⟨wM, hwM⟩ : ∃ w, w = W.alloc (.cells #[.int .i64 2] 3) := ⟨_, rfl⟩
  rw [← hwM] at hbW hbox0 hsz
  have HWM := Lib.hid hwM
  have hb0 : Below (W.heap.size + 1) wM wM := Below.refl _ _
  go_enter Tryd.func43, Tryd.ntmps43
  go_wp2_with fail
  rw [← hwM]
  clear hwM
  go_loopw [5, 19] (fun vb vi wr => ∃ (q m : Nat) (es : List Int) (v : Value), q ≤ n ∧ vi = .int .i64 (q : Int) ∧ Hid (es = encL 2 (rs.take q)) ∧ v = vb ∧ wr.ownsRow (W.heap.size + 1) 5 1 v m (es.map (Value.int .u8)) ∧ m ≤ 4 * q ∧ Below (W.heap.size + 1) wM wr) (fun _ vi _ => n - (intOf vi).toNat)
  case atStart => exact ⟨0, 0, [], _, by omega, rfl, Lib.hid rfl, rfl, World.ownsRow_nil _ _ _ _, by omega, hb0⟩
  case round =>
    obtain ⟨q, m, es, v, hq, rfl, HES, rfl, hown, hml, hb⟩ := hrel
    by_cases hlt : q < n
    · have hrM := HR.out.below (hbW.trans (Below.mono hb (by omega))) (Nat.le_refl _)
      obtain ⟨b, o, rfl, hbl, hc⟩ := hrM.2 (by omega)
      obtain ⟨u, hu⟩ : ∃ u, u = rs.getD q 0 := ⟨_, rfl⟩
      have cu := hc q hlt
      rw [← hu] at cu
      have hbox : wr.cell? ⟨W.heap.size, 0, none⟩ = some (.int .i64 2) := (hb.cell (p := ⟨W.heap.size, 0, none⟩) (by simp)).trans hbox0
      clear hrM hc
      have HU := Lib.hid hu; clear hu
      have hp := eput 2 u W.heap.size wr hbox
      obtain ⟨p, hpe⟩ : ∃ p, p = octL 2 (unitsI (sndI u)) := ⟨_, rfl⟩
      have hp4 : p.length ≤ 4 := by have := enc1_len 2 u; rw [enc1, if_neg (by decide)] at this; rw [hpe]; exact this
      rw [← hpe] at hp
      have HPE := Lib.hid hpe; clear hpe
      have HP := Lib.hid hp; clear hp
      clear hbox
      go_wp2_with fail
      refine HP.out.mono ?_; rintro e w3 ⟨A', c', rfl, q1, q2, q3, q4, q5⟩
      obtain ⟨v', w4, happ, hown4, hgrow4⟩ := app_run .u8 22 5 1 Tryd.underlying22 info_u8 w3 (W.heap.size + 1) v m es (own_below hown q5) A' p.length c' p q1 q4 (by omega) (by unfold maxLen; omega) (by have := hb.size; have := q5.size; omega)
      have hb3 : Below (W.heap.size + 1) wM w3 := hb.trans (Below.mono q5 (by have := hb.size; omega))
      have hb4 : Below (W.heap.size + 1) wM w4 := hb3.grown hgrow4 (by have := hb3.size; omega) (by intro k hk; exact (hown.lt k hk).1)
      have HAPP := Lib.hid happ; clear happ
      have HOWN := Lib.hid hown4; clear hown4
      clear hgrow4 hown q1 q2 q3 q4 q5 hb3
      go_wp2_with (at_builtin; refine wpList_append_run rfl _ _ 22 rfl rfl _ _ _ _ rfl rfl HAPP.out ?_)
      refine ⟨⟨q + 1, m + p.length, es ++ p, _, by omega, by go_num, Lib.hid ?_, rfl, HOWN.out, by omega, hb4⟩, by simp [intOf]; omega⟩
      rw [show rs.take (q + 1) = rs.take q ++ [u] by rw [List.take_succ_eq_append_getElem (by have := HLL.out; omega), HU.out]; simp [List.getD, show q < rs.length by have := HLL.out; omega], encL_append, encL_one, enc1, if_neg (by decide), HES.out, HPE.out]
    · obtain rfl : q = n := by omega
      have et : rs.take q = rs := List.take_of_length_le (by rw [HLL.out]; exact Nat.le_refl _)
      have hes := HES.out
      rw [et] at hes
      subst hes
      obtain ⟨A', c', rfl, hri, hq1, _⟩ := row_of_own hown
      have hm := hri.1
      go_wp2
      go_ret
      exact ⟨A', c', by rw [hm]; rfl, by rw [hm]; exact hri, hbW.trans (Below.mono hb (by omega)), by rw [hm]; exact hq1⟩

set_option maxHeartbeats 1000000 in
theorem oencode3 (A : Option Addr) (n c : Nat) (rs : List Int) (W : World) (hr : RowI .i64 W A n rs) (hn : n ≤ 400) :
    Calls Tryd.prog 43 #[.int .i64 3, .slice A n c] W fun e w' => ∃ A' c', e = .returned (.slice A' (encL 3 rs).length c') ∧ RowI .u8 w' A' (encL 3 rs).length (encL 3 rs) ∧ Below W.heap.size W w' ∧ (encL 3 rs).length ≤ c' := by
  have hll := hr.1
  have HR := Lib.hid hr; clear hr
  have HLL := Lib.hid hll; clear hll
  have hbW : Below W.heap.size W (W.alloc (.cells #[.int .i64 3] 3)) := by go_grown
  have hbox0 : (W.alloc (.cells #[.int .i64 3] 3)).cell? ⟨W.heap.size, 0, none⟩ = some (.int .i64 3) := by simp
  have hsz : (W.alloc (.cells #[.int .i64 3] 3)).heap.size = W.heap.size + 1 := by simp
  obtain ⟨wM, hwM⟩ : ∃ w, w = W.alloc (.cells #[.int .i64 3] 3) := ⟨_, rfl⟩
  rw [← hwM] at hbW hbox0 hsz
  have HWM := Lib.hid hwM
  have hb0 : Below (W.heap.size + 1) wM wM := Below.refl _ _
  go_enter Tryd.func43, Tryd.ntmps43
  go_wp2_with fail
  rw [← hwM]
  clear hwM
  go_loopw [5, 19] (fun vb vi wr => ∃ (q m : Nat) (es : List Int) (v : Value), q ≤ n ∧ vi = .int .i64 (q : Int) ∧ Hid (es = encL 3 (rs.take q)) ∧ v = vb ∧ wr.ownsRow (W.heap.size + 1) 5 1 v m (es.map (Value.int .u8)) ∧ m ≤ 4 * q ∧ Below (W.heap.size + 1) wM wr) (fun _ vi _ => n - (intOf vi).toNat)
  case atStart => exact ⟨0, 0, [], _, by omega, rfl, Lib.hid rfl, rfl, World.ownsRow_nil _ _ _ _, by omega, hb0⟩
  case round =>
    obtain ⟨q, m, es, v, hq, rfl, HES, rfl, hown, hml, hb⟩ := hrel
    by_cases hlt : q < n
    · have hrM := HR.out.below (hbW.trans (Below.mono hb (by omega))) (Nat.le_refl _)
      obtain ⟨b, o, rfl, hbl, hc⟩ := hrM.2 (by omega)
      obtain ⟨u, hu⟩ : ∃ u, u = rs.getD q 0 := ⟨_, rfl⟩
      have cu := hc q hlt
      rw [← hu] at cu
      have hbox : wr.cell? ⟨W.heap.size, 0, none⟩ = some (.int .i64 3) := (hb.cell (p := ⟨W.heap.size, 0, none⟩) (by simp)).trans hbox0
      clear hrM hc
      have HU := Lib.hid hu; clear hu
      have hp := eput 3 u W.heap.size wr hbox
      obtain ⟨p, hpe⟩ : ∃ p, p = octL 3 (unitsI (sndI u)) := ⟨_, rfl⟩
      have hp4 : p.length ≤ 4 := by have := enc1_len 3 u; rw [enc1, if_neg (by decide)] at this; rw [hpe]; exact this
      rw [← hpe] at hp
      have HPE := Lib.hid hpe; clear hpe
      have HP := Lib.hid hp; clear hp
      clear hbox
      go_wp2_with fail
      refine HP.out.mono ?_; rintro e w3 ⟨A', c', rfl, q1, q2, q3, q4, q5⟩
      obtain ⟨v', w4, happ, hown4, hgrow4⟩ := app_run .u8 22 5 1 Tryd.underlying22 info_u8 w3 (W.heap.size + 1) v m es (own_below hown q5) A' p.length c' p q1 q4 (by omega) (by unfold maxLen; omega) (by have := hb.size; have := q5.size; omega)
      have hb3 : Below (W.heap.size + 1) wM w3 := hb.trans (Below.mono q5 (by have := hb.size; omega))
      have hb4 : Below (W.heap.size + 1) wM w4 := hb3.grown hgrow4 (by have := hb3.size; omega) (by intro k hk; exact (hown.lt k hk).1)
      have HAPP := Lib.hid happ; clear happ
      have HOWN := Lib.hid hown4; clear hown4
      clear hgrow4 hown q1 q2 q3 q4 q5 hb3
      go_wp2_with (at_builtin; refine wpList_append_run rfl _ _ 22 rfl rfl _ _ _ _ rfl rfl HAPP.out ?_)
      refine ⟨⟨q + 1, m + p.length, es ++ p, _, by omega, by go_num, Lib.hid ?_, rfl, HOWN.out, by omega, hb4⟩, by simp [intOf]; omega⟩
      rw [show rs.take (q + 1) = rs.take q ++ [u] by rw [List.take_succ_eq_append_getElem (by have := HLL.out; omega), HU.out]; simp [List.getD, show q < rs.length by have := HLL.out; omega], encL_append, encL_one, enc1, if_neg (by decide), HES.out, HPE.out]
    · obtain rfl : q = n := by omega
      have et : rs.take q = rs := List.take_of_length_le (by rw [HLL.out]; exact Nat.le_refl _)
      have hes := HES.out
      rw [et] at hes
      subst hes
      obtain ⟨A', c', rfl, hri, hq1, _⟩ := row_of_own hown
      have hm := hri.1
      go_wp2
      go_ret
      exact ⟨A', c', by rw [hm]; rfl, by rw [hm]; exact hri, hbW.trans (Below.mono hb (by omega)), by rw [hm]; exact hq1⟩

theorem oencodeNo (k : Int) (A : Option Addr) (n c : Nat) (W : World) (h0 : k ≠ 0) (h1 : k ≠ 1) (h2 : k ≠ 2) (h3 : k ≠ 3) :
    Calls Tryd.prog 43 #[.int .i64 k, .slice A n c] W fun e w' => e = .returned (.slice none 0 0) ∧ Below W.heap.size W w' := by
  have e0 : (k == 0) = false := by simpa using h0
  have e1 : (k == 1) = false := by simpa using h1
  have e2 : (k == 2) = false := by simpa using h2
  have e3 : (k == 3) = false := by simpa using h3
  clear h0 h1 h2 h3
  go_enter Tryd.func43, Tryd.ntmps43
  go_wp2_with fail
  go_ret
  exact ⟨rfl, by go_grown⟩

theorem encL_no {k : Int} (h0 : k ≠ 0) (h1 : k ≠ 1) (h2 : k ≠ 2) (h3 : k ≠ 3) : ∀ rs, encL k rs = [] := by
  intro rs
  have : ∀ r, enc1 k r = [] := fun r => by rw [enc1, if_neg (fun h => h.elim h0 h1), octL_no (fun h => h.elim h2 h3)]
  simp [encL, this]

theorem oencode_cap (k : Int) (A : Option Addr) (n c : Nat) (rs : List Int) (W : World) (hr : RowI .i64 W A n rs) (hn : n ≤ 400) :
    Calls Tryd.prog 43 #[.int .i64 k, .slice A n c] W fun e w' => ∃ A' c', e = .returned (.slice A' (encL k rs).length c') ∧ RowI .u8 w' A' (encL k rs).length (encL k rs) ∧ Below W.heap.size W w' ∧ (encL k rs).length ≤ c' := by
  by_cases h0 : k = 0
  · subst h0; exact oencode0 A n c rs W hr hn
  · by_cases h1 : k = 1
    · subst h1; exact oencode1 A n c rs W hr hn
    · by_cases h2 : k = 2
      · subst h2; exact oencode2 A n c rs W hr hn
      · by_cases h3 : k = 3
        · subst h3; exact oencode3 A n c rs W hr hn
        · rw [encL_no h0 h1 h2 h3]
          exact (oencodeNo k A n c W h0 h1 h2 h3).mono fun e w' ⟨he, hb⟩ => ⟨none, 0, he, RowI.nil_, hb, Nat.le_refl _⟩
theorem oencode_any (k : Int) (A : Option Addr) (n c : Nat) (rs : List Int) (W : World) (hr : RowI .i64 W A n rs) (hn : n ≤ 400) :
    Calls Tryd.prog 43 #[.int .i64 k, .slice A n c] W fun e w' => ∃ A' c', e = .returned (.slice A' (encL k rs).length c') ∧ RowI .u8 w' A' (encL k rs).length (encL k rs) ∧ Below W.heap.size W w' :=
  (oencode_cap k A n c rs W hr hn).mono fun e w' ⟨A', c', he, h1, h2, _⟩ => ⟨A', c', he, h1, h2⟩
end Go.Proofs.YtoojfjealncddaaDoor
