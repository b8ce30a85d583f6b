/- Units of package order. -/
import Derived.Test.YtoojfjealncddaaDoorPlaces
import Derived.Test.YtoojfjealncddaaDoorApp
import Derived.Deep.RegionHeldLaw
namespace Go.Proofs.YtoojfjealncddaaDoor
open Go Go.RowKit
set_option linter.unusedVariables false

/-- append in a region that draws, by what its run is known to give. -/
theorem step_append_run {P : Program} {ops : Array Oper} {o : Oper} {a : Act} {w : World} {K : Act → World → Prop} {Q : Exit → Act → World → Prop} {E : Prop} (hgd : o.guard = none) (s x : Operand) (t : TypeId)
    (ho : o.op = .call { callee := .builtin .append, args := #[s, x], argTypes := #[t, t] }) (hty : o.type = t)
    (v y v' : Value) (w' : World) (hs : a.eval s = v) (hx : a.eval x = y) (hrun : (Builtin.append_ #[t, t] t #[v, y]).run P w = .ok v' w')
    (hK : K (a.put o.dst v') w') : if Region.wanted o (yielded ops a.tmps) = true then Oper.wp P o a w K Q else E := by
  have hw : Region.wanted o (yielded ops a.tmps) = true := by simp [Region.wanted, hgd]
  rw [if_pos hw]
  subst hty
  unfold Oper.wp
  simp [execOp, ho, resolve, invoke, builtin, hs, hx, hrun, Result.andThen]
  exact hK
theorem getD_mem {l : List Int} {k : Nat} (h : k < l.length) : l.getD k 0 ∈ l := by
  have : l.getD k 0 = l[k] := by simp [List.getD, h]
  rw [this]; exact List.getElem_mem _

set_option maxHeartbeats 1000000 in
theorem ounits2 (A : Option Addr) (n c : Nat) (l : List Int) (W : World) (hr : RowI .u8 W A n l) (hby : ∀ c ∈ l, 0 ≤ c ∧ c < 256) (hn : n ≤ 1000) :
    Calls Tryd.prog 36 #[.int .i64 2, .slice A n c] W fun e w' => ∃ A' c', e = .returned (.slice A' (l.length / 2) c') ∧ RowI .i64 w' A' (l.length / 2) (unitsAt 2 l (l.length / 2)) ∧ Below W.heap.size W w' := by
  have hp := fun w => places2 w
  have hll := hr.1
  have HP := Lib.hid hp; clear hp
  have HR := Lib.hid hr; clear hr
  have HB := Lib.hid hby; clear hby
  have HLL := Lib.hid hll; clear hll
  obtain ⟨i0, hi, hz0, hz1, hz2⟩ := info_parts info_int
  obtain ⟨w1, hmk, hown0, hgrow0⟩ := run_make_own (P := Tryd.prog) ((W.alloc (.cells #[.int .i64 0, .int .i64 8] 65)).alloc (.cells #[.int .i64 0, .int .i64 8] 65)) (W.heap.size + 2) 27 3 i0 (.int .i64 0) 1 Tryd.underlying27 hi hz0 hz1 .i64 .i64 (n / 2) (by rw [hz2]; omega) (by unfold maxLen; omega) (by simp)
  rw [show ((n / 2 : Nat) : Int) = (n : Int) / 2 by omega] at hmk
  obtain ⟨v0, hv0⟩ : ∃ v, v = (Value.slice (some ⟨((W.alloc (.cells #[.int .i64 0, .int .i64 8] 65)).alloc (.cells #[.int .i64 0, .int .i64 8] 65)).heap.size, 0, none⟩) 0 (n / 2)) := ⟨_, rfl⟩
  rw [← hv0] at hmk hown0
  clear hv0
  have hbW : Below W.heap.size W ((W.alloc (.cells #[.int .i64 0, .int .i64 8] 65)).alloc (.cells #[.int .i64 0, .int .i64 8] 65)) := by go_grown
  have hat : ((W.alloc (.cells #[.int .i64 0, .int .i64 8] 65)).alloc (.cells #[.int .i64 0, .int .i64 8] 65)).heap[W.heap.size + 1]? = some (.cells #[.int .i64 0, .int .i64 8] 65) := at_new _ _ (by simp)
  have hsz : ((W.alloc (.cells #[.int .i64 0, .int .i64 8] 65)).alloc (.cells #[.int .i64 0, .int .i64 8] 65)).heap.size = W.heap.size + 2 := by simp
  obtain ⟨wM, hwM⟩ : ∃ w, w = ((W.alloc (.cells #[.int .i64 0, .int .i64 8] 65)).alloc (.cells #[.int .i64 0, .int .i64 8] 65)) := ⟨_, rfl⟩
  rw [← hwM] at hbW hat hsz hgrow0
  have hb0 : Below (W.heap.size + 2) wM w1 := (Below.refl _ _).grown hgrow0 (by omega) (by intro k hk; simp at hk)
  have HWM := Lib.hid hwM
  clear hwM hgrow0
  go_enter Tryd.func36, Tryd.ntmps36
  go_wp2_with fail
  refine (HP.out _).mono ?_; rintro e w' ⟨rfl, rfl⟩
  go_wp2_with fail
  go_loopw [7, 8] (fun vu vi wr => ∃ (q j : Nat) (v : Value), q ≤ n ∧ Hid (q = 2 * j) ∧ vi = .int .i64 ((q : Int) + 1) ∧ v = vu ∧ wr.ownsRow (W.heap.size + 2) 3 1 v j ((unitsAt 2 l j).map (Value.int .i64)) ∧ Below (W.heap.size + 2) wM wr) (fun _ vi _ => n + 1 - (intOf vi).toNat)
  case atStart => exact ⟨0, 0, _, by omega, Lib.hid rfl, rfl, rfl, hown0, hb0⟩
  case round =>
    obtain ⟨q, j, v, hq, HQ, rfl, rfl, hown, hb⟩ := hrel
    have hj : j ≤ 500 := by have := HQ.out; omega
    by_cases hlt : q + 1 < n
    · obtain ⟨b, o, rfl, hbl, hc⟩ := HR.out.2 (by omega)
      obtain ⟨x, hx⟩ : ∃ x, x = l.getD q 0 := ⟨_, rfl⟩
      obtain ⟨y, hy⟩ : ∃ y, y = l.getD (q + 1) 0 := ⟨_, rfl⟩
      have hcells : ∀ w', Below (W.heap.size + 2) wM w' → w'.cell? ⟨b, o + q, none⟩ = some (.int .u8 x) ∧ w'.cell? ⟨b, o + (q + 1), none⟩ = some (.int .u8 y) ∧ w'.cell? ⟨W.heap.size + 1, 0, none⟩ = some (.int .i64 0) ∧ w'.cell? ⟨W.heap.size + 1, 1, none⟩ = some (.int .i64 8) := by
        intro w' hb'
        have hrM := HR.out.below (hbW.trans (Below.mono hb' (by omega))) (Nat.le_refl _)
        obtain ⟨b', o', hA', hbl', hc'⟩ := hrM.2 (by omega)
        injection hA' with hA'
        injection hA' with hb1 ho1
        subst hb1 ho1
        refine ⟨by rw [hc' q (by omega), hx], by rw [hc' (q + 1) (by omega), hy], ?_, ?_⟩
        · rw [hb'.cell (p := ⟨W.heap.size + 1, 0, none⟩) (by simp), cell_of_row _ _ 0 _ _ _ hat]; rfl
        · rw [hb'.cell (p := ⟨W.heap.size + 1, 1, none⟩) (by simp), cell_of_row _ _ 1 _ _ _ hat]; rfl
      have hxm : x ∈ l := by rw [hx]; exact getD_mem (by have := HLL.out; omega)
      have hym : y ∈ l := by rw [hy]; exact getD_mem (by have := HLL.out; omega)
      obtain ⟨hx0, hx1⟩ := HB.out x hxm
      obtain ⟨hy0, hy1⟩ := HB.out y hym
      clear hxm hym
      have HX := Lib.hid hx; clear hx
      have HY := Lib.hid hy; clear hy
      obtain ⟨ca, cb, c0, c8⟩ := hcells wr hb
      have k1 : (q : Int) < (n : Int) := by omega
      have k2 : (q : Int) + 1 < (n : Int) := by omega
      have k3 : (0 : Int) ≤ (q : Int) + 1 := by omega
      have k4 : (0 : Int) ≤ (q : Int) := by omega
      have k5 : IntKind.i64.wrap (q : Int) = q := by rw [IntKind.wrap_i64]; omega
      have wx : IntKind.i64.wrap x = x := by rw [IntKind.wrap_i64]; omega
      have wy : IntKind.i64.wrap y = y := by rw [IntKind.wrap_i64]; omega
      have wy2 : IntKind.i64.wrap (y * 256) = y * 256 := by rw [IntKind.wrap_i64]; omega
      obtain ⟨u, hu⟩ : ∃ u, u = x + 256 * y := ⟨_, rfl⟩
      have eor : bits .or .i64 x (y * 256) = u := by
        rw [bits_or_comm, bits_join .i64 62 (by decide) wraps_i64 8 (y * 256) x (by omega) (by omega) (by omega) hx0 (by omega) (by omega), hu]; omega
      have HU := Lib.hid hu; clear hu
      obtain ⟨v', w2, happ, hown2, hgrow2⟩ := app_run .i64 27 3 8 Tryd.underlying27 info_int ((wr.alloc (.cells #[.int .i64 u] 3)).drew) (W.heap.size + 2) v j (unitsAt 2 l j) ((hown.alloc _).drew)
        (some ⟨wr.heap.size, 0, none⟩) 1 1 [u] ((RowI.new .i64 wr [u] 3).below ((Below.refl _ _).drew) (Nat.le_refl _)) (fun h => by cases h) (by omega) (by unfold maxLen; omega) (by have := hb.size; simp; omega)
      have hb2 : Below (W.heap.size + 2) wM w2 := ((hb.alloc (by have := hb.size; omega) _).drew).grown hgrow2 (by have := hb.size; simp; omega) (by intro k hk; exact (hown.lt k hk).1)
      have hS2 := hcells w2 hb2
      have HAPP := Lib.hid happ; clear happ
      have HOWN := Lib.hid hown2; clear hown2
      clear hc hgrow2 hcells hown
      go_wp2_with fail
      go_region_held_law (fun w' => w'.cell? ⟨b, o + q, none⟩ = some (.int .u8 x) ∧ w'.cell? ⟨b, o + (q + 1), none⟩ = some (.int .u8 y) ∧ w'.cell? ⟨W.heap.size + 1, 0, none⟩ = some (.int .i64 0) ∧ w'.cell? ⟨W.heap.size + 1, 1, none⟩ = some (.int .i64 8)) (first | exact hS2 | go_keep) (refine step_append_run rfl _ _ 27 rfl rfl _ _ _ _ rfl rfl HAPP.out ?_)
      go_wp2
      refine ⟨⟨q + 2, j + 1, _, by omega, Lib.hid (by have := HQ.out; omega), by go_num, rfl, ?_, hb2⟩, by simp [intOf]; omega⟩
      have e := HOWN.out
      rw [unitsAt_succ, ← HQ.out, ← HX.out, ← HY.out]
      rw [HU.out] at e
      exact e
    · obtain ⟨A', c', rfl, hri, _, _⟩ := row_of_own hown
      have ej : l.length / 2 = j := by have := HQ.out; have := HLL.out; omega
      go_wp2
      go_ret
      rw [ej]
      exact ⟨A', c', rfl, hri, hbW.trans (Below.mono hb (by omega))⟩

set_option maxHeartbeats 1000000 in
theorem ounits3 (A : Option Addr) (n c : Nat) (l : List Int) (W : World) (hr : RowI .u8 W A n l) (hby : ∀ c ∈ l, 0 ≤ c ∧ c < 256) (hn : n ≤ 1000) :
    Calls Tryd.prog 36 #[.int .i64 3, .slice A n c] W fun e w' => ∃ A' c', e = .returned (.slice A' (l.length / 2) c') ∧ RowI .i64 w' A' (l.length / 2) (unitsAt 3 l (l.length / 2)) ∧ Below W.heap.size W w' := by
  have hp := fun w => places3 w
  have hll := hr.1
  have HP := Lib.hid hp; clear hp
  have HR := Lib.hid hr; clear hr
  have HB := Lib.hid hby; clear hby
  have HLL := Lib.hid hll; clear hll
  obtain ⟨i0, hi, hz0, hz1, hz2⟩ := info_parts info_int
  obtain ⟨w1, hmk, hown0, hgrow0⟩ := run_make_own (P := Tryd.prog) ((W.alloc (.cells #[.int .i64 8, .int .i64 0] 65)).alloc (.cells #[.int .i64 8, .int .i64 0] 65)) (W.heap.size + 2) 27 3 i0 (.int .i64 0) 1 Tryd.underlying27 hi hz0 hz1 .i64 .i64 (n / 2) (by rw [hz2]; omega) (by unfold maxLen; omega) (by simp)
  rw [show ((n / 2 : Nat) : Int) = (n : Int) / 2 by omega] at hmk
  obtain ⟨v0, hv0⟩ : ∃ v, v = (Value.slice (some ⟨((W.alloc (.cells #[.int .i64 8, .int .i64 0] 65)).alloc (.cells #[.int .i64 8, .int .i64 0] 65)).heap.size, 0, none⟩) 0 (n / 2)) := ⟨_, rfl⟩
  rw [← hv0] at hmk hown0
  clear hv0
  have hbW : Below W.heap.size W ((W.alloc (.cells #[.int .i64 8, .int .i64 0] 65)).alloc (.cells #[.int .i64 8, .int .i64 0] 65)) := by go_grown
  have hat : ((W.alloc (.cells #[.int .i64 8, .int .i64 0] 65)).alloc (.cells #[.int .i64 8, .int .i64 0] 65)).heap[W.heap.size + 1]? = some (.cells #[.int .i64 8, .int .i64 0] 65) := at_new _ _ (by simp)
  have hsz : ((W.alloc (.cells #[.int .i64 8, .int .i64 0] 65)).alloc (.cells #[.int .i64 8, .int .i64 0] 65)).heap.size = W.heap.size + 2 := by simp
  obtain ⟨wM, hwM⟩ : ∃ w, w = ((W.alloc (.cells #[.int .i64 8, .int .i64 0] 65)).alloc (.cells #[.int .i64 8, .int .i64 0] 65)) := ⟨_, rfl⟩
  rw [← hwM] at hbW hat hsz hgrow0
  have hb0 : Below (W.heap.size + 2) wM w1 := (Below.refl _ _).grown hgrow0 (by omega) (by intro k hk; simp at hk)
  have HWM := Lib.hid hwM
  clear hwM hgrow0
  go_enter Tryd.func36, Tryd.ntmps36
  go_wp2_with fail
  refine (HP.out _).mono ?_; rintro e w' ⟨rfl, rfl⟩
  go_wp2_with fail
  go_loopw [7, 8] (fun vu vi wr => ∃ (q j : Nat) (v : Value), q ≤ n ∧ Hid (q = 2 * j) ∧ vi = .int .i64 ((q : Int) + 1) ∧ v = vu ∧ wr.ownsRow (W.heap.size + 2) 3 1 v j ((unitsAt 3 l j).map (Value.int .i64)) ∧ Below (W.heap.size + 2) wM wr) (fun _ vi _ => n + 1 - (intOf vi).toNat)
  case atStart => exact ⟨0, 0, _, by omega, Lib.hid rfl, rfl, rfl, hown0, hb0⟩
  case round =>
    obtain ⟨q, j, v, hq, HQ, rfl, rfl, hown, hb⟩ := hrel
    have hj : j ≤ 500 := by have := HQ.out; omega
    by_cases hlt : q + 1 < n
    · obtain ⟨b, o, rfl, hbl, hc⟩ := HR.out.2 (by omega)
      obtain ⟨x, hx⟩ : ∃ x, x = l.getD q 0 := ⟨_, rfl⟩
      obtain ⟨y, hy⟩ : ∃ y, y = l.getD (q + 1) 0 := ⟨_, rfl⟩
      have hcells : ∀ w', Below (W.heap.size + 2) wM w' → w'.cell? ⟨b, o + q, none⟩ = some (.int .u8 x) ∧ w'.cell? ⟨b, o + (q + 1), none⟩ = some (.int .u8 y) ∧ w'.cell? ⟨W.heap.size + 1, 0, none⟩ = some (.int .i64 8) ∧ w'.cell? ⟨W.heap.size + 1, 1, none⟩ = some (.int .i64 0) := by
        intro w' hb'
        have hrM := HR.out.below (hbW.trans (Below.mono hb' (by omega))) (Nat.le_refl _)
        obtain ⟨b', o', hA', hbl', hc'⟩ := hrM.2 (by omega)
        injection hA' with hA'
        injection hA' with hb1 ho1
        subst hb1 ho1
        refine ⟨by rw [hc' q (by omega), hx], by rw [hc' (q + 1) (by omega), hy], ?_, ?_⟩
        · rw [hb'.cell (p := ⟨W.heap.size + 1, 0, none⟩) (by simp), cell_of_row _ _ 0 _ _ _ hat]; rfl
        · rw [hb'.cell (p := ⟨W.heap.size + 1, 1, none⟩) (by simp), cell_of_row _ _ 1 _ _ _ hat]; rfl
      have hxm : x ∈ l := by rw [hx]; exact getD_mem (by have := HLL.out; omega)
      have hym : y ∈ l := by rw [hy]; exact getD_mem (by have := HLL.out; omega)
      obtain ⟨hx0, hx1⟩ := HB.out x hxm
      obtain ⟨hy0, hy1⟩ := HB.out y hym
      clear hxm hym
      have HX := Lib.hid hx; clear hx
      have HY := Lib.hid hy; clear hy
      obtain ⟨ca, cb, c0, c8⟩ := hcells wr hb
      have k1 : (q : Int) < (n : Int) := by omega
      have k2 : (q : Int) + 1 < (n : Int) := by omega
      have k3 : (0 : Int) ≤ (q : Int) + 1 := by omega
      have k4 : (0 : Int) ≤ (q : Int) := by omega
      have k5 : IntKind.i64.wrap (q : Int) = q := by rw [IntKind.wrap_i64]; omega
      have wx : IntKind.i64.wrap x = x := by rw [IntKind.wrap_i64]; omega
      have wy : IntKind.i64.wrap y = y := by rw [IntKind.wrap_i64]; omega
      have wy2 : IntKind.i64.wrap (x * 256) = x * 256 := by rw [IntKind.wrap_i64]; omega
      obtain ⟨u, hu⟩ : ∃ u, u = y + 256 * x := ⟨_, rfl⟩
      have eor : bits .or .i64 (x * 256) y = u := by
        rw [bits_join .i64 62 (by decide) wraps_i64 8 (x * 256) y (by omega) (by omega) (by omega) hy0 (by omega) (by omega), hu]; omega
      have HU := Lib.hid hu; clear hu
      obtain ⟨v', w2, happ, hown2, hgrow2⟩ := app_run .i64 27 3 8 Tryd.underlying27 info_int ((wr.alloc (.cells #[.int .i64 u] 3)).drew) (W.heap.size + 2) v j (unitsAt 3 l j) ((hown.alloc _).drew)
        (some ⟨wr.heap.size, 0, none⟩) 1 1 [u] ((RowI.new .i64 wr [u] 3).below ((Below.refl _ _).drew) (Nat.le_refl _)) (fun h => by cases h) (by omega) (by unfold maxLen; omega) (by have := hb.size; simp; omega)
      have hb2 : Below (W.heap.size + 2) wM w2 := ((hb.alloc (by have := hb.size; omega) _).drew).grown hgrow2 (by have := hb.size; simp; omega) (by intro k hk; exact (hown.lt k hk).1)
      have hS2 := hcells w2 hb2
      have HAPP := Lib.hid happ; clear happ
      have HOWN := Lib.hid hown2; clear hown2
      clear hc hgrow2 hcells hown
      go_wp2_with fail
      go_region_held_law (fun w' => w'.cell? ⟨b, o + q, none⟩ = some (.int .u8 x) ∧ w'.cell? ⟨b, o + (q + 1), none⟩ = some (.int .u8 y) ∧ w'.cell? ⟨W.heap.size + 1, 0, none⟩ = some (.int .i64 8) ∧ w'.cell? ⟨W.heap.size + 1, 1, none⟩ = some (.int .i64 0)) (first | exact hS2 | go_keep) (refine step_append_run rfl _ _ 27 rfl rfl _ _ _ _ rfl rfl HAPP.out ?_)
      go_wp2
      refine ⟨⟨q + 2, j + 1, _, by omega, Lib.hid (by have := HQ.out; omega), by go_num, rfl, ?_, hb2⟩, by simp [intOf]; omega⟩
      have e := HOWN.out
      rw [unitsAt_succ, ← HQ.out, ← HX.out, ← HY.out]
      rw [HU.out] at e
      exact e
    · obtain ⟨A', c', rfl, hri, _, _⟩ := row_of_own hown
      have ej : l.length / 2 = j := by have := HQ.out; have := HLL.out; omega
      go_wp2
      go_ret
      rw [ej]
      exact ⟨A', c', rfl, hri, hbW.trans (Below.mono hb (by omega))⟩

theorem ounitsNo (k : Int) (A : Option Addr) (n c : Nat) (W : World) (h2 : k ≠ 2) (h3 : k ≠ 3) :
    Calls Tryd.prog 36 #[.int .i64 k, .slice A n c] W fun e w' => e = .returned (.slice none 0 0) ∧ Below W.heap.size W w' := by
  have hp := fun w => placesNo k w h2 h3
  have HP := Lib.hid hp; clear hp
  clear h2 h3
  go_enter Tryd.func36, Tryd.ntmps36
  go_wp2_with fail
  refine (HP.out _).mono ?_; rintro e w' ⟨rfl, rfl⟩
  go_wp2_with fail
  go_ret
  exact ⟨rfl, by go_grown⟩

theorem ounits_any (k : Int) (A : Option Addr) (n c : Nat) (l : List Int) (W : World) (hr : RowI .u8 W A n l) (hby : ∀ c ∈ l, 0 ≤ c ∧ c < 256) (hn : n ≤ 1000) :
    Calls Tryd.prog 36 #[.int .i64 k, .slice A n c] W fun e w' => ∃ A' c', e = .returned (.slice A' (unitsL k l).length c') ∧ RowI .i64 w' A' (unitsL k l).length (unitsL k l) ∧ Below W.heap.size W w' := by
  by_cases h2 : k = 2
  · subst h2
    rw [unitsL_is (.inl rfl), unitsAt_length]
    exact ounits2 A n c l W hr hby hn
  · by_cases h3 : k = 3
    · subst h3
      rw [unitsL_is (.inr rfl), unitsAt_length]
      exact ounits3 A n c l W hr hby hn
    · rw [unitsL_no (fun h => h.elim h2 h3)]
      exact (ounitsNo k A n c W h2 h3).mono fun e w' ⟨he, hb⟩ => ⟨none, 0, he, RowI.nil_, hb⟩
end Go.Proofs.YtoojfjealncddaaDoor
