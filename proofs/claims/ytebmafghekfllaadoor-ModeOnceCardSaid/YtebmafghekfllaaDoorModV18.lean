/- The records that wait: how many octets; one more. -/
import Derived.Test.YtebmafghekfllaaDoorModU18
namespace Go.Proofs.YtebmafghekfllaaDoor
open Go Go.RowKit
set_option linter.unusedVariables false
set_option maxRecDepth 20000
/-- A struct is stored, in a region that draws its order. -/
theorem step_store_mid {P : Program} {ops : Array Oper} {o : Oper} {a : Act} {w : World} {K : Act → World → Prop} {Q : Exit → Act → World → Prop} {E : Prop} (hgd : o.guard = none) (ty : TypeId) (x y : Operand) (ho : o.op = .store ty x y)
    (b off : Nat) (cells : Array Value) (hx : a.eval x = .pointer (some ⟨b, off, none⟩)) (hy : a.eval y = .agg cells) (ht : w.there b off cells.size) (hi : (P.info? ty).map (·.size) = some cells.size) (h1 : cells.all (·.oneCell') = true)
    (hK : K (a.put o.dst undef) (w.setCells b off cells.toList)) : if Region.wanted o (yielded ops a.tmps) = true then Oper.wp P o a w K Q else E := by
  have hw : Region.wanted o (yielded ops a.tmps) = true := by simp [Region.wanted, hgd]
  rw [if_pos hw]
  exact wp_store_mid ty x y ho b off cells hx hy ht hi h1 hK
section
variable {w w' : World} {g : Nat} {tv ev : Value} {rs : List Rw} {en ov : Bool}
theorem cell_heap {w w' : World} {g : Nat} (h : w'.heap[g]? = w.heap[g]?) (o : Nat) : w'.cell? ⟨g, o, none⟩ = w.cell? ⟨g, o, none⟩ := by unfold World.cell?; rw [h]
def rfl3 (rs : List Rw) : List Value := (rs.map Rw.rcs).flatten
theorem rfl3_wide (rs : List Rw) : Wide 3 (rs.map Rw.rcs) := fun x hx => by
  obtain ⟨y, _, rfl⟩ := List.mem_map.1 hx
  exact y.rwide
theorem rfl3_len (rs : List Rw) : (rfl3 rs).length = rs.length * 3 := by
  unfold rfl3
  rw [flat_len (rfl3_wide rs), List.length_map]
theorem rfl3_one (rs : List Rw) : ∀ u ∈ rfl3 rs, u.oneCell' = true := flat_one (rfl3_wide rs)
theorem rfl3_at {j i : Nat} {x : Rw} {v : Value} (hx : rs[j]? = some x) (hv : x.rcs[i]? = some v) : (rfl3 rs)[j * 3 + i]? = some v := flat_at (rfl3_wide rs) (by simp [hx]) hv
/-- And back: a cell of a flat row is a record's. -/
theorem rfl3_cell {k : Nat} {v : Value} (h : (rfl3 rs)[k]? = some v) : ∃ x, rs[k / 3]? = some x ∧ x.rcs[k % 3]? = some v := by
  have hk : k < rs.length * 3 := by rw [← rfl3_len]; exact (List.getElem?_eq_some_iff.1 h).1
  obtain ⟨x, hx⟩ : ∃ x, rs[k / 3]? = some x := ⟨_, List.getElem?_eq_getElem (by omega)⟩
  obtain ⟨u, hu⟩ : ∃ u, x.rcs[k % 3]? = some u := ⟨_, List.getElem?_eq_getElem (by rw [x.rwide.1]; omega)⟩
  have := rfl3_at hx hu
  rw [show k / 3 * 3 + k % 3 = k by omega, h] at this
  exact ⟨x, hx, by rw [hu]; exact this.symm⟩
/-- The first one goes: the others are moved ahead, and there is one less. -/
theorem TelM.shift {y : Rw} (h : TelM w g tv ev (y :: rs) en ov) {w5 : World} (hw : w5.heap[g]? = (w.setCells g 2 (rfl3 rs)).heap[g]?) :
    TelM (w5.setCell ⟨g, 50, none⟩ (.int .i64 (rs.length : Int))) g tv ev rs en ov ∧ w5.cell? ⟨g, 50, none⟩ = some (.int .i64 ((rs.length : Int) + 1)) ∧ w5.frozen? ⟨g, 50, none⟩ = false := by
  have hle := h.le
  rw [List.length_cons] at hle
  have hl := rfl3_len rs
  have hth : w.there g 2 (rfl3 rs).length := h.there (by omega)
  have hout : ∀ o, o < 2 ∨ 50 ≤ o → w5.cell? ⟨g, o, none⟩ = w.cell? ⟨g, o, none⟩ := fun o ho => by
    rw [cell_heap hw]
    exact World.cell?_setCells_out g (rfl3 rs) 2 w ⟨g, o, none⟩ (fun _ _ => by show o < 2 ∨ 2 + (rfl3 rs).length ≤ o; omega)
  have hset : ∀ o, o ≠ 50 → (w5.setCell ⟨g, 50, none⟩ (.int .i64 (rs.length : Int))).cell? ⟨g, o, none⟩ = w5.cell? ⟨g, o, none⟩ := fun o ho => World.cell?_setCell_other _ _ _ _ (by intro e; injection e with _ e; exact ho e.symm)
  obtain ⟨cs5, h51, h52, h53⟩ := hp_sets (g := g) (rfl3 rs) 2 w (rfl3_one rs) h.hp
  have hp5 : ∃ cs, w5.heap[g]? = some (.cells cs 56 (0, 0)) ∧ cs.size = 53 ∧ ∀ u ∈ cs.toList, u.oneCell' = true := ⟨cs5, hw.trans h51, h52, h53⟩
  refine ⟨⟨hp_set rfl hp5, (hset 0 (by decide)).trans ((hout 0 (by omega)).trans h.c0), (hset 1 (by decide)).trans ((hout 1 (by omega)).trans h.c1), fun j x hx i v hv => ?_, ?_, (hset 51 (by decide)).trans ((hout 51 (by omega)).trans h.ce), (hset 52 (by decide)).trans ((hout 52 (by omega)).trans h.co), by omega⟩, ?_⟩
  · have hj := (List.getElem?_eq_some_iff.1 hx).1
    have hi : i < 3 := (List.getElem?_eq_some_iff.1 hv).1
    rw [hset _ (by omega), cell_heap hw]
    exact World.rangeAt_setCells_same w g 2 _ hth (j * 3 + i) v (rfl3_at hx hv)
  · obtain ⟨cs, e1, e2, _⟩ := hp5
    rw [cell_of_row _ g 50 _ _ (0, 0) (heap_setCell_same w5 g 50 cs _ _ e1)]
    simp [e2]
  · obtain ⟨cs, e1, e2, _⟩ := hp5
    exact ⟨by rw [hout 50 (by omega), h.cm]; simp, by simp [World.frozen?, e1]⟩
/-- One more comes behind them. -/
theorem TelM.push (h : TelM w g tv ev rs en ov) (x : Rw) (hl : rs.length < 16) {w5 : World} (hw : w5.heap[g]? = (w.setCells g (2 + rs.length * 3) x.rcs).heap[g]?) :
    TelM (w5.setCell ⟨g, 50, none⟩ (.int .i64 ((rs.length : Int) + 1))) g tv ev (rs ++ [x]) en ov ∧ w5.cell? ⟨g, 50, none⟩ = some (.int .i64 (rs.length : Int)) ∧ w5.frozen? ⟨g, 50, none⟩ = false := by
  have hxl : x.rcs.length = 3 := rfl
  have hth : w.there g (2 + rs.length * 3) x.rcs.length := h.there (by omega)
  have hout : ∀ o, o < 2 + rs.length * 3 ∨ 50 ≤ o → w5.cell? ⟨g, o, none⟩ = w.cell? ⟨g, o, none⟩ := fun o ho => by
    rw [cell_heap hw]
    exact World.cell?_setCells_out g x.rcs (2 + rs.length * 3) w ⟨g, o, none⟩ (fun _ _ => by show o < 2 + rs.length * 3 ∨ 2 + rs.length * 3 + x.rcs.length ≤ o; omega)
  have hset : ∀ o, o ≠ 50 → (w5.setCell ⟨g, 50, none⟩ (.int .i64 ((rs.length : Int) + 1))).cell? ⟨g, o, none⟩ = w5.cell? ⟨g, o, none⟩ := fun o ho => World.cell?_setCell_other _ _ _ _ (by intro e; injection e with _ e; exact ho e.symm)
  obtain ⟨cs5, h51, h52, h53⟩ := hp_sets (g := g) x.rcs (2 + rs.length * 3) w x.rwide.2 h.hp
  have hp5 : ∃ cs, w5.heap[g]? = some (.cells cs 56 (0, 0)) ∧ cs.size = 53 ∧ ∀ u ∈ cs.toList, u.oneCell' = true := ⟨cs5, hw.trans h51, h52, h53⟩
  refine ⟨⟨hp_set rfl hp5, (hset 0 (by decide)).trans ((hout 0 (by omega)).trans h.c0), (hset 1 (by decide)).trans ((hout 1 (by omega)).trans h.c1), fun j y hy i v hv => ?_, ?_, (hset 51 (by decide)).trans ((hout 51 (by omega)).trans h.ce), (hset 52 (by decide)).trans ((hout 52 (by omega)).trans h.co), by simp; omega⟩, ?_⟩
  · have hi : i < 3 := (List.getElem?_eq_some_iff.1 hv).1
    have hj := (List.getElem?_eq_some_iff.1 hy).1
    rw [List.length_append, List.length_singleton] at hj
    rw [hset _ (by omega)]
    rcases Nat.lt_or_ge j rs.length with h1 | h1
    · rw [List.getElem?_append_left h1] at hy
      rw [hout _ (by omega)]
      exact h.cr j y hy i v hv
    · have e : j = rs.length := by omega
      subst e
      rw [List.getElem?_concat_length] at hy
      injection hy with hy
      subst hy
      rw [cell_heap hw, ← Nat.add_assoc]
      exact World.rangeAt_setCells_same w g (2 + rs.length * 3) _ hth i v hv
  · obtain ⟨cs, e1, e2, _⟩ := hp5
    rw [cell_of_row _ g 50 _ _ (0, 0) (heap_setCell_same w5 g 50 cs _ _ e1)]
    simp [e2]
  · obtain ⟨cs, e1, e2, _⟩ := hp5
    exact ⟨by rw [hout 50 (by omega), h.cm], by simp [World.frozen?, e1]⟩
set_option maxHeartbeats 4000000 in
theorem octets_any (h : TelM w g tv ev rs en ov) (hz : ∀ x ∈ rs, x.tx.size ≤ 60) :
    Calls Tryd.prog 25 #[.pointer (some ⟨g, 2, none⟩)] w fun e w' => e = .returned (.int .i64 (((rs.map fun x => x.tx.size).sum : Nat) : Int)) ∧ Below w.heap.size w w' := by
  have hle := h.le
  have hgl := h.lt
  have hct := fun (w' : World) => cut_h g 2 rs.length hle w'
  have cm := h.cm
  have HC := Lib.hid fun (w' : World) (hb : Below w.heap.size w w') (j : Nat) (x : Rw) (hx : rs[j]? = some x) => ((fun i v hv => (cell_heap (hb.block g hgl) _).trans (h.cr j x hx i v hv)) : ∀ i v, x.rcs[i]? = some v → w'.cell? ⟨g, 2 + (j * 3 + i), none⟩ = some v)
  have HZ := Lib.hid hz
  have hrc := rec_cells
  clear h hz hgl
  go_enter Tryd.func25, Tryd.ntmps25
  go_wp2_with fail
  go_quiet (fail)
  rename Nat => q1
  go_wp2_with fail
  go_loopw [3, 15] (fun vs vi wr => ∃ (i z : Nat), vs = .int .i64 (z : Int) ∧ vi = .int .i64 (i : Int) ∧ i ≤ rs.length ∧ z ≤ 60 * i ∧ Hid (z = ((rs.take i).map fun x => x.tx.size).sum ∧ Below w.heap.size w wr)) (fun _ vi _ => rs.length - (intOf vi).toNat)
  case atStart => exact ⟨0, 0, rfl, rfl, Nat.zero_le _, Nat.le_refl _, Lib.hid ⟨rfl, below_drewN (Below.refl _ _) q1⟩⟩
  case round =>
    obtain ⟨i, z, rfl, rfl, hi, hzi, HO⟩ := hrel
    by_cases hlt : i < rs.length
    · obtain ⟨x, hx⟩ : ∃ x, rs[i]? = some x := ⟨_, List.getElem?_eq_getElem hlt⟩
      have d0 := HC.out wr HO.out.2 i x hx 0 _ rfl
      have d1 := HC.out wr HO.out.2 i x hx 1 _ rfl
      have d2 := HC.out wr HO.out.2 i x hx 2 _ rfl
      have hx60 := HZ.out x (List.mem_of_getElem? hx)
      have HF : Hid (z + x.tx.size = ((rs.take (i + 1)).map fun x => x.tx.size).sum ∧ Below w.heap.size w (wr.alloc (.cells #[.int .i64 x.n, .int .i64 x.p, .string x.tx] 31))) := Lib.hid ⟨by
        obtain ⟨h1, h2⟩ := List.getElem?_eq_some_iff.1 hx
        rw [List.take_succ_eq_append_getElem h1, h2, List.map_append, List.sum_append, HO.out.1]
        simp, HO.out.2.alloc HO.out.2.size _⟩
      rw [Nat.add_zero] at d0
      rw [← Nat.add_assoc] at d1 d2
      clear hx HO
      go_wp2_with fail
      exact ⟨⟨i + 1, z + x.tx.size, by go_num, by go_num, by omega, by omega, HF⟩, by simp [intOf]; omega⟩
    · have hin : i = rs.length := by omega
      subst hin
      rw [List.take_length] at HO
      have HE := Lib.hid HO.out.1
      go_wp2_with fail
      go_ret
      exact ⟨by rw [← HE.out]; rfl, HO.out.2⟩
set_option maxHeartbeats 4000000 in
theorem put_no (x : Rw) (w : World) (g : Nat) :
    Calls Tryd.prog 34 #[.pointer (some ⟨g, 2, none⟩), .agg #[.int .i64 x.n, .int .i64 x.p, .string x.tx], .int .i64 0] w fun e w' => e = .returned (.tuple #[]) ∧ Below w.heap.size w w' := by
  have HB := Lib.hid ((Below.refl w.heap.size w).alloc (Nat.le_refl _) (.cells #[.int .i64 x.n, .int .i64 x.p, .string x.tx] 31))
  go_enter Tryd.func34, Tryd.ntmps34
  go_wp2_with fail
  refine bodyPost_ret (results_none rfl _ _ _) rfl ?_
  exact ⟨rfl, HB.out⟩
/-- The tail's memory: a record's box beside the teller. -/
structure PutM (w : World) (g gx : Nat) (x : Rw) (tv ev : Value) (rs : List Rw) (en ov : Bool) : Prop where
  tel : TelM w g tv ev rs en ov
  ne : gx ≠ g
  box : w.heap[gx]? = some (.cells #[.int .i64 x.n, .int .i64 x.p, .string x.tx] 31 (0, 0))
theorem PutM.below {gx : Nat} {x : Rw} (h : PutM w g gx x tv ev rs en ov) (hb : Below w.heap.size w w') : PutM w' g gx x tv ev rs en ov := ⟨h.tel.below hb, h.ne, (hb.block gx (Array.getElem?_eq_some_iff.1 h.box).1).trans h.box⟩
theorem PutM.set2 {gx : Nat} {x : Rw} (h : PutM w g gx x tv ev rs en ov) : PutM (w.setCell ⟨gx, 2, none⟩ (.string x.tx)) g gx x tv ev rs en ov := by
  refine ⟨h.tel.keep (heap_setCell_other _ _ _ _ (fun e => h.ne e.symm)), h.ne, ?_⟩
  rw [heap_setCell_same w gx 2 _ _ _ h.box]
  rfl
set_option maxHeartbeats 4000000 in
theorem put_more (h : TelM w g tv ev rs en ov) (x : Rw) (b : Nat) (hb0 : rs.length < b) (hb : b ≤ 16) (hz : x.tx.size ≤ 60) :
    Calls Tryd.prog 34 #[.pointer (some ⟨g, 2, none⟩), .agg #[.int .i64 x.n, .int .i64 x.p, .string x.tx], .int .i64 (b : Int)] w fun e w' => e = .returned (.tuple #[]) ∧ TelM w' g tv ev (rs ++ [x]) en ov ∧ Moved (fun q => q = g) w w' := by
  have hgl := h.lt
  have hP : PutM (w.alloc (.cells #[.int .i64 x.n, .int .i64 x.p, .string x.tx] 31)) g w.heap.size x tv ev rs en ov := ⟨h.below ((Below.refl _ _).alloc (Nat.le_refl _) _), by omega, heap_alloc_new _ _⟩
  have cm := hP.tel.cm
  have HCL := Lib.hid (sClone_any x.tx (w.alloc (.cells #[.int .i64 x.n, .int .i64 x.p, .string x.tx] 31)) (by omega))
  have HP := Lib.hid hP
  have hrc := rec_cells
  have hne : ¬ (b : Int) = 0 := by omega
  have hne2 : ¬ (rs.length : Int) = (b : Int) := by omega
  clear hP h
  go_enter Tryd.func34, Tryd.ntmps34
  go_wp2_with fail
  refine HCL.out.mono ?_; rintro e w1 ⟨rfl, hb1⟩
  have HP1 := Lib.hid (HP.out.below hb1)
  have HM1 : Hid (Moved (fun q => q = g) w w1) := Lib.hid (Moved.trans (F' := fun q => q = g) ⟨(Moved.refl _ w).alloc (.cells #[.int .i64 x.n, .int .i64 x.p, .string x.tx] 31), fun k h => .inl h⟩ (Moved.of_below hb1 _))
  have f1 : w1.frozen? ⟨w.heap.size, 2, none⟩ = false := by simp [World.frozen?, HP1.out.box]
  have e2 := cell_of_row w1 w.heap.size 2 _ _ (0, 0) HP1.out.box
  clear cm hb1
  obtain ⟨gx, hgx⟩ : ∃ gx, gx = w.heap.size := ⟨_, rfl⟩
  have HG := Lib.hid hgx
  obtain ⟨W2, hW2⟩ : ∃ W2, W2 = w1.setCell ⟨w.heap.size, 2, none⟩ (.string x.tx) := ⟨_, rfl⟩
  have h2 : PutM W2 g gx x tv ev rs en ov := by rw [hW2, hgx]; exact HP1.out.set2
  have HM2 : Hid (Moved (fun q => q = g) w W2) := Lib.hid (by rw [hW2]; exact HM1.out.setCell (.inr (Nat.le_refl _)) _)
  have HW2 := Lib.hid hW2
  clear hW2 hgx
  go_wp2_with fail
  rw [← HW2.out, ← HG.out]
  have cm : W2.drew.cell? ⟨g, 50, none⟩ = some (.int .i64 (rs.length : Int)) := h2.tel.cm
  have e0 : W2.drew.cell? ⟨gx, 0, none⟩ = some (.int .i64 x.n) := cell_of_row W2 gx 0 _ _ (0, 0) h2.box
  have e1 : W2.drew.cell? ⟨gx, 1, none⟩ = some (.int .i64 x.p) := cell_of_row W2 gx 1 _ _ (0, 0) h2.box
  have e2 : W2.drew.cell? ⟨gx, 2, none⟩ = some (.string x.tx) := cell_of_row W2 gx 2 _ _ (0, 0) h2.box
  have HT2 := Lib.hid h2.tel
  have HTD : Hid (TelM W2.drew g tv ev rs en ov) := Lib.hid (HT2.out.keep rfl)
  have hal := arr_len
  have hlt16 : (rs.length : Int) < 16 := by omega
  clear h2
  obtain ⟨u0, hu0⟩ := Option.isSome_iff_exists.1 (HTD.out.there (o := 2 + rs.length * 3) (n := 3) (by omega) 0 (by decide)).1
  obtain ⟨u1, hu1⟩ := Option.isSome_iff_exists.1 (HTD.out.there (o := 2 + rs.length * 3) (n := 3) (by omega) 1 (by decide)).1
  obtain ⟨u2, hu2⟩ := Option.isSome_iff_exists.1 (HTD.out.there (o := 2 + rs.length * 3) (n := 3) (by omega) 2 (by decide)).1
  rw [Nat.add_zero] at hu0
  have hf0 := (HTD.out.there (o := 2 + rs.length * 3) (n := 3) (by omega) 0 (by decide)).2
  have hf1 := (HTD.out.there (o := 2 + rs.length * 3) (n := 3) (by omega) 1 (by decide)).2
  have hf2 := (HTD.out.there (o := 2 + rs.length * 3) (n := 3) (by omega) 2 (by decide)).2
  rw [Nat.add_zero] at hf0
  have hu1' : W2.cell? ⟨g, 2 + rs.length * 3 + 1, none⟩ = some u1 := hu1
  have hu2' : W2.cell? ⟨g, 2 + rs.length * 3 + 2, none⟩ = some u2 := hu2
  have hf1' : W2.frozen? ⟨g, 2 + rs.length * 3 + 1, none⟩ = false := hf1
  have hf2' : W2.frozen? ⟨g, 2 + rs.length * 3 + 2, none⟩ = false := hf2
  go_region
  obtain ⟨W3, hW3⟩ : ∃ W3, W3 = (((W2.setCell ⟨g, 2 + rs.length * 3, none⟩ (.int .i64 x.n)).setCell ⟨g, 2 + rs.length * 3 + 1, none⟩ (.int .i64 x.p)).setCell ⟨g, 2 + rs.length * 3 + 2, none⟩ (.string x.tx)).drew := ⟨_, rfl⟩
  obtain ⟨p1, p2, p3⟩ := HT2.out.push (w5 := W3) x (by omega) (by rw [hW3]; rfl)
  have HM3 : Hid (Moved (fun q => q = g) w W3) := Lib.hid (by rw [hW3]; exact (((HM2.out.setCell (.inl rfl) _).setCell (.inl rfl) _).setCell (.inl rfl) _).drew)
  rw [← hW3]
  have HP3 := Lib.hid p1
  have hwr : IntKind.i64.wrap ((rs.length : Int) + 1) = (rs.length : Int) + 1 := by rw [IntKind.wrap_i64]; omega
  clear hu0 hu1 hu2 hf0 hf1 hf2 hu1' hu2' hf1' hf2' cm e0 e1 e2 p1 hW3
  go_wp2_with fail
  go_end0
  exact ⟨rfl, HP3.out, HM3.out.setCell (.inl rfl) _⟩
set_option maxHeartbeats 4000000 in
theorem put_full {y : Rw} (h : TelM w g tv ev (y :: rs) en ov) (x : Rw) (hz : x.tx.size ≤ 60) :
    Calls Tryd.prog 34 #[.pointer (some ⟨g, 2, none⟩), .agg #[.int .i64 x.n, .int .i64 x.p, .string x.tx], .int .i64 ((rs.length + 1 : Nat) : Int)] w fun e w' => e = .returned (.tuple #[]) ∧ TelM w' g tv ev (rs ++ [x]) en ov ∧ Moved (fun q => q = g) w w' := by
  have hgl := h.lt
  have hle := h.le
  rw [List.length_cons] at hle
  obtain ⟨b, hb⟩ : ∃ b, b = rs.length + 1 := ⟨_, rfl⟩
  obtain ⟨W0, hW0⟩ : ∃ W0, W0 = w.alloc (.cells #[.int .i64 x.n, .int .i64 x.p, .string x.tx] 31) := ⟨_, rfl⟩
  have hP : PutM W0 g w.heap.size x tv ev (y :: rs) en ov := by rw [hW0]; exact ⟨h.below ((Below.refl _ _).alloc (Nat.le_refl _) _), by omega, heap_alloc_new _ _⟩
  have cm : (w.alloc (.cells #[.int .i64 x.n, .int .i64 x.p, .string x.tx] 31)).cell? ⟨g, 50, none⟩ = some (.int .i64 (b : Int)) := by rw [← hW0, hP.tel.cm, hb]; rfl
  have HCL := Lib.hid fun (w' : World) => sClone_any x.tx w' (by omega)
  have HP0 := Lib.hid hP
  have HM0 : Hid (Moved (fun q => q = g) w W0) := Lib.hid (by rw [hW0]; exact (Moved.refl _ w).alloc _)
  have HW0 := Lib.hid hW0
  have hrc := rec_cells
  have hcp : (Builtin.copy_ #[68, 68] 3 #[.slice (some ⟨g, 2, none⟩) 16 16, .slice (some ⟨g, 5, none⟩) (b - 1) 15]).run Tryd.prog W0.drew = .ok (goInt rs.length) (W0.drew.setCells g 2 (rfl3 rs)) := by
    have hmin : Nat.min (b - 1) 16 = rs.length := by rw [hb, Nat.add_sub_cancel]; exact Nat.min_eq_left (by omega)
    have hq := run_copy_recs (P := Tryd.prog) W0.drew 68 68 3 31 g 2 16 16 ⟨g, 5, none⟩ (b - 1) 15 3 (rfl3 rs) Tryd.underlying68 info_rec (by rw [rfl3_len, hmin]) (fun j v hv => by
      obtain ⟨x', hx', hv'⟩ := rfl3_cell hv
      have h3 := hP.tel.cr (j / 3 + 1) x' (by rw [List.getElem?_cons_succ]; exact hx') (j % 3) v hv'
      rw [show 2 + ((j / 3 + 1) * 3 + j % 3) = 5 + j by omega] at h3
      rw [Addr.add_mid]
      exact h3) (by
        have h3 := (hP.tel.keep (w' := W0.drew) rfl).there (o := 2) (n := (rfl3 rs).length) (by rw [rfl3_len]; omega)
        exact h3) (rfl3_one rs)
    rw [hmin] at hq
    exact hq
  have hc1 := fun (w' : World) => cut_all g 2 w'
  have hc2 := fun (w' : World) => cut_from1 g 2 b (by omega) (by omega) w'
  have hne : ¬ (b : Int) = 0 := by omega
  have HBE := Lib.hid hb
  rw [← hb]
  clear hP h hW0 hb
  go_enter Tryd.func34, Tryd.ntmps34
  go_wp2_with fail
  rw [← HW0.out]
  clear cm
  go_region
  obtain ⟨WA, hWA⟩ : ∃ WA, WA = W0.drew.setCells g 2 (rfl3 rs) := ⟨_, rfl⟩
  obtain ⟨p1, p2, p3⟩ := (HP0.out.tel.keep (w' := W0.drew) rfl).shift (w5 := WA) (by rw [hWA])
  have HMA : Hid (Moved (fun q => q = g) w WA) := Lib.hid (by rw [hWA]; exact HM0.out.drew.grown (setCells_kept _ _ _ _).1 (fun k hk => .inl (by injection hk with hk; exact hk.symm)))
  have HBX : Hid (WA.heap[w.heap.size]? = some (.cells #[.int .i64 x.n, .int .i64 x.p, .string x.tx] 31 (0, 0))) := Lib.hid (by
    rw [hWA]
    exact ((setCells_kept g (rfl3 rs) 2 W0.drew).1.block w.heap.size (by exact (Array.getElem?_eq_some_iff.1 HP0.out.box).1) (by simp; omega)).trans HP0.out.box)
  rw [← hWA]
  have hwr : IntKind.i64.wrap ((rs.length : Int) + 1 - 1) = (rs.length : Int) := by rw [IntKind.wrap_i64]; omega
  have HPT := Lib.hid p1
  clear hWA hcp hc1 hc2 p1
  obtain ⟨W5, hW5⟩ : ∃ W5, W5 = WA.setCell ⟨g, 50, none⟩ (.int .i64 (rs.length : Int)) := ⟨_, rfl⟩
  have HP : Hid (PutM W5 g w.heap.size x tv ev rs en ov) := Lib.hid (by rw [hW5]; exact ⟨HPT.out, by omega, (heap_setCell_other _ _ _ _ (Nat.ne_of_gt hgl)).trans HBX.out⟩)
  have HM5 : Hid (Moved (fun q => q = g) w W5) := Lib.hid (by rw [hW5]; exact HMA.out.setCell (.inl rfl) _)
  have HW5 := Lib.hid hW5
  have e2 : (WA.setCell ⟨g, 50, none⟩ (.int .i64 (rs.length : Int))).cell? ⟨w.heap.size, 2, none⟩ = some (.string x.tx) := by rw [← HW5.out]; exact cell_of_row W5 _ 2 _ _ (0, 0) HP.out.box
  clear hW5
  simp only [Exit.then]
  go_wp2_with fail
  rw [← HW5.out]
  clear e2
  refine (HCL.out W5).mono ?_; rintro e w1 ⟨rfl, hb1⟩
  have HP1 := Lib.hid (HP.out.below hb1)
  have HM1 : Hid (Moved (fun q => q = g) w w1) := Lib.hid (Moved.trans (F' := fun q => q = g) ⟨HM5.out, fun k h => .inl h⟩ (Moved.of_below hb1 _))
  have f1 : w1.frozen? ⟨w.heap.size, 2, none⟩ = false := by simp [World.frozen?, HP1.out.box]
  have e2 := cell_of_row w1 w.heap.size 2 _ _ (0, 0) HP1.out.box
  clear hb1
  obtain ⟨gx, hgx⟩ : ∃ gx, gx = w.heap.size := ⟨_, rfl⟩
  have HG := Lib.hid hgx
  obtain ⟨W2, hW2⟩ : ∃ W2, W2 = w1.setCell ⟨w.heap.size, 2, none⟩ (.string x.tx) := ⟨_, rfl⟩
  have h2 : PutM W2 g gx x tv ev rs en ov := by rw [hW2, hgx]; exact HP1.out.set2
  have HM2 : Hid (Moved (fun q => q = g) w W2) := Lib.hid (by rw [hW2]; exact HM1.out.setCell (.inr (Nat.le_refl _)) _)
  have HW2 := Lib.hid hW2
  clear hW2 hgx
  go_wp2_with fail
  rw [← HW2.out, ← HG.out]
  have cm : W2.drew.cell? ⟨g, 50, none⟩ = some (.int .i64 (rs.length : Int)) := h2.tel.cm
  have e0 : W2.drew.cell? ⟨gx, 0, none⟩ = some (.int .i64 x.n) := cell_of_row W2 gx 0 _ _ (0, 0) h2.box
  have e1 : W2.drew.cell? ⟨gx, 1, none⟩ = some (.int .i64 x.p) := cell_of_row W2 gx 1 _ _ (0, 0) h2.box
  have e2 : W2.drew.cell? ⟨gx, 2, none⟩ = some (.string x.tx) := cell_of_row W2 gx 2 _ _ (0, 0) h2.box
  have HT2 := Lib.hid h2.tel
  have HTD : Hid (TelM W2.drew g tv ev rs en ov) := Lib.hid (HT2.out.keep rfl)
  have hal := arr_len
  have hlt16 : (rs.length : Int) < 16 := by omega
  clear h2
  obtain ⟨u0, hu0⟩ := Option.isSome_iff_exists.1 (HTD.out.there (o := 2 + rs.length * 3) (n := 3) (by omega) 0 (by decide)).1
  obtain ⟨u1, hu1⟩ := Option.isSome_iff_exists.1 (HTD.out.there (o := 2 + rs.length * 3) (n := 3) (by omega) 1 (by decide)).1
  obtain ⟨u2, hu2⟩ := Option.isSome_iff_exists.1 (HTD.out.there (o := 2 + rs.length * 3) (n := 3) (by omega) 2 (by decide)).1
  rw [Nat.add_zero] at hu0
  have hf0 := (HTD.out.there (o := 2 + rs.length * 3) (n := 3) (by omega) 0 (by decide)).2
  have hf1 := (HTD.out.there (o := 2 + rs.length * 3) (n := 3) (by omega) 1 (by decide)).2
  have hf2 := (HTD.out.there (o := 2 + rs.length * 3) (n := 3) (by omega) 2 (by decide)).2
  rw [Nat.add_zero] at hf0
  have hu1' : W2.cell? ⟨g, 2 + rs.length * 3 + 1, none⟩ = some u1 := hu1
  have hu2' : W2.cell? ⟨g, 2 + rs.length * 3 + 2, none⟩ = some u2 := hu2
  have hf1' : W2.frozen? ⟨g, 2 + rs.length * 3 + 1, none⟩ = false := hf1
  have hf2' : W2.frozen? ⟨g, 2 + rs.length * 3 + 2, none⟩ = false := hf2
  go_region
  obtain ⟨W3, hW3⟩ : ∃ W3, W3 = (((W2.setCell ⟨g, 2 + rs.length * 3, none⟩ (.int .i64 x.n)).setCell ⟨g, 2 + rs.length * 3 + 1, none⟩ (.int .i64 x.p)).setCell ⟨g, 2 + rs.length * 3 + 2, none⟩ (.string x.tx)).drew := ⟨_, rfl⟩
  obtain ⟨p1, p2, p3⟩ := HT2.out.push (w5 := W3) x (by omega) (by rw [hW3]; rfl)
  have HM3 : Hid (Moved (fun q => q = g) w W3) := Lib.hid (by rw [hW3]; exact (((HM2.out.setCell (.inl rfl) _).setCell (.inl rfl) _).setCell (.inl rfl) _).drew)
  rw [← hW3]
  have HP3 := Lib.hid p1
  have hwr : IntKind.i64.wrap ((rs.length : Int) + 1) = (rs.length : Int) + 1 := by rw [IntKind.wrap_i64]; omega
  clear hu0 hu1 hu2 hf0 hf1 hf2 hu1' hu2' hf1' hf2' cm e0 e1 e2 p1 hW3
  go_wp2_with fail
  go_end0
  exact ⟨rfl, HP3.out, HM3.out.setCell (.inl rfl) _⟩
end
end Go.Proofs.YtebmafghekfllaaDoor
