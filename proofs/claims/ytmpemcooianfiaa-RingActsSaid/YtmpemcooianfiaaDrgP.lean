/- The document's Put. -/
import Derived.Test.YtmpemcooianfiaaDrgM
namespace Go.Proofs.Ytmpemcooianfiaa
open Go Go.RowKit
set_option linter.unusedVariables false
set_option maxRecDepth 20000
/-- One item is appended to a row of the call's own. -/
theorem app_item {W0 w1 : World} {k c : Nat} {A : Option Addr} {ys : List It} (h : RecW w1 W0.heap.size 36 7 (.slice A k c) (ys.map It.cells)) (hb : Below W0.heap.size W0 w1) (x : It) (hk : k ≤ 100000) :
    ∃ A' c' w2, (Builtin.append_ #[29, 29] 29 #[.slice A k c, .slice (some ⟨w1.heap.size, 0, none⟩) 1 1]).run Try.prog (w1.alloc (.cells x.cells.toArray 36)) = .ok (.slice A' (k + 1) c') w2 ∧
      RecW w2 W0.heap.size 36 7 (.slice A' (k + 1) c') ((ys ++ [x]).map It.cells) ∧ Below W0.heap.size W0 w2 := by
  have hlen : ys.length = k := by
    obtain ⟨A0, c0, e1, _⟩ := h.slice
    injection e1 with _ e2 _
    rw [List.length_map] at e2
    exact e2.symm
  have hb1 : Below w1.heap.size w1 (w1.alloc (.cells x.cells.toArray 36)) := (Below.refl _ _).alloc (Nat.le_refl _) _
  have hd1 : (w1.alloc (.cells x.cells.toArray 36)).heap[w1.heap.size]? = some (.cells x.cells.toArray 36 (0, 0)) := heap_alloc_new _ _
  have hr := h.keep (w' := w1.alloc (.cells x.cells.toArray 36)) fun k hk _ => hb1.block k hk
  have hbw := hb.trans (hb1.mono hb.size)
  obtain ⟨V', w2, happ, hr2, hg2, -, -⟩ := hr.app 29 36 _ 7 80 Try.underlying29 info_item rfl (by decide) (read_one hd1 x.wide) (c := 1) (fun h => by cases h) (by rw [List.length_map, hlen]; unfold maxLen; omega) (by rw [List.length_map, hlen]; omega) hbw.size
  rw [show ys.map It.cells ++ [x.cells] = (ys ++ [x]).map It.cells by simp] at hr2
  obtain ⟨A', c', hV', -⟩ := hr2.slice
  rw [List.length_map, List.length_append, hlen, List.length_singleton] at hV'
  subst hV'
  exact ⟨A', c', w2, happ, hr2, hbw.grown hg2 hbw.size (fun k hk => (row_lt hr.1 hk).1)⟩
/-- The first p have numbers below x, the others none below it. -/
def SplitN (L : List It) (x : Int) (p : Nat) : Prop := p ≤ L.length ∧ ∀ k y, L[k]? = some y → (k < p → y.n < x) ∧ (p ≤ k → x ≤ y.n)
section
variable {w w' : World} {B r c n next : Nat} {D : Nat → Prop} {A : Option Addr} {L : List It}
set_option maxHeartbeats 4000000 in
theorem dput_low (h : DrgC w B D r A c n next L) (x : It) (hx : x.n < (next : Int)) :
    Calls Try.prog 9 #[.pointer (some ⟨r, 0, none⟩), x.val] w fun e w' => e = .returned (.int .i64 2) ∧ Below w.heap.size w w' := by
  have hb : Below w.heap.size w (w.alloc (.cells x.cells.toArray 36)) := (Below.refl _ _).alloc (Nat.le_refl _) _
  have c2 := (h.below hb).c2
  have HB := Lib.hid hb
  have e0 := cell_of_row (w.alloc (.cells x.cells.toArray 36)) w.heap.size 0 _ _ (0, 0) (heap_alloc_new _ _)
  simp only [It.cells, List.getElem?_toArray, List.getElem?_cons_zero] at e0 c2
  unfold It.cells at HB
  clear h hb
  unfold It.val
  go_enter Try.func9, Try.ntmps9
  go_wp2_with fail
  go_quiet (fail)
  go_wp2_with fail
  go_ret
  exact ⟨rfl, below_drewN HB.out _⟩
set_option maxHeartbeats 4000000 in
theorem dput_big (h : DrgC w B D r A c n next L) (x : It) (hx : (next : Int) ≤ x.n) (hx2 : (n : Int) ≤ x.n - (next : Int)) (hx3 : x.n < 9223372036854775808) :
    Calls Try.prog 9 #[.pointer (some ⟨r, 0, none⟩), x.val] w fun e w' => e = .returned (.int .i64 16) ∧ Below w.heap.size w w' := by
  have hb : Below w.heap.size w (w.alloc (.cells x.cells.toArray 36)) := (Below.refl _ _).alloc (Nat.le_refl _) _
  have c2 := (h.below hb).c2
  have c1 := (h.below hb).c1
  have HB := Lib.hid hb
  have e0 := cell_of_row (w.alloc (.cells x.cells.toArray 36)) w.heap.size 0 _ _ (0, 0) (heap_alloc_new _ _)
  simp only [It.cells, List.getElem?_toArray, List.getElem?_cons_zero] at e0 c2 c1
  unfold It.cells at HB
  have ew : IntKind.i64.wrap (x.n - (next : Int)) = x.n - (next : Int) := by simp [IntKind.wrap, IntKind.bits, IntKind.signed]; omega
  have hn : ¬ x.n < (next : Int) := by omega
  clear h hb hx3
  unfold It.val
  go_enter Try.func9, Try.ntmps9
  go_wp2_with fail
  go_quiet (fail)
  go_wp2_with fail
  go_quiet (fail)
  go_wp2_with fail
  go_ret
  exact ⟨rfl, below_drewN (below_drewN HB.out _) _⟩
/-- The list from a place on. -/
theorem DrgC.tail (h : DrgC w B D r A c n next L) {k : Nat} (hk : k ≤ L.length) : ∃ A2 c2, (∀ w : World, (Instr.slice 29 (.slice A L.length c) (some (.int .i64 (k : Int))) none none).run Try.prog w = .ok (.slice A2 (L.length - k) c2) w) ∧ (A2 = none → c2 = 0) ∧ ReadR 0 w A2 (L.length - k) 7 ((L.drop k).map It.cells) ∧ (∀ a, A2 = some a → D a.block ∧ a.block ≠ r) ∧ L.length - k ≤ c2 ∧ c2 ≤ maxLen := by
  have hcap := h.cap.1
  have hcm := h.cap.2.1
  rcases A with _ | a
  · have hL : L.length = 0 := by
      rcases Nat.eq_zero_or_pos L.length with h0 | h0
      · exact h0
      · obtain ⟨b, o, hA, _⟩ := h.rd.2 h0
        cases hA
    have hc0 := h.cap.2.2 rfl
    subst hc0
    have hk0 : k = 0 := by omega
    subst hk0
    rw [List.eq_nil_of_length_eq_zero hL]
    refine ⟨none, 0, fun w => ?_, fun _ => rfl, ReadR.nil_ _ _ _ _, fun a ha => (by cases ha), Nat.le_refl _, Nat.zero_le _⟩
    have hr := run_slice_l (P := Try.prog) (w := w) (t := 29) (a := none) (len := 0) (cap := 0) (ht := by rw [item_elem]; exact Try.underlying29) (kl := .i64) (l := ((0 : Nat) : Int)) (h0 := by omega) (h1 := by omega)
    rw [List.length_nil, hr, item_elem, item_size]
    simp [Result.andThen, sliced]
  · rcases Nat.eq_zero_or_pos L.length with h0 | h0
    · have hk0 : k = 0 := by omega
      subst hk0
      have hL := List.eq_nil_of_length_eq_zero h0
      subst hL
      obtain ⟨b, o, sp⟩ := a
      have hr := fun w => run_slice_l (P := Try.prog) (w := w) (t := 29) (a := some ⟨b, o, sp⟩) (len := 0) (cap := c) (ht := by rw [item_elem]; exact Try.underlying29) (kl := .i64) (l := ((0 : Nat) : Int)) (h0 := by omega) (h1 := by omega)
      refine ⟨some ⟨b, o, sp⟩, c, fun w => ?_, fun h => (by cases h), ReadR.nil_ _ _ _ _, fun a ha => h.da a ha, Nat.zero_le _, hcm⟩
      rw [List.length_nil, hr, item_elem, item_size]
      by_cases hc : c = 0 <;> simp [Result.andThen, sliced, hc, Addr.add]
      all_goals (intro; subst_vars; rfl)
    · obtain ⟨b, o, hA, -, hbw, hc⟩ := h.rd.2 h0
      injection hA with hA
      subst hA
      have hs := cut_from 29 36 7 Try.underlying29 item_elem item_size b o L.length c k hk hcap
      refine ⟨_, _, hs, fun h => (by cases h), ?_, fun a ha => ?_, by omega, by omega⟩
      · rcases Nat.eq_zero_or_pos (L.length - k) with h1 | h1
        · rw [h1, List.drop_of_length_le (by omega)]
          exact ReadR.nil_ _ _ _ _
        · rw [if_neg (by omega)]
          have := h.rd.cut (i := k) (j := L.length) hk (Nat.le_refl _)
          rw [← List.map_drop, ← List.map_take, List.take_of_length_le (by simp)] at this
          exact this
      · injection ha with ha
        subst ha
        have hd2 := h.da ⟨b, o, none⟩ rfl
        exact hd2
set_option maxHeartbeats 8000000 in
theorem dput_in (h : DrgC w B D r A c n next L) (x : It) (hx : (next : Int) ≤ x.n) (hx2 : x.n - (next : Int) < (n : Int)) (hn : n ≤ 64) (hx3 : x.n < 9223372036854775808) {p : Nat} (hp : SplitN L x.n p) (hl : L.length ≤ 1000) (dup : Bool)
    (hdup : if dup = true then ∃ y, L[p]? = some y ∧ y.n = x.n else ∀ y, L[p]? = some y → y.n ≠ x.n) :
    Calls Try.prog 9 #[.pointer (some ⟨r, 0, none⟩), x.val] w fun e w' => e = .returned (.int .i64 (if dup = true then 2 else 0)) ∧ ∃ D', DrgS w' B D' r n next (if dup = true then L else L.take p ++ x :: L.drop p) ∧ Step D D' w w' := by
  obtain ⟨W0, hW0⟩ : ∃ W0, W0 = w.alloc (.cells x.cells.toArray 36) := ⟨_, rfl⟩
  obtain ⟨gx, hgx⟩ : ∃ gx, gx = w.heap.size := ⟨_, rfl⟩
  have hb0 : Below w.heap.size w W0 := by rw [hW0]; exact (Below.refl _ _).alloc (Nat.le_refl _) _
  have hx0 : W0.heap[gx]? = some (.cells x.cells.toArray 36 (0, 0)) := by rw [hW0, hgx]; exact heap_alloc_new _ _
  have hgl : gx < W0.heap.size := (Array.getElem?_eq_some_iff.1 hx0).1
  have h0 := h.below hb0
  have HE := Lib.hid fun (w' : World) (hb : Below W0.heap.size W0 w') (i : Nat) (v : Value) (hv : x.cells[i]? = some v) => (by
    rw [cell_of_row w' gx i _ _ (0, 0) ((hb.block gx hgl).trans hx0)]
    simpa using hv : w'.cell? ⟨gx, i, none⟩ = some v)
  have HD := Lib.hid fun (w' : World) (hb : Below W0.heap.size W0 w') => h0.below hb
  have HB := Lib.hid hb0
  have c2 := h0.c2
  have c1 := h0.c1
  have e0 := HE.out W0 (Below.refl _ _) 0 _ rfl
  have ew : IntKind.i64.wrap (x.n - (next : Int)) = x.n - (next : Int) := by simp [IntKind.wrap, IntKind.bits, IntKind.signed]; omega
  have hn1 : ¬ x.n < (next : Int) := by omega
  have hn2 : ¬ (n : Int) ≤ x.n - (next : Int) := by omega
  obtain ⟨m, hm⟩ : ∃ m, m = L.length := ⟨_, rfl⟩
  have HM := Lib.hid hm
  have HP := Lib.hid hp
  have HDUP := Lib.hid hdup
  have HOLD := Lib.hid h
  have hpm : p ≤ m := by rw [hm]; exact hp.1
  rw [← hm] at hl
  clear h h0 hx hx2 hx3 hm hp hdup hb0 hgl
  unfold It.val
  go_enter Try.func9, Try.ntmps9
  unfold It.cells at hW0
  go_wp2_with fail
  rw [← hW0, ← hgx]
  clear hW0 hgx
  go_quiet (fail)
  go_wp2_with fail
  go_quiet (fail)
  go_wp2_with fail
  clear e0 c1 c2
  go_loopw [5, 6] (fun vo vi wr => ∃ (k c : Nat) (A : Option Addr), vo = .slice A k c ∧ vi = .int .i64 (k : Int) ∧ k ≤ p ∧ Hid (RecW wr W0.heap.size 36 7 (.slice A k c) ((L.take k).map It.cells) ∧ Below W0.heap.size W0 wr)) (fun _ vi _ => p - (intOf vi).toNat)
  case atStart => exact ⟨0, 0, none, rfl, rfl, Nat.zero_le _, Lib.hid ⟨RecW.nil _ _ _ _, below_drewN (below_drewN (Below.refl _ _) _) _⟩⟩
  case round =>
    obtain ⟨k, c', A', rfl, rfl, hk, HO⟩ := hrel
    have hd := HD.out wr HO.out.2
    have c0 := hd.c0
    rw [← HM.out] at c0
    have e0 := HE.out wr HO.out.2 0 _ rfl
    have hic := item_cells
    by_cases hkp : k < p
    · have hkm : k < m := by omega
      obtain ⟨b, o, hA, -, hbw, hc⟩ := hd.rd.2 (by rw [← HM.out]; omega)
      subst hA
      obtain ⟨y, hy⟩ : ∃ y, L[k]? = some y := ⟨_, List.getElem?_eq_getElem (by rw [← HM.out]; exact hkm)⟩
      have hyn : y.n < x.n := (HP.out.2 k y hy).1 hkp
      have hc' := fun i v hv => hc k y.cells (by simp [hy]) i v hv
      have d0 := hc' 0 _ rfl
      have d1 := hc' 1 _ rfl
      have d2 := hc' 2 _ rfl
      have d3 := hc' 3 _ rfl
      have d4 := hc' 4 _ rfl
      have d5 := hc' 5 _ rfl
      have d6 := hc' 6 _ rfl
      simp only [Nat.add_zero] at d0
      have HY := Lib.hid hy
      clear hc hc' hy hd
      go_wp2_with fail
      go_quiet (fail)
      obtain ⟨A2, c2', w2, happ, hr2, hb2⟩ := app_item (W0 := W0) (w1 := wr.drewN nq) (k := k) (c := c') (A := A') (HO.out.1.keep fun k _ _ => rfl) (below_drewN HO.out.2 nq) y (by omega)
      have HA := Lib.hid happ
      have H2 := Lib.hid (And.intro (by rw [take_snocW HY.out]; exact hr2 : RecW w2 W0.heap.size 36 7 (.slice A2 (k + 1) c2') ((L.take (k + 1)).map It.cells)) hb2)
      unfold It.cells at HA
      clear happ hr2 hb2
      go_wp2_with (at_builtin; refine wpList_append_run rfl _ _ 29 rfl rfl _ _ _ _ rfl rfl HA.out ?_)
      exact ⟨⟨k + 1, c2', A2, rfl, by go_num, by omega, H2⟩, by simp [intOf]; omega⟩
    · have hkp : k = p := by omega
      subst hkp
      have HF : Hid (Below w.heap.size w wr) := Lib.hid (HB.out.trans (HO.out.2.mono HB.out.size))
      rcases dup with _ | _
      · have key : ∀ q : Nat, ∃ A2 c2 w2, (Builtin.append_ #[29, 29] 29 #[.slice A' k c', .slice (some ⟨(wr.drewN q).heap.size, 0, none⟩) 1 1]).run Try.prog ((wr.drewN q).alloc (.cells x.cells.toArray 36)) = .ok (.slice A2 (k + 1) c2) w2 ∧
            w2.cell? ⟨r, 0, none⟩ = some (.slice A m c) ∧
            ∃ A3 c3 A4 c4 w4, (∀ w : World, (Instr.slice 29 (.slice A m c) (some (.int .i64 (k : Int))) none none).run Try.prog w = .ok (.slice A3 (m - k) c3) w) ∧
              (Builtin.append_ #[29, 29] 29 #[.slice A2 (k + 1) c2, .slice A3 (m - k) c3]).run Try.prog w2 = .ok (.slice A4 (m + 1) c4) w4 ∧
              w4.cell? ⟨r, 0, none⟩ = some (.slice A m c) ∧ w4.frozen? ⟨r, 0, none⟩ = false ∧
              Hid (∃ D', DrgS (w4.setCell ⟨r, 0, none⟩ (.slice A4 (m + 1) c4)) B D' r n next (L.take k ++ x :: L.drop k) ∧ Step D D' w (w4.setCell ⟨r, 0, none⟩ (.slice A4 (m + 1) c4))) := by
          intro q
          obtain ⟨A2, c2, w2, happ, hr2, hb2⟩ := app_item (W0 := W0) (w1 := wr.drewN q) (k := k) (c := c') (A := A') (HO.out.1.keep fun k _ _ => rfl) (below_drewN HO.out.2 q) x (by omega)
          have h2 := HD.out w2 hb2
          have hkl : k ≤ L.length := by rw [← HM.out]; exact hpm
          obtain ⟨A3, c3, hs3, hn3, hr3, -, -, -⟩ := h2.tail hkl
          obtain ⟨V4, w4, happ4, hr4, hg4, -, -⟩ := hr2.app 29 36 _ 7 80 Try.underlying29 info_item rfl (by decide) hr3 hn3 (by rw [List.length_map, List.length_append, List.length_take, List.length_singleton, ← HM.out]; unfold maxLen; omega) (by rw [List.length_map, List.length_append, List.length_take, List.length_singleton, ← HM.out]; omega) hb2.size
          have e4 : (L.take k ++ [x]).map It.cells ++ (L.drop k).map It.cells = (L.take k ++ x :: L.drop k).map It.cells := by simp
          rw [e4] at hr4
          have hlen : (L.take k ++ x :: L.drop k).length = m + 1 := by rw [List.length_append, List.length_take, List.length_cons, List.length_drop, ← HM.out]; omega
          obtain ⟨A4, c4, hV4, -⟩ := hr4.slice
          rw [List.length_map, hlen] at hV4
          subst hV4
          have hb4 : Below W0.heap.size W0 w4 := hb2.grown hg4 hb2.size (fun k hk => (row_lt hr2.1 hk).1)
          have hbw := HB.out.trans (hb4.mono HB.out.size)
          have hr5 : RecW w4 w.heap.size 36 7 (.slice A4 (L.take k ++ x :: L.drop k).length c4) ((L.take k ++ x :: L.drop k).map It.cells) := by rw [hlen]; exact hr4.base HB.out.size
          have h5 := HOLD.out.setL hbw hr5
          have s5 := HOLD.out.stepL hbw (.slice A4 (L.take k ++ x :: L.drop k).length c4)
          rw [hlen] at h5 s5
          have h4 := HD.out w4 hb4
          have c02 := h2.c0
          have c04 := h4.c0
          rw [← HM.out] at c02 c04 happ4 hs3
          exact ⟨A2, c2, w2, happ, c02, A3, c3, A4, c4, w4, hs3, happ4, c04, h4.fz 0, Lib.hid ⟨_, ⟨A4, c4, h5⟩, s5⟩⟩
        have HK := Lib.hid key
        have ex := fun q i v hv => HE.out (wr.drewN q) (below_drewN HO.out.2 q) i v hv
        have x0 := fun q => ex q 0 _ rfl
        have x1 := fun q => ex q 1 _ rfl
        have x2 := fun q => ex q 2 _ rfl
        have x3 := fun q => ex q 3 _ rfl
        have x4 := fun q => ex q 4 _ rfl
        have x5 := fun q => ex q 5 _ rfl
        have x6 := fun q => ex q 6 _ rfl
        clear key ex
        by_cases hkm : k < m
        · obtain ⟨b, o, hA, -, hbw, hc⟩ := hd.rd.2 (by rw [← HM.out]; omega)
          subst hA
          obtain ⟨y, hy⟩ : ∃ y, L[k]? = some y := ⟨_, List.getElem?_eq_getElem (by rw [← HM.out]; exact hkm)⟩
          have hyn : x.n ≤ y.n := (HP.out.2 k y hy).2 (Nat.le_refl _)
          have hyne := HDUP.out y hy
          have d0 := hc k y.cells (by simp [hy]) 0 _ rfl
          simp only [Nat.add_zero] at d0
          have hyx : ¬ y.n < x.n := by omega
          have hyb : (y.n == x.n) = false := by simpa using hyne
          clear hc hy hd HDUP hyn hyne
          go_wp2_with fail
          go_quiet (fail)
          rename Nat => q1
          go_wp2_with fail
          go_quiet (fail)
          rename Nat => q2
          obtain ⟨A2, c2, w2, happ, g1, A3, c3, A4, c4, w4, hs3, happ4, g2, g3, HF2⟩ := HK.out (q1 + q2)
          have HA1 := Lib.hid happ
          have HA4 := Lib.hid happ4
          unfold It.cells at HA1
          have y0 := x0 (q1 + q2)
          have y1 := x1 (q1 + q2)
          have y2 := x2 (q1 + q2)
          have y3 := x3 (q1 + q2)
          have y4 := x4 (q1 + q2)
          have y5 := x5 (q1 + q2)
          have y6 := x6 (q1 + q2)
          clear happ happ4 x0 x1 x2 x3 x4 x5 x6 d0 e0 c0
          go_wp2_with (first
            | (at_builtin; refine wpList_append_run rfl (.tmp 78) (.tmp 80) 29 rfl rfl _ _ _ _ rfl rfl HA1.out ?_; clear y0 y1 y2 y3 y4 y5 y6)
            | (at_builtin; refine wpList_append_run rfl (.tmp 83) (.tmp 89) 29 rfl rfl _ _ _ _ rfl rfl HA4.out ?_))
          go_ret
          exact ⟨rfl, HF2.out⟩
        · have hkm' : ¬ (k : Int) < (m : Int) := by omega
          clear hd HDUP
          go_wp2_with fail
          go_quiet (fail)
          rename Nat => q1
          go_wp2_with fail
          go_quiet (fail)
          rename Nat => q2
          obtain ⟨A2, c2, w2, happ, g1, A3, c3, A4, c4, w4, hs3, happ4, g2, g3, HF2⟩ := HK.out (q1 + q2)
          have HA1 := Lib.hid happ
          have HA4 := Lib.hid happ4
          unfold It.cells at HA1
          have y0 := x0 (q1 + q2)
          have y1 := x1 (q1 + q2)
          have y2 := x2 (q1 + q2)
          have y3 := x3 (q1 + q2)
          have y4 := x4 (q1 + q2)
          have y5 := x5 (q1 + q2)
          have y6 := x6 (q1 + q2)
          clear happ happ4 x0 x1 x2 x3 x4 x5 x6 e0 c0
          go_wp2_with (first
            | (at_builtin; refine wpList_append_run rfl (.tmp 78) (.tmp 80) 29 rfl rfl _ _ _ _ rfl rfl HA1.out ?_; clear y0 y1 y2 y3 y4 y5 y6)
            | (at_builtin; refine wpList_append_run rfl (.tmp 83) (.tmp 89) 29 rfl rfl _ _ _ _ rfl rfl HA4.out ?_))
          go_ret
          exact ⟨rfl, HF2.out⟩
      · obtain ⟨y, hy, hyn⟩ := HDUP.out
        have hkm : k < m := by rw [HM.out]; exact (List.getElem?_eq_some_iff.1 hy).1
        obtain ⟨b, o, hA, -, hbw, hc⟩ := hd.rd.2 (by rw [← HM.out]; omega)
        subst hA
        have d0 := hc k y.cells (by simp [hy]) 0 _ rfl
        simp only [Nat.add_zero] at d0
        have hyx : ¬ y.n < x.n := by omega
        have hyb : (y.n == x.n) = true := by simpa using hyn
        clear hc hy hd HDUP
        go_wp2_with fail
        go_quiet (fail)
        go_wp2_with fail
        go_quiet (fail)
        go_wp2_with fail
        go_ret
        exact ⟨rfl, D, ⟨_, _, HOLD.out.below (below_drewN HF.out _)⟩, Moved.of_below (below_drewN HF.out _) D, fun k hk => .inl hk⟩
end
end Go.Proofs.Ytmpemcooianfiaa
