/- RingActs: whatever is put and given, both rings answer alike. -/
import Derived.Test.YtmpemcooianfiaaBoth17
import Derived.Test.YtmpemcooianfiaaActs17
import Derived.Deep.DeepCutAuto
import Derived.Deep.CutBlock
import Derived.Deep.CutRange
import Derived.Deep.LoopGhost
namespace Go.Proofs.Ytmpemcooianfiaa
open Go Go.RowKit
set_option linter.unusedVariables false
set_option maxRecDepth 40000
/-- An act in its block. -/
def actV (a : Act17) : Obj := .cells a.cells.toArray 38 (0, 0)
/-- Both rings, whatever they have. -/
def Side17 (P : RP) (w0 : World) (cs : List (Nat × Obj)) (g r : Nat) (w : World) : Prop := ∃ np Wp nd Wd, Both17 P w0 w cs g r np Wp nd Wd
theorem actV_at {w : World} {ga : Nat} {kd : Int} {x : It} (h : w.heap[ga]? = some (actV ⟨kd, x⟩)) : w.cell? ⟨ga, 0, none⟩ = some (.int .i64 kd) ∧ w.cell? ⟨ga, 1, none⟩ = some (.int .i64 x.n) ∧ w.cell? ⟨ga, 2, none⟩ = some (.int .i64 x.b) ∧ w.cell? ⟨ga, 3, none⟩ = some (.int .i64 x.rn) ∧ w.cell? ⟨ga, 4, none⟩ = some (.int .i64 x.ra) ∧ w.cell? ⟨ga, 5, none⟩ = some (.string x.tx) ∧ w.cell? ⟨ga, 6, none⟩ = some (.slice x.hA x.hm x.hc) ∧ w.cell? ⟨ga, 7, none⟩ = some (.int .i64 x.e) :=
  ⟨cell_of_row w ga 0 _ _ (0, 0) h, cell_of_row w ga 1 _ _ (0, 0) h, cell_of_row w ga 2 _ _ (0, 0) h, cell_of_row w ga 3 _ _ (0, 0) h, cell_of_row w ga 4 _ _ (0, 0) h, cell_of_row w ga 5 _ _ (0, 0) h, cell_of_row w ga 6 _ _ (0, 0) h, cell_of_row w ga 7 _ _ (0, 0) h⟩
section
variable {P : RP} (T : RinF P)
include T
set_option maxHeartbeats 4000000 in
theorem act17_many (n : Int) (A : Option Addr) (m c : Nat) (w : World) (h : 60 < m) :
    Calls Try.prog 3 #[.int .i64 n, .slice A m c] w fun e w' => e = .returned (.bool true) ∧ Below w.heap.size w w' := by
  have HA := Lib.hid fun (w1 : World) (hb : Below w.heap.size w w1) => awake17_any T w hb
  have hd : decide ((60 : Int) < (m : Int)) = true := by simp; omega
  clear h
  go_enter Try.func3, Try.ntmps3
  go_wp2_with fail
  refine (HA.out _ (Below.refl _ _)).mono ?_; rintro e w1 ⟨rfl, h1⟩
  have H1 := Lib.hid h1; clear h1
  go_wp2_with fail
  refine (HA.out _ H1.out).mono ?_; rintro e w2 ⟨rfl, h2⟩
  have H2 := Lib.hid h2; clear h2
  go_wp2_with fail
  go_ret
  exact ⟨rfl, H2.out⟩
set_option maxHeartbeats 4000000 in
theorem act17_bad (n : Int) (A : Option Addr) (m c : Nat) (w : World) (h : m ≤ 60) (hn : n < 1 ∨ 64 < n) :
    Calls Try.prog 3 #[.int .i64 n, .slice A m c] w fun e w' => e = .returned (.bool true) ∧ Below w.heap.size w w' := by
  have HA := Lib.hid (awake17_any T w (Below.refl w.heap.size w))
  have HN := Lib.hid fun w2 => T.bad n w2 hn
  have hd : decide ((60 : Int) < (m : Int)) = false := by simp; omega
  clear h
  by_cases h1 : n < 1
  · clear hn
    go_enter Try.func3, Try.ntmps3
    go_wp2_with fail
    refine HA.out.mono ?_; rintro e w1 ⟨rfl, h1⟩
    have H1 := Lib.hid h1; clear h1
    go_wp2_with fail
    refine (HN.out _).mono ?_; rintro e w2 ⟨rfl, h2⟩
    have H2 := Lib.hid (H1.out.trans (h2.mono H1.out.size)); clear h2
    go_wp2_with fail
    go_ret
    exact ⟨rfl, H2.out⟩
  · have h2 : (64 : Int) < n := hn.resolve_left h1
    clear hn
    go_enter Try.func3, Try.ntmps3
    go_wp2_with fail
    refine HA.out.mono ?_; rintro e w1 ⟨rfl, h1⟩
    have H1 := Lib.hid h1; clear h1
    go_wp2_with fail
    refine (HN.out _).mono ?_; rintro e w2 ⟨rfl, h2⟩
    have H2 := Lib.hid (H1.out.trans (h2.mono H1.out.size)); clear h2
    go_wp2_with fail
    go_ret
    exact ⟨rfl, H2.out⟩
set_option maxHeartbeats 8000000 in
theorem act17_good (n : Nat) (A : Option Addr) (m c : Nat) (acts : List Act17) (w : World) (hr : RowA17 w A m acts) (hm : m ≤ 60) (hn1 : 1 ≤ n) (hn2 : n ≤ 64) :
    Calls Try.prog 3 #[.int .i64 (n : Int), .slice A m c] w fun e w' => e = .returned (.bool true) ∧ Below w.heap.size w w' := by
  have HA := Lib.hid (awake17_any T w (Below.refl w.heap.size w))
  have HN := Lib.hid fun w2 (hb : Below w.heap.size w w2) => rNew T n hb hn1 hn2
  have HR := Lib.hid hr
  have HL := Lib.hid (show acts.length = m by have := hr.1.1.1; simpa using this)
  have hd : decide ((60 : Int) < (m : Int)) = false := by simp; omega
  have t1 : ¬ (n : Int) < 1 := by omega
  have t2 : ¬ (64 : Int) < (n : Int) := by omega
  clear hr
  go_enter Try.func3, Try.ntmps3
  go_wp2_with fail
  refine HA.out.mono ?_; rintro e w1 ⟨rfl, h1⟩
  have H1 := Lib.hid h1; clear h1 HA
  go_wp2_with fail
  refine (HN.out _ H1.out).mono ?_; rintro e w2 ⟨g, rfl, h2, -⟩
  have H2 := Lib.hid (both_made T h2); clear h2 HN H1
  rw [List.length_replicate] at H2
  go_upto_region 9 with fail
  obtain ⟨r, hr⟩ : ∃ r, r = w2.heap.size := ⟨_, rfl⟩
  obtain ⟨w3, hw3⟩ : ∃ w3, w3 = w2.alloc (.cells #[.slice none 0 0, .int .i64 (n : Int), .int .i64 0] 31) := ⟨_, rfl⟩
  rw [← hr, ← hw3] at H2 ⊢
  clear hr hw3 hd
  have hac := act17_cells
  go_wp2_with fail
  go_loopg [8] m (fun gk v8 wr => ∃ (i next : Nat) (W : List (Option It)), i ≤ m ∧ gk = m - i ∧ v8 = .int .i64 (i : Int) ∧ next ≤ i ∧ Hid (Both17 P w wr [] g r next W next W) ∧ Hid (∀ x ∈ hold W, HitsAt 0 w x ∧ x.hm ≤ 100000))
  case atStart =>
    refine ⟨0, 0, _, by omega, by omega, rfl, by omega, H2, Lib.hid fun x hx => ?_⟩
    rw [mem_hold] at hx
    have := List.eq_of_mem_replicate hx
    cases this
  case round =>
    obtain ⟨i, next, W, hi, hgk, rfl, hnx, HO, HH⟩ := hrel
    clear H2
    by_cases hl : i < m
    · obtain ⟨b, o, rfl, -, hbl, hc⟩ := HR.out.1.2 (by omega)
      obtain ⟨a, ha⟩ : ∃ a, acts[i]? = some a := ⟨_, List.getElem?_eq_getElem (by rw [HL.out]; exact hl)⟩
      have hfit := HR.out.2 a (List.mem_of_getElem? ha)
      obtain ⟨kd, x⟩ := a
      have hcell := fun j v hv => (HO.out.to.cell (p := ⟨b, o + i * 8 + j, none⟩) hbl).trans (hc i (Act17.cells ⟨kd, x⟩) (by simp [ha]) j v hv)
      have e0 := hcell 0 _ rfl
      have e1 := hcell 1 _ rfl
      have e2 := hcell 2 _ rfl
      have e3 := hcell 3 _ rfl
      have e4 := hcell 4 _ rfl
      have e5 := hcell 5 _ rfl
      have e6 := hcell 6 _ rfl
      have e7 := hcell 7 _ rfl
      simp only [Nat.add_zero] at e0
      have HB0 := HO.out.alloc T (actV ⟨kd, x⟩)
      obtain ⟨wa, hwa⟩ : ∃ wa, wa = wr.alloc (actV ⟨kd, x⟩) := ⟨_, rfl⟩
      obtain ⟨ga, hga⟩ : ∃ ga, ga = wr.heap.size := ⟨_, rfl⟩
      rw [← hwa, ← hga] at HB0
      have HB := Lib.hid HB0
      have HFX := Lib.hid hfit
      unfold actV Act17.cells It.cells at hwa
      have HWA := Lib.hid hwa
      have HGA := Lib.hid hga
      have HGK := Lib.hid hgk
      clear HB0 hfit hcell hc ha hwa hga hgk
      go_upto_region 13 with fail
      dsimp only at HWA
      rw [← HWA.out, ← HGA.out]
      clear e0 e1 e2 e3 e4 e5 e6 e7 HWA HGA HO
      obtain ⟨q0, q1, q2, q3, q4, q5, q6, q7⟩ := actV_at (HB.out.at List.mem_cons_self)
      by_cases hbig : 10 < x.hm
      · have hd : decide ((10 : Int) < (x.hm : Int)) = true := by simp; omega
        have HBB := Lib.hid HB.out.to
        clear HB HH HFX q0 q1 q2 q3 q4 q5 q7 hbig
        go_wp2_with fail
        go_ret
        exact ⟨rfl, HBB.out⟩
      · have hd : decide ((10 : Int) < (x.hm : Int)) = false := by simp; omega
        go_upto_block 2 with fail
        go_cut [10, 11, 12, 13, 14] from 68 to 109 (fun s10 s11 s12 s13 s14 wx => s10 = .bool true ∧ ∃ (next' : Nat) (W' : List (Option It)), next' ≤ i + 1 ∧ Hid (Both17 P w wx [] g r next' W' next' W') ∧ Hid (∀ z ∈ hold W', HitsAt 0 w z ∧ z.hm ≤ 100000))
        case first =>
          have hfx := HFX.out
          have hxm : x.hm ≤ 100000 := by omega
          have HXM := Lib.hid hxm
          by_cases hk : kd = 0
          · subst hk
            have HPP : Hid (∀ w' nd' Wd', Both17 P w w' [(ga, actV ⟨0, x⟩)] g r next W nd' Wd' → Calls Try.prog 8 #[.pointer (some ⟨g, 0, none⟩), x.val] w' fun e w'' => e = .returned (.int .i64 (putR next W x.n)) ∧ Both17 P w w'' [(ga, actV ⟨0, x⟩)] g r next (putW next W x) nd' Wd') := Lib.hid fun w' nd' Wd' h => bPutP T h x (by omega) hfx.2.1 hfx.2.2
            have HPD : Hid (∀ w' np' Wp', Both17 P w w' [(ga, actV ⟨0, x⟩)] g r np' Wp' next W → Calls Try.prog 9 #[.pointer (some ⟨r, 0, none⟩), x.val] w' fun e w'' => e = .returned (.int .i64 (putR next W x.n)) ∧ Both17 P w w'' [(ga, actV ⟨0, x⟩)] g r np' Wp' next (putW next W x)) := Lib.hid fun w' np' Wp' h => bPutD T h x hfx.2.2
            unfold It.val at HPP HPD
            obtain ⟨z, hz⟩ : ∃ z, z = putR next W x.n := ⟨_, rfl⟩
            rw [← hz] at HPP HPD
            have k1 : ∀ w', Side17 P w [(ga, actV ⟨0, x⟩)] g r w' → w'.cell? ⟨ga, 1, none⟩ = some (.int .i64 x.n) := fun w' hs => by obtain ⟨_, _, _, _, h⟩ := hs; exact (actV_at (h.at List.mem_cons_self)).2.1
            have k2 : ∀ w', Side17 P w [(ga, actV ⟨0, x⟩)] g r w' → w'.cell? ⟨ga, 2, none⟩ = some (.int .i64 x.b) := fun w' hs => by obtain ⟨_, _, _, _, h⟩ := hs; exact (actV_at (h.at List.mem_cons_self)).2.2.1
            have k3 : ∀ w', Side17 P w [(ga, actV ⟨0, x⟩)] g r w' → w'.cell? ⟨ga, 3, none⟩ = some (.int .i64 x.rn) := fun w' hs => by obtain ⟨_, _, _, _, h⟩ := hs; exact (actV_at (h.at List.mem_cons_self)).2.2.2.1
            have k4 : ∀ w', Side17 P w [(ga, actV ⟨0, x⟩)] g r w' → w'.cell? ⟨ga, 4, none⟩ = some (.int .i64 x.ra) := fun w' hs => by obtain ⟨_, _, _, _, h⟩ := hs; exact (actV_at (h.at List.mem_cons_self)).2.2.2.2.1
            have k5 : ∀ w', Side17 P w [(ga, actV ⟨0, x⟩)] g r w' → w'.cell? ⟨ga, 5, none⟩ = some (.string x.tx) := fun w' hs => by obtain ⟨_, _, _, _, h⟩ := hs; exact (actV_at (h.at List.mem_cons_self)).2.2.2.2.2.1
            have k6 : ∀ w', Side17 P w [(ga, actV ⟨0, x⟩)] g r w' → w'.cell? ⟨ga, 6, none⟩ = some (.slice x.hA x.hm x.hc) := fun w' hs => by obtain ⟨_, _, _, _, h⟩ := hs; exact (actV_at (h.at List.mem_cons_self)).2.2.2.2.2.2.1
            have k7 : ∀ w', Side17 P w [(ga, actV ⟨0, x⟩)] g r w' → w'.cell? ⟨ga, 7, none⟩ = some (.int .i64 x.e) := fun w' hs => by obtain ⟨_, _, _, _, h⟩ := hs; exact (actV_at (h.at List.mem_cons_self)).2.2.2.2.2.2.2
            have h0 := HB.out.below T (below_drewN (Below.refl wa.heap.size wa) 1)
            have HB0 : Hid (Both17 P w wa.drew [(ga, actV ⟨0, x⟩)] g r next W next W) := Lib.hid h0
            have hS0 : Side17 P w [(ga, actV ⟨0, x⟩)] g r wa.drew := ⟨_, _, _, _, h0⟩
            have HIT : Hid (∀ z ∈ hold (putW next W x), HitsAt 0 w z ∧ z.hm ≤ 100000) := Lib.hid fun z hz => by
              rcases hold_put hz with rfl | hz
              · exact ⟨hfx.1, hxm⟩
              · exact HH.out z hz
            clear h0 hz q0 q1 q2 q3 q4 q5 q6 q7 HB HH hfx hxm hbig
            go_wp2_with fail
            go_region_held (fun w' => Side17 P w [(ga, actV ⟨0, x⟩)] g r w') (assumption) (first
              | (go_at_call 8; (first | (with_reducible refine (HPP.out _ _ _ HBD.out).mono ?_) | (with_reducible refine (HPP.out _ _ _ HB0.out).mono ?_)); rintro e wP ⟨rfl, hP⟩; have HBP := Lib.hid hP; have hSP : Side17 P w [(ga, actV ⟨0, x⟩)] g r wP := ⟨_, _, _, _, hP⟩; clear hP)
              | (go_at_call 9; (first | (with_reducible refine (HPD.out _ _ _ HBP.out).mono ?_) | (with_reducible refine (HPD.out _ _ _ HB0.out).mono ?_)); rintro e wD ⟨rfl, hD⟩; have HBD := Lib.hid hD; have hSD : Side17 P w [(ga, actV ⟨0, x⟩)] g r wD := ⟨_, _, _, _, hD⟩; clear hD))
            clear k1 k2 k3 k4 k5 k6 k7 hS0 hSP hSD HPP HPD
            simp only [Exit.then, Exit.inBlock]
            go_wp2_with fail
            go_meet
            exact ⟨rfl, next, _, by omega, Lib.hid (HBD.out.free fun c hc => nomatch hc), HIT⟩
          · by_cases hk1 : kd = 1
            · subst hk1
              have HNP := Lib.hid (bNxtP T HB.out (by omega))
              have HGD := Lib.hid fun w' (cs : List (Nat × Obj)) (h : Both17 P w w' cs g r (nextN next W) (tailW W) next W) => bGivD T h (by omega)
              obtain ⟨y, hy⟩ : ∃ y, y = nextX W := ⟨_, rfl⟩
              obtain ⟨z, hz⟩ : ∃ z, z = (headW W).isSome := ⟨_, rfl⟩
              rw [← hy, ← hz] at HNP HGD
              have hyh : HitsAt 0 w y ∧ y.hm ≤ 100000 := by
                rw [hy]
                unfold nextX
                cases hw : headW W with
                | none => exact ⟨num_hits _ _, by show 0 ≤ 100000; omega⟩
                | some v => exact HH.out v (hold_head hw).1
              have HIT : Hid (∀ z ∈ hold (tailW W), HitsAt 0 w z ∧ z.hm ≤ 100000) := Lib.hid fun z hz => HH.out z (hold_tail hz)
              have HSM := Lib.hid fun (w' : World) (hb : Below w.heap.size w w') => rsame14 y y w' (Like.refl y) (hyh.1.below hb) (hyh.1.below hb) hyh.2
              have hnn : nextN next W ≤ next + 1 := by unfold nextN; split <;> omega
              unfold It.val at HNP HGD HSM
              clear hy hz hyh HB HH hfx hxm hbig q1 q2 q3 q4 q5 q6 q7 hk
              go_wp2_with fail
              refine HNP.out.mono ?_; rintro e w4 ⟨rfl, h4⟩
              have HA4 := h4.alloc T (.cells #[.int .i64 y.n, .int .i64 y.b, .int .i64 y.rn, .int .i64 y.ra, .string y.tx, .slice y.hA y.hm y.hc, .int .i64 y.e] 36)
              obtain ⟨w5, hw5⟩ : ∃ w5, w5 = w4.alloc (.cells #[.int .i64 y.n, .int .i64 y.b, .int .i64 y.rn, .int .i64 y.ra, .string y.tx, .slice y.hA y.hm y.hc, .int .i64 y.e] 36) := ⟨_, rfl⟩
              obtain ⟨b1, hb1⟩ : ∃ b1, b1 = w4.heap.size := ⟨_, rfl⟩
              rw [← hw5, ← hb1] at HA4
              have H5 := Lib.hid HA4
              have HW5 := Lib.hid hw5
              have HB1 := Lib.hid hb1
              clear h4 HA4 hw5 hb1 HNP q0
              go_upto_region 22 with fail
              rw [← HW5.out, ← HB1.out]
              clear HW5 HB1
              go_wp2_with fail
              refine (HGD.out _ _ H5.out).mono ?_; rintro e w6 ⟨rfl, h6⟩
              have HA6 := h6.alloc T (.cells #[.int .i64 y.n, .int .i64 y.b, .int .i64 y.rn, .int .i64 y.ra, .string y.tx, .slice y.hA y.hm y.hc, .int .i64 y.e] 36)
              obtain ⟨w7, hw7⟩ : ∃ w7, w7 = w6.alloc (.cells #[.int .i64 y.n, .int .i64 y.b, .int .i64 y.rn, .int .i64 y.ra, .string y.tx, .slice y.hA y.hm y.hc, .int .i64 y.e] 36) := ⟨_, rfl⟩
              obtain ⟨b2, hb2⟩ : ∃ b2, b2 = w6.heap.size := ⟨_, rfl⟩
              rw [← hw7, ← hb2] at HA6
              have H7 := Lib.hid HA6
              have HW7 := Lib.hid hw7
              have HB2 := Lib.hid hb2
              clear h6 HA6 hw7 hb2 HGD H5
              go_upto_region 23 with fail
              rw [← HW7.out, ← HB2.out]
              clear HW7 HB2
              have hx2 := H7.out.at (p := (b2, _)) List.mem_cons_self
              have hx1 := H7.out.at (p := (b1, _)) (List.mem_cons_of_mem _ List.mem_cons_self)
              have e0 := cell_of_row w7 b1 0 _ _ (0, 0) hx1
              have e1 := cell_of_row w7 b1 1 _ _ (0, 0) hx1
              have e2 := cell_of_row w7 b1 2 _ _ (0, 0) hx1
              have e3 := cell_of_row w7 b1 3 _ _ (0, 0) hx1
              have e4 := cell_of_row w7 b1 4 _ _ (0, 0) hx1
              have e5 := cell_of_row w7 b1 5 _ _ (0, 0) hx1
              have e6 := cell_of_row w7 b1 6 _ _ (0, 0) hx1
              have d0 := cell_of_row w7 b2 0 _ _ (0, 0) hx2
              have d1 := cell_of_row w7 b2 1 _ _ (0, 0) hx2
              have d2 := cell_of_row w7 b2 2 _ _ (0, 0) hx2
              have d3 := cell_of_row w7 b2 3 _ _ (0, 0) hx2
              have d4 := cell_of_row w7 b2 4 _ _ (0, 0) hx2
              have d5 := cell_of_row w7 b2 5 _ _ (0, 0) hx2
              have d6 := cell_of_row w7 b2 6 _ _ (0, 0) hx2
              simp only [List.getElem?_toArray, List.getElem?_cons_succ, List.getElem?_cons_zero] at e0 d0 e1 d1 e2 d2 e3 d3 e4 d4 e5 d5 e6 d6
              have HS7 := Lib.hid (HSM.out w7 H7.out.to)
              clear hx1 hx2 HSM
              go_wp2_with fail
              refine HS7.out.mono ?_; rintro e w8 ⟨rfl, hb8⟩
              have H8 := Lib.hid ((H7.out.below T hb8).free (ds := []) (fun c hc => nomatch hc))
              clear hb8 e0 d0 e1 d1 e2 d2 e3 d3 e4 d4 e5 d5 e6 d6 HS7 H7
              rcases z with _ | _
              all_goals
                go_wp2_with fail
                go_meet
                exact ⟨rfl, _, _, by omega, H8, HIT⟩
            · have hk0b : (kd == 0) = false := by simpa using hk
              have hk1b : (kd == 1) = false := by simpa using hk1
              have HRP : Hid (∀ w', Below wa.heap.size wa w' → Calls Try.prog 13 #[.pointer (some ⟨g, 0, none⟩), .int .i64 x.n] w' fun e w'' => e = .returned (.bool (decide (putR next W x.n = 0))) ∧ Below wa.heap.size wa w'') := Lib.hid fun w' hb => (bRomP T (HB.out.below T hb) x.n (by omega) hfx.2.1 hfx.2.2).mono fun e w'' hh => ⟨hh.1, hb.trans (hh.2.mono hb.size)⟩
              have HRD : Hid (∀ w', Below wa.heap.size wa w' → Calls Try.prog 14 #[.pointer (some ⟨r, 0, none⟩), .int .i64 x.n] w' fun e w'' => e = .returned (.bool (decide (putR next W x.n = 0))) ∧ Below wa.heap.size wa w'') := Lib.hid fun w' hb => (bRomD (HB.out.below T hb) x.n (by omega) hfx.2.1 hfx.2.2).mono fun e w'' hh => ⟨hh.1, hb.trans (hh.2.mono hb.size)⟩
              obtain ⟨z, hz⟩ : ∃ z, z = decide (putR next W x.n = 0) := ⟨_, rfl⟩
              rw [← hz] at HRP HRD
              have hgl : ga < wa.heap.size := heap_lt17 (HB.out.at (p := (ga, _)) List.mem_cons_self)
              have k1 : ∀ w', Below wa.heap.size wa w' → w'.cell? ⟨ga, 1, none⟩ = some (.int .i64 x.n) := fun w' hb => (hb.cell (p := ⟨ga, 1, none⟩) hgl).trans q1
              have hS0 : Below wa.heap.size wa wa.drew := below_drewN (Below.refl _ _) 1
              clear hz hgl q1 q2 q3 q4 q5 q6 q7 hfx hxm hbig hk hk1
              go_wp2_with fail
              clear q0
              go_region_held (fun w' => Below wa.heap.size wa w') (assumption) (first
                | (go_at_call 13; (with_reducible refine (HRP.out _ (by assumption)).mono ?_); rintro e wP ⟨rfl, hSP⟩)
                | (go_at_call 14; (with_reducible refine (HRD.out _ (by assumption)).mono ?_); rintro e wD ⟨rfl, hSD⟩))
              all_goals
                have H8 := Lib.hid ((HB.out.below T hSD).free (ds := []) (fun c hc => nomatch hc))
                have HIT : Hid (∀ z ∈ hold W, HitsAt 0 w z ∧ z.hm ≤ 100000) := HH
                clear k1 hS0 hSP hSD HRP HRD
                simp only [Exit.then, Exit.inBlock]
                go_wp2_with fail
                go_meet
                exact ⟨by simp, next, _, by omega, H8, HIT⟩
        case rest =>
          obtain ⟨rfl, next', W', hnx', HC, HT⟩ := hcut
          clear q0 q1 q2 q3 q4 q5 q6 q7 HB HH HFX hbig hd
          have HHEL := Lib.hid (bHelP T HC.out (by omega) fun z hz => ⟨(HT.out z hz).1.below HC.out.to, (HT.out z hz).2⟩)
          obtain ⟨mm, hmm⟩ : ∃ mm, mm = (hold W').length := ⟨_, rfl⟩
          have hmm64 : mm ≤ 64 := by rw [hmm]; exact Nat.le_trans (hold_le W') HC.out.okP.2.2
          rw [← hmm] at HHEL
          have HMM := Lib.hid hmm
          clear hmm
          go_wp2_with fail
          refine HHEL.out.mono ?_; rintro e w4 ⟨AL, cL, ys, rfl, hrl, hb4, hys⟩
          have HB4 := Lib.hid (HC.out.below T hb4)
          have HRL := Lib.hid hrl
          have HYS := Lib.hid hys
          clear hrl hb4 hys HHEL HC
          obtain ⟨AD, cD, c0, c2, hrd⟩ := HB4.out.doc
          rw [← HMM.out] at c0
          have HTI := Lib.hid fun q => bTicP T HB4.out (by omega) q
          have HRY := Lib.hid fun q => bRdyP T HB4.out (by omega) q
          have hic := item_cells
          have HRD := Lib.hid hrd
          have HC0 : Hid (w4.cell? ⟨r, 0, none⟩ = some (.slice AD (hold W').length cD)) := Lib.hid (by rw [← HMM.out]; exact c0)
          clear hrd
          go_upto_if 157 with fail
          go_cut [157] from 112 to 156 (fun s157 wx => s157 = .bool false ∧ Hid (Below w4.heap.size w4 wx))
          case first =>
            rcases head_cases HB4.out.okP with ⟨x', R, e1, e2, e3, -, -⟩ | ⟨e1, -, -, e4⟩
            · rw [e1, show (some x').isSome = true from rfl] at HRY
              have hmm0 : 0 < mm := by rw [HMM.out, e2]; simp
              obtain ⟨bD, oD, rfl, -, hbd, hcd⟩ := HRD.out.2 (by rw [← HMM.out]; exact hmm0)
              have d0 := hcd 0 x'.cells (by rw [e2]; rfl) 0 _ rfl
              simp only [Nat.zero_mul, Nat.add_zero] at d0
              rw [e3] at d0
              have hmi : (0 : Int) < (mm : Int) := by omega
              clear hcd e1 e2 e3
              go_quiet (first | (go_at_call 16; exact HTI.out _) | (go_at_call 17; exact HRY.out _))
              go_wp2_with fail
              go_meet
              exact ⟨rfl, Lib.hid (below_drewN (Below.refl _ _) _)⟩
            · rw [e1, show (none : Option It).isSome = false from rfl] at HRY
              by_cases hmz : mm = 0
              · subst hmz
                clear e1 e4
                go_quiet (first | (go_at_call 16; exact HTI.out _) | (go_at_call 17; exact HRY.out _))
                go_wp2_with fail
                go_meet
                exact ⟨rfl, Lib.hid (below_drewN (Below.refl _ _) _)⟩
              · have hmm0 : 0 < mm := by omega
                obtain ⟨bD, oD, rfl, -, hbd, hcd⟩ := HRD.out.2 (by rw [← HMM.out]; exact hmm0)
                obtain ⟨y, hy⟩ : ∃ y, (hold W')[0]? = some y := ⟨_, List.getElem?_eq_getElem (by rw [← HMM.out]; exact hmm0)⟩
                have hyn := e4 y hy
                have d0 := hcd 0 y.cells (by simp [hy]) 0 _ rfl
                simp only [Nat.zero_mul, Nat.add_zero] at d0
                have hmi : (0 : Int) < (mm : Int) := by omega
                have hyb : (y.n == (next' : Int)) = false := by simpa using hyn
                clear hcd e1 e4 hy hyn hmz
                go_quiet (first | (go_at_call 16; exact HTI.out _) | (go_at_call 17; exact HRY.out _))
                go_wp2_with fail
                go_meet
                exact ⟨rfl, Lib.hid (below_drewN (Below.refl _ _) _)⟩
          case rest =>
            obtain ⟨rfl, HW⟩ := hcut
            clear HTI HRY c0 c2
            go_wp2_with fail
            go_loopw [16] (fun v16 wk => ∃ k : Nat, v16 = .int .i64 (k : Int) ∧ k ≤ mm ∧ Hid (Below w4.heap.size w4 wk)) (fun v16 _ => mm - (intOf v16).toNat)
            case atStart => exact ⟨0, rfl, Nat.zero_le _, HW⟩
            case round =>
              obtain ⟨k, rfl, hk, HK⟩ := hrel
              clear HW
              by_cases hkm : k < mm
              · obtain ⟨x', hx'⟩ : ∃ x', (hold W')[k]? = some x' := ⟨_, List.getElem?_eq_getElem (by rw [← HMM.out]; exact hkm)⟩
                obtain ⟨y, hy, hlike, hyh⟩ := HYS.out k x' hx'
                obtain ⟨bL, cL', eL, -, plt, pc⟩ := HRL.out.at (j := k) (x := y.cells) (by simp [hy])
                injection eL with eL eL2 eL3
                clear eL2 eL3
                subst eL
                obtain ⟨bD, oD, rfl, -, dlt, dcc⟩ := HRD.out.2 (by rw [← HMM.out]; omega)
                have dc := dcc k x'.cells (by simp [hx'])
                have hxh := HT.out x' (List.mem_of_getElem? hx')
                obtain ⟨AD2, cD2, c0, -, -⟩ := HB4.out.doc
                have hrlt : r < w4.heap.size := World.block_lt_of_cell? w4 ⟨r, 0, none⟩ (by rw [c0])
                have hAD : AD2 = some ⟨bD, oD, none⟩ ∧ cD2 = cD := by
                  have := c0.symm.trans HC0.out
                  injection this with this
                  injection this with h1 _ h3
                  exact ⟨h1, h3⟩
                obtain ⟨rfl, rfl⟩ := hAD
                rw [← HMM.out] at c0
                have k0 : ∀ w', Below w4.heap.size w4 w' → w'.cell? ⟨r, 0, none⟩ = some (.slice (some ⟨bD, oD, none⟩) mm cD2) := fun w' hb => (hb.cell (p := ⟨r, 0, none⟩) hrlt).trans c0
                have p0 : ∀ w', Below w4.heap.size w4 w' → w'.cell? ⟨bL, k * 7, none⟩ = some (.int .i64 y.n) := fun w' hb => (hb.cell (p := ⟨bL, k * 7, none⟩) plt).trans (by have := pc 0 _ rfl; simpa using this)
                have p1 : ∀ w', Below w4.heap.size w4 w' → w'.cell? ⟨bL, k * 7 + 1, none⟩ = some (.int .i64 y.b) := fun w' hb => (hb.cell (p := ⟨bL, k * 7 + 1, none⟩) plt).trans (by have := pc 1 _ rfl; simpa using this)
                have p2 : ∀ w', Below w4.heap.size w4 w' → w'.cell? ⟨bL, k * 7 + 2, none⟩ = some (.int .i64 y.rn) := fun w' hb => (hb.cell (p := ⟨bL, k * 7 + 2, none⟩) plt).trans (by have := pc 2 _ rfl; simpa using this)
                have p3 : ∀ w', Below w4.heap.size w4 w' → w'.cell? ⟨bL, k * 7 + 3, none⟩ = some (.int .i64 y.ra) := fun w' hb => (hb.cell (p := ⟨bL, k * 7 + 3, none⟩) plt).trans (by have := pc 3 _ rfl; simpa using this)
                have p4 : ∀ w', Below w4.heap.size w4 w' → w'.cell? ⟨bL, k * 7 + 4, none⟩ = some (.string y.tx) := fun w' hb => (hb.cell (p := ⟨bL, k * 7 + 4, none⟩) plt).trans (by have := pc 4 _ rfl; simpa using this)
                have p5 : ∀ w', Below w4.heap.size w4 w' → w'.cell? ⟨bL, k * 7 + 5, none⟩ = some (.slice y.hA y.hm y.hc) := fun w' hb => (hb.cell (p := ⟨bL, k * 7 + 5, none⟩) plt).trans (by have := pc 5 _ rfl; simpa using this)
                have p6 : ∀ w', Below w4.heap.size w4 w' → w'.cell? ⟨bL, k * 7 + 6, none⟩ = some (.int .i64 y.e) := fun w' hb => (hb.cell (p := ⟨bL, k * 7 + 6, none⟩) plt).trans (by have := pc 6 _ rfl; simpa using this)
                have d0 : ∀ w', Below w4.heap.size w4 w' → w'.cell? ⟨bD, oD + k * 7, none⟩ = some (.int .i64 x'.n) := fun w' hb => (hb.cell (p := ⟨bD, oD + k * 7, none⟩) dlt).trans (by have := dc 0 _ rfl; simpa using this)
                have d1 : ∀ w', Below w4.heap.size w4 w' → w'.cell? ⟨bD, oD + k * 7 + 1, none⟩ = some (.int .i64 x'.b) := fun w' hb => (hb.cell (p := ⟨bD, oD + k * 7 + 1, none⟩) dlt).trans (by have := dc 1 _ rfl; simpa using this)
                have d2 : ∀ w', Below w4.heap.size w4 w' → w'.cell? ⟨bD, oD + k * 7 + 2, none⟩ = some (.int .i64 x'.rn) := fun w' hb => (hb.cell (p := ⟨bD, oD + k * 7 + 2, none⟩) dlt).trans (by have := dc 2 _ rfl; simpa using this)
                have d3 : ∀ w', Below w4.heap.size w4 w' → w'.cell? ⟨bD, oD + k * 7 + 3, none⟩ = some (.int .i64 x'.ra) := fun w' hb => (hb.cell (p := ⟨bD, oD + k * 7 + 3, none⟩) dlt).trans (by have := dc 3 _ rfl; simpa using this)
                have d4 : ∀ w', Below w4.heap.size w4 w' → w'.cell? ⟨bD, oD + k * 7 + 4, none⟩ = some (.string x'.tx) := fun w' hb => (hb.cell (p := ⟨bD, oD + k * 7 + 4, none⟩) dlt).trans (by have := dc 4 _ rfl; simpa using this)
                have d5 : ∀ w', Below w4.heap.size w4 w' → w'.cell? ⟨bD, oD + k * 7 + 5, none⟩ = some (.slice x'.hA x'.hm x'.hc) := fun w' hb => (hb.cell (p := ⟨bD, oD + k * 7 + 5, none⟩) dlt).trans (by have := dc 5 _ rfl; simpa using this)
                have d6 : ∀ w', Below w4.heap.size w4 w' → w'.cell? ⟨bD, oD + k * 7 + 6, none⟩ = some (.int .i64 x'.e) := fun w' hb => (hb.cell (p := ⟨bD, oD + k * 7 + 6, none⟩) dlt).trans (by have := dc 6 _ rfl; simpa using this)
                have HSA : Hid (∀ w', Below w4.heap.size w4 w' → Calls Try.prog 12 #[y.val, x'.val] w' fun e w'' => e = .returned (.bool true) ∧ Below w4.heap.size w4 w'') := Lib.hid fun w' hb => (rsame14 y x' w' hlike (hyh.below hb) (hxh.1.below (HB4.out.to.trans (hb.mono HB4.out.to.size))) hxh.2).mono fun e w'' hh => ⟨hh.1, hb.trans (hh.2.mono hb.size)⟩
                unfold It.val at HSA
                have hS0 : Below w4.heap.size w4 wr.drew := below_drewN HK.out 1
                clear hx' hy hlike hyh pc dcc dc hxh c0 hrlt plt dlt
                go_wp2_with fail
                go_region_held (fun w' => Below w4.heap.size w4 w') (assumption) (first
                  | (go_at_call 12; (with_reducible refine (HSA.out _ (by assumption)).mono ?_); rintro e wS ⟨rfl, hSS⟩))
                all_goals
                  have HF := Lib.hid hSS
                  clear k0 p0 p1 p2 p3 p4 p5 p6 d0 d1 d2 d3 d4 d5 d6 hS0 hSS HSA
                  simp only [Exit.then]
                  go_wp2_with fail
                  exact ⟨⟨k + 1, by go_num, by omega, HF⟩, by simp [intOf]; omega⟩
              · have hkm' : k = mm := by omega
                subst hkm'
                go_wp2_with fail
                have HBK := Lib.hid (HB4.out.below T HK.out)
                have HGK2 := HGK.out
                go_roundg (m - (i + 1))
                case measure => omega
                case rel => exact ⟨i + 1, next', W', by omega, rfl, by go_num, by omega, HBK, HT⟩
    · have HB := Lib.hid HO.out.to
      clear HO HH hgk
      go_wp2_with fail
      go_ret
      exact ⟨rfl, HB.out⟩
theorem act17_any (n : Int) (A : Option Addr) (m c : Nat) (acts : List Act17) (w : World) (hr : RowA17 w A m acts) :
    Calls Try.prog 3 #[.int .i64 n, .slice A m c] w fun e w' => e = .returned (.bool true) ∧ Below w.heap.size w w' := by
  by_cases hm : 60 < m
  · exact act17_many T n A m c w hm
  · by_cases hn : n < 1 ∨ 64 < n
    · exact act17_bad T n A m c w (by omega) hn
    · obtain ⟨k, rfl⟩ : ∃ k : Nat, n = (k : Int) := ⟨n.toNat, by omega⟩
      exact act17_good T k A m c acts w hr (by omega) (by omega) (by omega)
end
end Go.Proofs.Ytmpemcooianfiaa
