/- PoolParts: the walk. -/
import Derived.Test.YtgjmgbpphfccaaaLawLine
import Derived.Test.YtgjmgbpphfccaaaActs
import Derived.Deep.DeepCutAuto
import Derived.Deep.CutBlock
import Derived.Deep.LoopGhost
namespace Go.Proofs.Ytgjmgbpphfccaaa
open Go Go.RowKit
set_option linter.unusedVariables false

theorem below_of_drew {B : Nat} {a b : World} (h : Below B a.drew b) : Below B a b := ⟨h.os, h.tape, h.output, h.size, h.block⟩
theorem lawParts_many (x y : Int) (A : Option Addr) (n c : Nat) (w : World) (hl : 40 < n) (hn : n ≤ maxLen) :
    Calls Try.prog 4 #[.agg #[.int .i64 x, .int .i64 y], .slice A n c] w fun e w' => e = .returned (.bool true) ∧ Below w.heap.size w w' := by
  unfold maxLen at hn
  have hd : decide ((40 : Int) < (n : Int)) = true := by simp; omega
  obtain ⟨W, hW⟩ : ∃ W, W = w.alloc (.cells #[.int .i64 x, .int .i64 y] 22) := ⟨_, rfl⟩
  have hb0 : Below w.heap.size w W := by rw [hW]; exact (Below.refl _ _).alloc (Nat.le_refl _) _
  have HW := Lib.hid hW
  clear hW
  go_enter Try.func4, Try.ntmps4
  go_wp2_with fail
  rw [← HW.out]
  refine (awake6_any _).mono ?_; rintro e w1 ⟨rfl, hbel⟩
  go_wp2_with fail
  refine (awake6_any _).mono ?_; rintro e w2 ⟨rfl, hbel2⟩
  have hb1 := hb0.trans (Below.mono hbel hb0.size)
  have hb2 := hb1.trans (Below.mono hbel2 hb1.size)
  go_wp2_with fail
  go_ret
  exact ⟨rfl, hb2⟩

theorem iv_at (hs : List Nat) (i : Nat) : (iv hs)[i]? = (hs[i]?).map fun h => .int .i64 (h : Int) := by
  unfold iv ints
  rw [List.getElem?_map, List.getElem?_map]
  cases hs[i]? <;> rfl
theorem heldL_at {hs : List Nat} {i x : Nat} (h : hs[i]? = some x) : heldL hs (i : Int) = x := by rw [heldL_nat, List.getD, h]; rfl
/-- The marks: those of the line's first j have been seen. -/
def Seen (w : World) (gse : Nat) (ln : List Nat) (j : Nat) : Prop := ∃ cur : Array Value, w.heap[gse]? = some (.cells cur 56 (0, 0)) ∧ cur.size = 64 ∧ ∀ q, q < 64 → cur[q]? = some (.bool (decide (q ∈ ln.take j)))
theorem seen_none : (#[.bool false, .bool false, .bool false, .bool false, .bool false, .bool false, .bool false, .bool false, .bool false, .bool false, .bool false, .bool false, .bool false, .bool false, .bool false, .bool false, .bool false, .bool false, .bool false, .bool false, .bool false, .bool false, .bool false, .bool false, .bool false, .bool false, .bool false, .bool false, .bool false, .bool false, .bool false, .bool false, .bool false, .bool false, .bool false, .bool false, .bool false, .bool false, .bool false, .bool false, .bool false, .bool false, .bool false, .bool false, .bool false, .bool false, .bool false, .bool false, .bool false, .bool false, .bool false, .bool false, .bool false, .bool false, .bool false, .bool false, .bool false, .bool false, .bool false, .bool false, .bool false, .bool false, .bool false, .bool false] : Array Value) = Array.replicate 64 (.bool false) := rfl
theorem Seen.start (w : World) (ln : List Nat) : Seen (w.alloc (.cells #[.bool false, .bool false, .bool false, .bool false, .bool false, .bool false, .bool false, .bool false, .bool false, .bool false, .bool false, .bool false, .bool false, .bool false, .bool false, .bool false, .bool false, .bool false, .bool false, .bool false, .bool false, .bool false, .bool false, .bool false, .bool false, .bool false, .bool false, .bool false, .bool false, .bool false, .bool false, .bool false, .bool false, .bool false, .bool false, .bool false, .bool false, .bool false, .bool false, .bool false, .bool false, .bool false, .bool false, .bool false, .bool false, .bool false, .bool false, .bool false, .bool false, .bool false, .bool false, .bool false, .bool false, .bool false, .bool false, .bool false, .bool false, .bool false, .bool false, .bool false, .bool false, .bool false, .bool false, .bool false] 56)) w.heap.size ln 0 := by
  refine ⟨_, heap_alloc_new w _, rfl, fun q hq => ?_⟩
  rw [seen_none, Array.getElem?_replicate, if_pos hq]
  simp
theorem not_seen {ln : List Nat} (hnd : ln.Nodup) {j x : Nat} (h : ln[j]? = some x) : x ∉ ln.take j := by
  intro hm
  obtain ⟨i, hi, he⟩ := List.getElem_of_mem hm
  rw [List.length_take] at hi
  rw [List.getElem_take] at he
  obtain ⟨hj, he2⟩ := List.getElem?_eq_some_iff.1 h
  have := (List.getElem_inj (xs := ln) (h₀ := by omega) (h₁ := hj) hnd).1 (he.trans he2.symm)
  omega
theorem Seen.more {w : World} {gse j x : Nat} {ln : List Nat} (h : Seen w gse ln j) (hx : ln[j]? = some x) : Seen (w.setCell ⟨gse, x, none⟩ (.bool true)) gse ln (j + 1) := by
  obtain ⟨cur, hg, hs, hc⟩ := h
  refine ⟨_, heap_setCell_same w gse x _ _ _ hg, by simpa using hs, fun q hq => ?_⟩
  have ht : ln.take (j + 1) = ln.take j ++ [x] := by
    rw [List.take_add_one, hx]
    rfl
  by_cases hqx : q = x
  · subst hqx
    rw [Array.getElem?_setIfInBounds_self_of_lt (by omega), ht]
    simp
  · rw [Array.getElem?_setIfInBounds_ne (fun e => hqx e.symm), hc q hq, ht]
    simp [hqx]
/-- How many of the first m are held. -/
def heldTo (hs : List Nat) (m : Nat) : Nat := (hs.take m).countP (fun h => decide (0 < h))
theorem heldTo_succ (hs : List Nat) (m : Nat) (h : m < hs.length) : heldTo hs (m + 1) = heldTo hs m + if 0 < hs.getD m 0 then 1 else 0 := by
  unfold heldTo
  rw [List.take_add_one, List.getElem?_eq_getElem h, List.countP_append]
  simp only [List.getD, List.getElem?_eq_getElem h, Option.getD_some, Option.toList_some, List.countP_singleton]
  by_cases h0 : 0 < hs[m] <;> simp [h0]
theorem heldTo_le (hs : List Nat) (m : Nat) : heldTo hs m ≤ m := Nat.le_trans List.countP_le_length (by rw [List.length_take]; omega)

set_option maxHeartbeats 4000000 in
set_option maxRecDepth 20000 in
theorem lawParts_short (x y : Int) (A : Option Addr) (n c : Nat) (xs : List ActL) (W : World) (hn : n ≤ 40) (hr : RowA W A n xs) (hxw : (Lit.int .i64 x).wf = true) (hyw : (Lit.int .i64 y).wf = true) :
    Calls Try.prog 4 #[.agg #[.int .i64 x, .int .i64 y], .slice A n c] W fun e w' => e = .returned (.bool true) ∧ Below W.heap.size W w' := by
  have hd : decide ((40 : Int) < (n : Int)) = false := by simp; omega
  obtain ⟨W0, hW0⟩ : ∃ W0, W0 = W.alloc (.cells #[.int .i64 x, .int .i64 y] 22) := ⟨_, rfl⟩
  have hb0 : Below W.heap.size W W0 := by rw [hW0]; exact (Below.refl _ _).alloc (Nat.le_refl _) _
  obtain ⟨gs, hgs⟩ : ∃ gs, gs = W.heap.size := ⟨_, rfl⟩
  have hs0 : W0.heap[gs]? = some (.cells #[.int .i64 x, .int .i64 y] 22 (0, 0)) := by rw [hW0, hgs]; exact heap_alloc_new W _
  have hlt0 : gs < W0.heap.size := (Array.getElem?_eq_some_iff.1 hs0).1
  have HW0 := Lib.hid hW0
  have HGS := Lib.hid hgs
  have HR := Lib.hid hr
  have HS0 := Lib.hid hs0
  obtain ⟨t, ht⟩ : ∃ t, x.tmod 64 = t := ⟨_, rfl⟩
  have ht1 : -64 < t := by have := Int.lt_tmod_of_pos x (show (0 : Int) < 64 by decide); omega
  have ht2 : t < 64 := by have := Int.tmod_lt_of_pos x (show (0 : Int) < 64 by decide); omega
  obtain ⟨u, hu⟩ : ∃ u, y.tmod 200 = u := ⟨_, rfl⟩
  have hu1 : -200 < u := by have := Int.lt_tmod_of_pos y (show (0 : Int) < 200 by decide); omega
  have hu2 : u < 200 := by have := Int.tmod_lt_of_pos y (show (0 : Int) < 200 by decide); omega
  obtain ⟨k, hk⟩ : ∃ k : Nat, 1 + t % 64 = (k : Int) := Int.eq_ofNat_of_zero_le (by omega)
  obtain ⟨z, hz⟩ : ∃ z : Nat, 1 + u % 200 = (z : Int) := Int.eq_ofNat_of_zero_le (by omega)
  have hk1 : 1 ≤ k := by omega
  have hk2 : k ≤ 64 := by omega
  have hz1 : 1 ≤ z := by omega
  have hz2 : z ≤ 200 := by omega
  have hnew : ∀ w, Calls Try.prog 9 #[.int .i64 (k : Int), .int .i64 (z : Int)] w fun e w' => ∃ F g, e = .returned (.tuple #[.pointer (some ⟨g, 0, none⟩), .int .i64 0]) ∧ PoolS w' w.heap.size F g z ⟨List.replicate k [], List.replicate k 0, List.range k⟩ ∧ Below w.heap.size w w' := fun w => newAny k z (by omega) (by omega) w
  have HNEW := Lib.hid hnew
  have G0 := Lib.hid ((good_new k z).more (show 0 ≤ 0 + 1 by omega))
  clear hW0 hgs hr hs0 hnew
  go_enter Try.func4, Try.ntmps4
  go_wp2_with fail
  rw [← HW0.out, ← HGS.out]
  refine (awake6_any _).mono ?_; rintro e w1 ⟨rfl, hb1⟩
  have hg1 := (hb1.block gs hlt0).trans HS0.out
  have k0 : w1.cell? ⟨gs, 0, none⟩ = some (.int .i64 x) := cell_of_row w1 gs 0 _ _ (0, 0) hg1
  have k1 : w1.cell? ⟨gs, 1, none⟩ = some (.int .i64 y) := cell_of_row w1 gs 1 _ _ (0, 0) hg1
  go_wp2_with fail
  go_region
  go_wp2_with fail
  refine (HNEW.out _).mono ?_; rintro e w2 ⟨F2, g, rfl, hp2, hb2⟩
  have hWB := hb0.trans (Below.mono hb1 hb0.size)
  have hb02 : Below W.heap.size W w2 := hWB.trans (Below.mono (below_of_drew hb2) hWB.size)
  obtain ⟨B, hB⟩ : ∃ B, B = w1.drew.heap.size := ⟨_, rfl⟩
  rw [← hB] at hp2
  have hWB2 : W.heap.size ≤ B := by rw [hB]; exact hWB.size
  have HT := Lib.hid ht
  have HU := Lib.hid hu
  have HKE := Lib.hid hk
  have HZE := Lib.hid hz
  have HP2 := Lib.hid hp2
  have HB2 := Lib.hid hb02
  clear hB hb1 hb2 hg1 k0 k1 ht hu hk hz ht1 ht2 hu1 hu2 hp2 hb02 hWB hb0
  go_wp2_with fail
  go_loopg [9] n (fun gk v9 wr => ∃ (i : Nat) (F : Nat → Prop) (s : St), i ≤ n ∧ gk = n - i ∧ v9 = .int .i64 (i : Int) ∧ Hid (PoolS wr B F g z s) ∧ Hid (Good k z (i + 1) s) ∧ Hid (Below W.heap.size W wr))
  case atStart => exact ⟨0, F2, _, by omega, by omega, rfl, HP2, G0, HB2⟩
  case round =>
    clear HP2 HB2 G0
    obtain ⟨i, F, s, hi, hgk, rfl, HP, HG, HB⟩ := hrel
    by_cases hlt : i < n
    · obtain ⟨b, o, rfl, hbl, hc⟩ := HR.out.2 (by omega)
      obtain ⟨D, d, g0, g1, g2, g3, g4, g5, g6, g7, g8⟩ := hc i hlt
      obtain ⟨v, hv⟩ : ∃ v, v = xs.getD i actNone := ⟨_, rfl⟩
      rw [← hv] at g0 g1 g2 g3 g4 g5 g6 g7
      obtain ⟨kd, ai, aa, ab, ys⟩ := v
      simp only at g0 g1 g2 g3 g4 g5 g6 g7
      have cl : ∀ q u, W.cell? ⟨b, q, none⟩ = some u → wr.cell? ⟨b, q, none⟩ = some u := fun q u h => (HB.out.cell (p := ⟨b, q, none⟩) hbl).trans h
      have k0 := cl _ _ g0
      have k1 := cl _ _ g1
      have k2 := cl _ _ g2
      have k3 := cl _ _ g3
      have k4 := cl _ _ g4
      have HY := Lib.hid g5
      have HYN := Lib.hid g6
      have HV := Lib.hid hv
      have HGK := Lib.hid hgk
      unfold maxLen at g8
      clear hc g0 g1 g2 g3 g4 g5 g6 hv cl hgk
      by_cases h500 : 500 < ys.length
      · have d500 : decide ((500 : Int) < (ys.length : Int)) = true := by simp; omega
        go_wp2_with fail
        go_ret
        exact ⟨rfl, HB.out.alloc HB.out.size _⟩
      · have d500 : decide ((500 : Int) < (ys.length : Int)) = false := by simp; omega
        obtain ⟨wa, hwa⟩ : ∃ wa, wa = wr.alloc (.cells #[.int .i64 kd, .int .i64 ai, .int .i64 aa, .int .i64 ab, .slice D ys.length d] 33) := ⟨_, rfl⟩
        have hba : Below wr.heap.size wr wa := by rw [hwa]; exact (Below.refl _ _).alloc (Nat.le_refl _) _
        obtain ⟨ga, hga⟩ : ∃ ga, ga = wr.heap.size := ⟨_, rfl⟩
        have hcells : wa.heap[ga]? = some (.cells #[.int .i64 kd, .int .i64 ai, .int .i64 aa, .int .i64 ab, .slice D ys.length d] 33 (0, 0)) := by rw [hwa, hga]; exact heap_alloc_new wr _
        have q0 : wa.cell? ⟨ga, 0, none⟩ = some (.int .i64 kd) := cell_of_row wa ga 0 _ _ (0, 0) hcells
        have q1 : wa.cell? ⟨ga, 1, none⟩ = some (.int .i64 ai) := cell_of_row wa ga 1 _ _ (0, 0) hcells
        have q4 : wa.cell? ⟨ga, 4, none⟩ = some (.slice D ys.length d) := cell_of_row wa ga 4 _ _ (0, 0) hcells
        have hbw : Below W.heap.size W wa := HB.out.trans (Below.mono hba HB.out.size)
        have HPA := Lib.hid (HP.out.below hba)
        have HBA := Lib.hid hbw
        have HWA := Lib.hid hwa
        have HGA := Lib.hid hga
        have HTAKE := Lib.hid (takeAny HPA.out HG.out hk2)
        have HFILL := Lib.hid (fillAny HPA.out HG.out hk2 ai D ys.length d ys (HY.out.below HBA.out (Nat.le_refl _)) HYN.out (by omega))
        have HHOLD := Lib.hid (holdAny HPA.out HG.out hk2 (by omega) ai)
        have HDROP := Lib.hid (dropAny HPA.out HG.out hk2 (by omega) ai)
        have HG1 := Lib.hid (good_take HG.out)
        have HG2 := Lib.hid (good_fill HG.out ai ys)
        have HG3 := Lib.hid (good_hold HG.out ai)
        have HG4 := Lib.hid (good_drop HG.out ai)
        clear hwa hga hba hcells hbw
        go_upto_block 2 with fail
        rw [← HWA.out, ← HGA.out]
        clear k0 k1 k2 k3 k4
        go_cut [] (fun wx => ∃ (F : Nat → Prop) (s : St), Hid (PoolS wx B F g z s) ∧ Hid (Good k z (i + 2) s) ∧ Hid (Below W.heap.size W wx))
        case first =>
          by_cases h0 : kd = 0
          · have e0 : (kd == 0) = true := by simpa using h0
            clear h0
            go_wp2_with fail
            refine HTAKE.out.mono ?_; rintro e w3 ⟨rfl, F3, hp3, hs3⟩
            have hb3 := HBA.out.trans (Below.mono (hs3.below HPA.out) hWB2)
            have HP3 := Lib.hid hp3
            have HB3 := Lib.hid hb3
            clear hp3 hs3 hb3
            go_wp2_with fail
            go_meet
            exact ⟨F3, _, HP3, HG1, HB3⟩
          · have f0 : (kd == 0) = false := by simpa using h0
            clear h0
            by_cases h1 : kd = 1
            · have e1 : (kd == 1) = true := by simpa using h1
              clear h1
              go_wp2_with fail
              refine HFILL.out.mono ?_; rintro e w3 ⟨rfl, F3, hp3, hs3⟩
              have hb3 := HBA.out.trans (Below.mono (hs3.below HPA.out) hWB2)
              have HP3 := Lib.hid hp3
              have HB3 := Lib.hid hb3
              clear hp3 hs3 hb3
              go_wp2_with fail
              go_meet
              exact ⟨F3, _, HP3, Lib.hid (HG2.out.more (by omega)), HB3⟩
            · have f1 : (kd == 1) = false := by simpa using h1
              clear h1
              by_cases h3 : kd = 3
              · have e3 : (kd == 3) = true := by simpa using h3
                clear h3
                go_wp2_with fail
                refine HHOLD.out.mono ?_; rintro e w3 ⟨rfl, F3, hp3, hs3⟩
                have hb3 := HBA.out.trans (Below.mono (hs3.below HPA.out) hWB2)
                have HP3 := Lib.hid hp3
                have HB3 := Lib.hid hb3
                clear hp3 hs3 hb3
                go_wp2_with fail
                go_meet
                exact ⟨F3, _, HP3, HG3, HB3⟩
              · have f3 : (kd == 3) = false := by simpa using h3
                clear h3
                by_cases h4 : kd = 4
                · have e4 : (kd == 4) = true := by simpa using h4
                  clear h4
                  go_wp2_with fail
                  refine HDROP.out.mono ?_; rintro e w3 ⟨rfl, F3, hp3, hs3⟩
                  have hb3 := HBA.out.trans (Below.mono (hs3.below HPA.out) hWB2)
                  have HP3 := Lib.hid hp3
                  have HB3 := Lib.hid hb3
                  clear hp3 hs3 hb3
                  go_wp2_with fail
                  go_meet
                  exact ⟨F3, _, HP3, Lib.hid (HG4.out.more (by omega)), HB3⟩
                · have f4 : (kd == 4) = false := by simpa using h4
                  clear h4
                  go_wp2_with fail
                  go_meet
                  exact ⟨F, s, HPA, Lib.hid (HG.out.more (by omega)), HBA⟩
        case rest =>
          obtain ⟨F5, s5, HP5, HG5, HB5⟩ := hcut
          clear q0 q1 q4 HTAKE HFILL HHOLD HDROP HG1 HG2 HG3 HG4 HPA HBA HWA HGA HP HG HB
          have HFR := Lib.hid (freeAny HP5.out HG5.out hk2)
          go_wp2_with fail
          refine HFR.out.mono ?_; rintro e w6 ⟨v6, rfl, ho6, hb6⟩
          obtain ⟨A6, c6, rfl, hl6, hc6m, hz6, hcell6⟩ := own_cells ho6
          have hp6 := HP5.out.below hb6
          have hb06 : Below W.heap.size W w6 := HB5.out.trans (Below.mono hb6 HB5.out.size)
          obtain ⟨W7, hW7⟩ : ∃ W7, W7 = w6.alloc (.cells #[.bool false, .bool false, .bool false, .bool false, .bool false, .bool false, .bool false, .bool false, .bool false, .bool false, .bool false, .bool false, .bool false, .bool false, .bool false, .bool false, .bool false, .bool false, .bool false, .bool false, .bool false, .bool false, .bool false, .bool false, .bool false, .bool false, .bool false, .bool false, .bool false, .bool false, .bool false, .bool false, .bool false, .bool false, .bool false, .bool false, .bool false, .bool false, .bool false, .bool false, .bool false, .bool false, .bool false, .bool false, .bool false, .bool false, .bool false, .bool false, .bool false, .bool false, .bool false, .bool false, .bool false, .bool false, .bool false, .bool false, .bool false, .bool false, .bool false, .bool false, .bool false, .bool false, .bool false, .bool false] 56) := ⟨_, rfl⟩
          obtain ⟨gse, hgse⟩ : ∃ gse, gse = w6.heap.size := ⟨_, rfl⟩
          have hb67 : Below w6.heap.size w6 W7 := by rw [hW7]; exact (Below.refl _ _).alloc (Nat.le_refl _) _
          have hse0 : Seen W7 gse s5.ln 0 := by rw [hW7, hgse]; exact Seen.start w6 s5.ln
          have hp7 := hp6.below hb67
          have hF : ∀ q, F5 q → ¬ (q = gse) := fun q hq e => by have := (hp6.low hq).2; omega
          have hwz : W.heap.size ≤ gse := by rw [hgse]; exact hb06.size
          have hb07 : Below W.heap.size W W7 := hb06.trans (Below.mono hb67 hb06.size)
          have hrow : ∀ (j x : Nat), s5.ln[j]? = some x → ∃ b6, A6 = some ⟨b6, 0, none⟩ ∧ b6 < gse ∧ W7.cell? ⟨b6, j, none⟩ = some (.int .i64 (x : Int)) := by
            intro j x hx
            have hjl := (List.getElem?_eq_some_iff.1 hx).1
            rcases A6 with _ | a6
            · have := (hz6 rfl).1; omega
            · obtain ⟨b6, rfl, _, hblt, hcc, _⟩ := hcell6 a6 rfl
              refine ⟨b6, rfl, by rw [hgse]; exact hblt, (hb67.cell (p := ⟨b6, j, none⟩) hblt).trans (hcc j _ ?_)⟩
              rw [iv_at, hx]; rfl
          have HW7 := Lib.hid hW7
          have HGSE := Lib.hid hgse
          have HSE0 := Lib.hid hse0
          have HP7 := Lib.hid hp7
          have HF := Lib.hid hF
          have HB7 := Lib.hid hb07
          have HROW := Lib.hid hrow
          obtain ⟨l, hl⟩ : ∃ l, l = s5.ln.length := ⟨_, rfl⟩
          have HL := Lib.hid hl
          have hlk : l ≤ k := by have := HG5.out.line; omega
          rw [← hl]
          unfold maxLen at hc6m
          clear hW7 hse0 hb67 hp7 hF hb07 hp6 hrow hz6 hcell6 ho6 hb6 hl6 hb06 hl hgse HFR
          go_wp2_with fail
          rw [← HW7.out, ← HGSE.out]
          go_loopg [13] l (fun gk v13 wx => ∃ j : Nat, j ≤ l ∧ gk = l - j ∧ v13 = .int .i64 (j : Int) ∧ Hid (Seen wx gse s5.ln j) ∧ Hid (Moved (fun q => q = gse) W7 wx))
          case atStart => exact ⟨0, by omega, by omega, rfl, HSE0, Lib.hid (Moved.refl _ _)⟩
          case round =>
            clear HSE0
            obtain ⟨j, hj, hgk2, rfl, HSE, HM⟩ := hrel
            have HGK2 := Lib.hid hgk2
            clear hgk2
            by_cases hjl : j < l
            · obtain ⟨xx, hx⟩ : ∃ xx, s5.ln[j]? = some xx := ⟨_, List.getElem?_eq_getElem (by rw [← HL.out]; exact hjl)⟩
              obtain ⟨b6, rfl, hb6l, hcx⟩ := HROW.out j xx hx
              have hmem : xx ∈ s5.ln := mem_of_get? hx
              have hxk := HG5.out.lt hmem
              have k1 : wr.cell? ⟨b6, j, none⟩ = some (.int .i64 (xx : Int)) := by
                rw [World.cell?_of_block (w := W7) (a := ⟨b6, j, none⟩) (HM.out.block b6 (World.block_lt_of_cell? W7 (⟨b6, j, none⟩ : Addr) hcx) (by omega))]
                exact hcx
              obtain ⟨cur, hsg, hss, hsc⟩ := HSE.out
              have k2 : wr.cell? ⟨gse, xx, none⟩ = some (.bool false) := by
                rw [cell_of_row wr gse xx cur _ (0, 0) hsg, hsc xx (by omega)]
                simp [not_seen HG5.out.nd hx]
              have k3 : wr.frozen? ⟨gse, xx, none⟩ = false := by simp [World.frozen?, hsg]
              have hpw := HP7.out.moved HM.out HF.out
              have hho := holdsAny hpw HG5.out hk2 (xx : Int)
              rw [heldL_at (HG5.out.fr xx hmem)] at hho
              have HHO : Hid (Calls Try.prog 25 #[.pointer (some ⟨g, 0, none⟩), .int .i64 (xx : Int)] wr fun e w' => e = .returned (.int .i64 0) ∧ wr = w') := Lib.hid hho
              have HSE' := Lib.hid (HSE.out.more hx)
              have HM' : Hid (Moved (fun q => q = gse) W7 (wr.setCell ⟨gse, xx, none⟩ (.bool true))) := Lib.hid (HM.out.setCell (p := ⟨gse, xx, none⟩) (.inl rfl) _)
              have d1 : decide ((xx : Int) < 0) = false := by simp
              have d2 : decide ((k : Int) ≤ (xx : Int)) = false := by simp; omega
              have hx64 : xx < 64 := by omega
              clear hx hcx hmem hsg hss hsc hpw hho
              go_wp2_with fail
              refine HHO.out.mono ?_; rintro e w8 ⟨rfl, rfl⟩
              go_wp2_with fail
              go_roundg (l - (j + 1))
              case measure => have := HGK2.out; omega
              case rel => exact ⟨j + 1, by omega, rfl, by go_num, HSE', HM'⟩
            · go_wp2_with fail
              clear hjl hj HSE HGK2
              have hpw := HP7.out.moved HM.out HF.out
              have HPW := Lib.hid hpw
              clear hpw
              obtain ⟨wy, hwy⟩ : ∃ wy, wy = wr := ⟨_, rfl⟩
              have HWY := Lib.hid hwy
              have HM2 : Hid (Moved (fun q => q = gse) W7 wy) := Lib.hid (by rw [hwy]; exact HM.out)
              clear hwy HM
              go_loopg [14, 15] k (fun gk v14 v15 wx => ∃ m : Nat, m ≤ k ∧ gk = k - m ∧ v15 = .int .i64 (m : Int) ∧ v14 = .int .i64 (heldTo s5.hs m : Int) ∧ Hid (PoolS wx B F5 g z s5) ∧ Hid (wy = wx))
              case atStart => exact ⟨0, by omega, by omega, rfl, rfl, HPW, HWY⟩
              case round =>
                clear HPW HWY
                obtain ⟨m, hm, hgk3, rfl, rfl, HPW, HWY⟩ := hrel
                have HGK3 := Lib.hid hgk3
                clear hgk3
                have hh0 := heldTo_le s5.hs m
                have hhn := HG5.out.hn
                by_cases hmk : m < k
                · have hho := holdsAny HPW.out HG5.out hk2 (m : Int)
                  rw [heldL_nat] at hho
                  have HS := Lib.hid (heldTo_succ s5.hs m (by omega))
                  obtain ⟨q, hq⟩ : ∃ q, q = s5.hs.getD m 0 := ⟨_, rfl⟩
                  obtain ⟨r, hr⟩ : ∃ r, r = heldTo s5.hs m := ⟨_, rfl⟩
                  rw [← hq] at hho HS
                  rw [← hr] at HS hh0 ⊢
                  have HHO := Lib.hid hho
                  clear hho hq hr hhn
                  by_cases hq0 : 0 < q
                  · have d1 : decide (0 < (q : Int)) = true := by simp; omega
                    go_wp2_with fail
                    refine HHO.out.mono ?_; rintro e w8 ⟨rfl, rfl⟩
                    go_wp2_with fail
                    go_roundg (k - (m + 1))
                    case measure => have := HGK3.out; omega
                    case rel => exact ⟨m + 1, by omega, rfl, by go_num, by rw [HS.out, if_pos hq0]; go_num, HPW, HWY⟩
                  · have d1 : decide (0 < (q : Int)) = false := by simp; omega
                    go_wp2_with fail
                    refine HHO.out.mono ?_; rintro e w8 ⟨rfl, rfl⟩
                    go_wp2_with fail
                    go_roundg (k - (m + 1))
                    case measure => have := HGK3.out; omega
                    case rel => exact ⟨m + 1, by omega, rfl, by go_num, by rw [HS.out, if_neg hq0]; rfl, HPW, HWY⟩
                · have hme : m = k := by omega
                  have hcount : heldTo s5.hs m = s5.hs.countP (fun h => decide (0 < h)) := by
                    unfold heldTo
                    rw [List.take_of_length_le (by omega)]
                  have hal := all_le z s5.os s5.hs (by rw [HG5.out.lo, hhn]) HG5.out.len HG5.out.emp
                  have hcnt := HG5.out.cnt
                  rw [← hcount] at hal hcnt
                  rw [← HL.out] at hcnt
                  obtain ⟨r, hr⟩ : ∃ r, r = heldTo s5.hs m := ⟨_, rfl⟩
                  rw [← hr] at hal hcnt hh0 ⊢
                  have hby := bytesAny HPW.out HG5.out hk2 (by omega)
                  obtain ⟨tb, htb⟩ : ∃ tb, tb = allL s5.os := ⟨_, rfl⟩
                  rw [← htb] at hby hal
                  have HBY := Lib.hid hby
                  have hr64 : r ≤ 64 := by omega
                  have hrz : r * z ≤ 64 * 200 := Nat.mul_le_mul hr64 hz2
                  obtain ⟨rz, hrzq⟩ : ∃ rz, rz = r * z := ⟨_, rfl⟩
                  have hmul : (r : Int) * (z : Int) = (rz : Int) := by rw [hrzq]; simp
                  rw [← hrzq] at hal hrz
                  have hrl : r + l = k := hcnt
                  have hsum : (r : Int) + (l : Int) = (k : Int) := by omega
                  have d1 : decide ((rz : Int) < (tb : Int)) = false := by simp; omega
                  clear hcount hcnt hr htb hby hrzq hme hrl
                  go_wp2_with fail
                  refine HBY.out.mono ?_; rintro e w9 ⟨rfl, hb9⟩
                  have HB9 : Hid (Below W.heap.size W w9) := Lib.hid (by
                    have h1 : Below W.heap.size W wr := by
                      rw [← HWY.out]
                      exact HB7.out.trans (HM2.out.below (fun q hq => by rw [hq]; exact hwz) HB7.out.size)
                    exact h1.trans (Below.mono hb9 h1.size))
                  have HP9 := Lib.hid (HPW.out.below hb9)
                  clear hb9
                  go_wp2_with fail
                  go_roundg (n - (i + 1))
                  case measure => have := HGK.out; omega
                  case rel => exact ⟨i + 1, F5, s5, by omega, rfl, by go_num, HP9, HG5, HB9⟩
    · go_wp2_with fail
      go_ret
      exact ⟨rfl, HB.out⟩

theorem lawParts (x y : Int) (A : Option Addr) (n c : Nat) (xs : List ActL) (W : World) (hx : (Lit.int .i64 x).wf = true) (hy : (Lit.int .i64 y).wf = true) (hr : RowA W A n xs) (hm : n ≤ maxLen) :
    Calls Try.prog 4 #[.agg #[.int .i64 x, .int .i64 y], .slice A n c] W fun e w' => e = .returned (.bool true) ∧ Below W.heap.size W w' := by
  by_cases hl : 40 < n
  · exact lawParts_many x y A n c W hl hm
  · exact lawParts_short x y A n c xs W (by omega) hr hx hy
end Go.Proofs.Ytgjmgbpphfccaaa
