/- The writer's often. -/
import Derived.Test.YtegcebgoiocakaaP03
namespace Go.Proofs.Ytegcebgoiocakaa
open Go Go.RowKit
set_option linter.unusedVariables false
set_option maxRecDepth 20000

/-- How many instructions a count comes to. -/
def oftC (mn mo c : Nat) (mx : Int) : Nat := mn * c + (if mx < 0 then c + 2 else mo * (c + 1))
set_option maxHeartbeats 8000000 in
theorem often_gen {B g q pc c : Nat} {w : World} {P : Option Addr} {xs : List IV} (h : WrS B g w P q pc xs) {A D : Option Addr} {ns cs nk ck : Nat} {op mx : Int} (mn mo : Nat) (hmn : mn ≤ 1000) (hmx : -1 ≤ mx) (hmx2 : mx ≤ 1000) (hmo : (mo : Int) = max mx (mn : Int) - (mn : Int)) (hq : q + oftC mn mo c mx ≤ 20000)
    (HR : (0 < mn ∨ mx < 0 ∨ 0 < mo) → RowY B g w (.slice D nk ck) c) :
    Calls Try.prog 68 #[.pointer (some ⟨g, 0, none⟩), .agg #[.int .i64 op, .slice A ns cs, .int .i64 (mn : Int), .int .i64 mx, .slice D nk ck]] w (AddedY B g w P q pc xs (oftC mn mo c mx)) := by
  have hgl := h.lt
  have hBw : B ≤ w.heap.size := by have := h.hB; omega
  have HCo := Lib.hid fun w' => counts_gen (A := A) (D := D) (ns := ns) (cs := cs) (nk := nk) (ck := ck) (op := op) (mx := mx) mn mo hmn hmx hmx2 hmo w'
  have HRo := Lib.hid HR
  have HS := Lib.hid h
  have HXQ := Lib.hid h.len
  have HB := Lib.hid hBw
  have HMX := Lib.hid (And.intro hmx (And.intro hmx2 hmo))
  have HQ := Lib.hid hq
  clear h HR hq hBw hmo hmx hmx2
  go_enter Try.func68, Try.ntmps68
  go_wp2_with (go_at_call 62; (with_reducible refine (HCo.out _).mono ?_); rintro e w1 ⟨rfl, hb⟩; have HB1 := Lib.hid (((Below.refl w.heap.size w).alloc (Nat.le_refl _) (.cells #[.int .i64 op, .slice A ns cs, .int .i64 (mn : Int), .int .i64 mx, .slice D nk ck] 52)).trans (hb.mono (by simp))); have HBx := Lib.hid (show w1.heap[w.heap.size]? = some (.cells #[.int .i64 op, .slice A ns cs, .int .i64 (mn : Int), .int .i64 mx, .slice D nk ck] 52 (0, 0)) from (hb.block _ (by simp)).trans (heap_alloc_new w _)); clear hb)
  go_loopw [6, 16] (fun vb vi wr => ∃ (j pc' : Nat) (P' : Option Addr) (xs' : List IV), vi = .int .i64 (j : Int) ∧ j ≤ mn ∧ Hid (StY B g w P q pc xs (j * c) wr P' pc' xs' ∧ wr.heap[w.heap.size]? = some (.cells #[.int .i64 op, .slice A ns cs, .int .i64 (mn : Int), .int .i64 mx, .slice D nk ck] 52 (0, 0)) ∧ (Value.slice P' (q + j * c) pc').ownBlock ≠ some w.heap.size)) (fun _ vi _ => mn - (match vi with | .int _ j => j.toNat | _ => 0))
  case atStart =>
    refine ⟨0, pc, P, xs, rfl, Nat.zero_le _, Lib.hid ?_⟩
    rw [Nat.zero_mul, Nat.add_zero]
    exact ⟨(StY.refl (HS.out.below HB1.out)).behind HB.out HB1.out, HBx.out, fun e => by have := (row_lt HS.out.row e).2; omega⟩
  case round =>
    obtain ⟨j, pc', P', xs', rfl, hj, H⟩ := hrel
    obtain ⟨y0, y1, y2, y3, y4, yf⟩ := box_facts H.out.2.1
    have g1 : wr.cell? ⟨g, 0, none⟩ = some (.slice P' (q + j * c) pc') := cell_of_row wr g 0 _ _ (0, 0) H.out.1.1.hg
    by_cases hlt : j < mn
    · have hjc : j * c + c ≤ mn * c := by have := Nat.mul_le_mul_right c hlt; rw [Nat.succ_mul] at this; exact this
      have hqb : mn * c ≤ oftC mn mo c mx := Nat.le_add_right _ _
      have HJ := Lib.hid (And.intro hjc hqb)
      obtain ⟨z, hz⟩ : ∃ z, z = q + j * c := ⟨_, rfl⟩
      rw [← hz] at g1
      have HZ := Lib.hid hz
      have HC := Lib.hid (show Calls Try.prog 66 #[.pointer (some ⟨g, 0, none⟩), .slice D nk ck] wr (AddedY B g wr P' z pc' xs' c) from by
        have hq := HQ.out
        rw [hz]
        exact HRo.out (.inl (by omega)) wr P' (q + j * c) pc' xs' H.out.1.2.2.1.1 H.out.1.1 (by omega))
      have h00 : (j : Int) < (mn : Int) := by omega
      clear hz hjc hqb y0 y1 y2 y3 yf
      by_cases hc0 : c = 0
      · have n1 : ((z : Int) + (c : Int) == (z : Int)) = true := by simp; omega
        have n2 : (((z + c : Nat) : Int) == (z : Int)) = true := by simp; omega
        have HC0 := Lib.hid hc0
        have hbl : w.heap.size < wr.heap.size := (Array.getElem?_eq_some_iff.1 H.out.2.1).1
        have HBL := Lib.hid hbl
        clear hc0 hbl
        by_cases hm0 : mx < 0
        · have HM0 := Lib.hid hm0
          go_wp2_with (first
            | (go_at_call 66; (with_reducible refine HC.out.mono ?_); rintro e w2 ⟨rfl, P2, pc2, xs2, k1⟩; have HV := Lib.hid (And.intro k1 ((k1.2.2.1.2.2 _ HBL.out (by have := HBL.out; omega) (by rw [HZ.out]; exact H.out.2.2)).trans H.out.2.1)); obtain ⟨x0, x1, x2, x3, x4, xf⟩ := box_facts HV.out.2; have g2 : w2.cell? ⟨g, 0, none⟩ = some (.slice P2 (z + c) pc2) := cell_of_row w2 g 0 _ _ (0, 0) k1.1.hg; have HT := Lib.hid (show StY B g w P q pc xs (mn * c) w2 P2 pc2 xs2 ∧ w2.heap[w.heap.size]? = some (.cells #[.int .i64 op, .slice A ns cs, .int .i64 (mn : Int), .int .i64 mx, .slice D nk ck] 52 (0, 0)) ∧ (Value.slice P2 (q + mn * c) pc2).ownBlock ≠ some w.heap.size from by
          have hz := HZ.out
          have hV := HV.out
          rw [hz] at hV
          have h0 := hV.1.2.2.2 _ HBL.out H.out.2.2
          have hT := H.out.1.trans hV.1
          have e : j * c + c = mn * c := by rw [HC0.out]; simp
          rw [e] at hT
          rw [Nat.add_assoc, e] at h0
          exact ⟨hT, hV.2, h0⟩); clear k1; have HLo := Lib.hid (loop_anyY (v := .slice D nk ck) (c := c) HT.out.1.1 (by have := HQ.out; unfold oftC at this; rw [if_pos hm0] at this; omega) fun w1' P1' pc1' xs1' hb1 h1 => HRo.out (.inr (.inl hm0)) w1' P1' _ pc1' xs1' (HT.out.1.2.2.1.1.trans hb1) h1 (by have := HQ.out; unfold oftC at this; rw [if_pos hm0] at this; omega)))
            | (go_at_call 92; (with_reducible refine HLo.out.mono ?_); rintro e w9 ⟨rfl, P9, pc9, xs9, k1⟩; have HV := Lib.hid k1; clear k1))
          first | go_end0 | (refine bodyPost_ret (results_none rfl _ _ _) rfl ?_)
          refine ⟨rfl, P9, pc9, xs9, ?_⟩
          have := HT.out.1.trans HV.out
          unfold oftC
          rw [if_pos (by have := HM0.out; omega)]
          exact this
        · have HM0 := Lib.hid hm0
          go_wp2_with (go_at_call 66; (with_reducible refine HC.out.mono ?_); rintro e w2 ⟨rfl, P2, pc2, xs2, k1⟩; have HV := Lib.hid (And.intro k1 ((k1.2.2.1.2.2 _ HBL.out (by have := HBL.out; omega) (by rw [HZ.out]; exact H.out.2.2)).trans H.out.2.1)); obtain ⟨x0, x1, x2, x3, x4, xf⟩ := box_facts HV.out.2; have g2 : w2.cell? ⟨g, 0, none⟩ = some (.slice P2 (z + c) pc2) := cell_of_row w2 g 0 _ _ (0, 0) k1.1.hg; have HT := Lib.hid (show StY B g w P q pc xs (mn * c) w2 P2 pc2 xs2 ∧ w2.heap[w.heap.size]? = some (.cells #[.int .i64 op, .slice A ns cs, .int .i64 (mn : Int), .int .i64 mx, .slice D nk ck] 52 (0, 0)) ∧ (Value.slice P2 (q + mn * c) pc2).ownBlock ≠ some w.heap.size from by
          have hz := HZ.out
          have hV := HV.out
          rw [hz] at hV
          have h0 := hV.1.2.2.2 _ HBL.out H.out.2.2
          have hT := H.out.1.trans hV.1
          have e : j * c + c = mn * c := by rw [HC0.out]; simp
          rw [e] at hT
          rw [Nat.add_assoc, e] at h0
          exact ⟨hT, hV.2, h0⟩); clear k1)
          go_loopw [7, 43] (fun v7 v43 wr2 => ∃ (k ec pc2 : Nat) (E P2 : Option Addr) (xs2 : List IV) (l : List Cl), v43 = .int .i64 (k : Int) ∧ k ≤ mo ∧ v7 = .slice E k ec ∧ Hid (Oft B g w P q pc xs #[.int .i64 op, .slice A ns cs, .int .i64 (mn : Int), .int .i64 mx, .slice D nk ck] (mn * c + k * (c + 1)) E k ec l wr2 P2 pc2 xs2)) (fun _ v43 _ => mo - (intOf v43).toNat)
          case atStart =>
            refine ⟨0, 0, pc2, none, P2, xs2, [], rfl, Nat.zero_le _, rfl, Lib.hid ?_⟩
            rw [Nat.zero_mul, Nat.add_zero]
            exact ⟨HT.out.1, World.ownsRow_nil _ _ _ _, (fun x hx b o hn hA e => nomatch e), (fun t ht => nomatch ht), HT.out.2.1, HT.out.2.2⟩
          case round =>
            obtain ⟨k, ec, pc2, E, P2, xs2, l, rfl, hk, rfl, HO⟩ := hrel
            have hq1 := HQ.out
            unfold oftC at hq1
            rw [if_neg (by have := HM0.out; omega)] at hq1
            by_cases hkm : k < mo
            · have hkc : k * (c + 1) + (c + 1) ≤ mo * (c + 1) := by have := Nat.mul_le_mul_right (c + 1) hkm; rw [Nat.succ_mul] at this; exact this
              obtain ⟨C, hC⟩ : ∃ C, C = mn * c + k * (c + 1) := ⟨_, rfl⟩
              rw [← hC] at HO
              have hqC : q + C + 1 + c ≤ 20000 := by omega
              have hmo1 : mo ≤ 20000 := by have : mo * 1 ≤ mo * (c + 1) := Nat.mul_le_mul_left mo (by omega); omega
              have HSp := Lib.hid (split_any HO.out.st.1 (by omega))
              have hkI : (k : Int) < (mo : Int) := by omega
              have hkb : (k : Int) ≤ 20000 := by omega
              have HCC := Lib.hid (And.intro hC (And.intro hqC (And.intro hmo1 hkm)))
              clear hq1 hkc hC hqC hmo1
              go_wp2_with (first
                | (go_at_call 90; (with_reducible refine HSp.out.mono ?_); rintro e w5 ⟨bx, ix, rfl, hh, hbx, hix, P1, pc1, k1, k2, k3, k4, k5⟩; obtain ⟨E', ec', W3, happ, hO3⟩ := HO.out.push hgl (by have := HCC.out; omega) hh hbx hix (split_st k1 k2 k3) k4 k5; have HAPP := Lib.hid happ; have HO3 := Lib.hid hO3; obtain ⟨y0, y1, y2, y3, y4, yf⟩ := box_facts hO3.box; have HRow := Lib.hid (HRo.out (.inr (.inr (by have := HCC.out; omega))) W3 P1 (q + (C + 1)) pc1 _ hO3.st.2.2.1.1 hO3.st.1 (by have := HCC.out; omega)); clear hh hbx hix k1 k2 k3 k4 k5 happ hO3)
                | (at_builtin; refine wpList_append_run rfl _ _ 139 rfl rfl _ _ _ _ rfl rfl HAPP.out ?_)
                | (go_at_call 66; (with_reducible refine HRow.out.mono ?_); rintro e w6 ⟨rfl, P6, pc6, xs6, k1⟩; have HO6 := Lib.hid (HO3.out.more hgl k1); clear k1))
              have h6 := HO6.out
              rw [HCC.out.1, show mn * c + k * (c + 1) + 1 + c = mn * c + (k + 1) * (c + 1) by rw [Nat.succ_mul]; omega] at h6
              exact ⟨⟨k + 1, ec', pc6, E', P6, xs6, _, rfl, by omega, rfl, Lib.hid h6⟩, by simp [intOf]; omega⟩
            · obtain rfl : mo = k := by omega
              obtain ⟨C, hC⟩ : ∃ C, C = mn * c + mo * (c + 1) := ⟨_, rfl⟩
              rw [← hC] at HO hq1
              have HCC := Lib.hid (And.intro hC hq1)
              clear hC hq1
              go_wp2_with fail
              go_loopw [9, 57] (fun v9 v57 wr3 => ∃ (i : Nat) (xs3 : List IV), v57 = .int .i64 (i : Int) ∧ i ≤ mo ∧ Hid (StY B g w P q pc xs C wr3 P2 pc2 xs3 ∧ wr3.ownsRow w.heap.size 1 1 (.slice E mo ec) mo (l.map Cl.val) ∧ ClsIn wr3 g (.slice P2 (q + C) pc2) q (q + C) l)) (fun _ v57 _ => mo - (intOf v57).toNat)
              case atStart => exact ⟨0, _, rfl, Nat.zero_le _, Lib.hid ⟨HO.out.st, HO.out.ends, HO.out.cls⟩⟩
              case round =>
                obtain ⟨i, xs3, rfl, hi, HI⟩ := hrel
                by_cases him : i < mo
                · obtain ⟨eb, t, rfl, hti, cF⟩ := ends_at HI.out.2.1 him
                  have hcl := HI.out.2.2 t (List.mem_of_getElem? hti)
                  have HHe := Lib.hid (here_any HI.out.1.1 hcl.1 hcl.2.2.2.2.2.2 (by have := HCC.out; omega))
                  have HCl := Lib.hid hcl
                  have hiI : (i : Int) < (mo : Int) := by omega
                  have hi0 : (0 : Int) ≤ (i : Int) := by omega
                  have hib : (i : Int) ≤ 20000 := by have : mo * 1 ≤ mo * (c + 1) := Nat.mul_le_mul_left mo (by omega); have := HCC.out; omega
                  clear hcl hti
                  go_wp2_with (go_at_call 101; (with_reducible refine HHe.out.mono ?_); rintro e w7 ⟨rfl, k1, k2⟩; have HV := Lib.hid (And.intro k1 k2); clear k1 k2)
                  have h7 := HI.out
                  exact ⟨⟨i + 1, _, rfl, by omega, Lib.hid ⟨h7.1.turn (f := fun v => { v with y := ((q + C : Nat) : Int) }) HCl.out.2.2.2.2.2.1 HXQ.out (fun v hv => hv.y (Nat.le_refl _)) HV.out.1 HV.out.2, ends_keep h7.1.1 h7.2.1 HV.out.2, h7.2.2.keep HV.out.2 (Vk.refl _ _) (Nat.le_refl _)⟩⟩, by simp [intOf]; omega⟩
                · obtain rfl : mo = i := by omega
                  go_wp2
                  first | go_end0 | (refine bodyPost_ret (results_none rfl _ _ _) rfl ?_)
                  refine ⟨rfl, P2, pc2, xs3, ?_⟩
                  unfold oftC
                  rw [if_neg (by have := HM0.out; omega), ← HCC.out.1]
                  exact HI.out.1
      · have n1 : ((z : Int) + (c : Int) == (z : Int)) = false := by simp; omega
        have n2 : (((z + c : Nat) : Int) == (z : Int)) = false := by simp; omega
        go_wp2_with (go_at_call 66; (with_reducible refine HC.out.mono ?_); rintro e w2 ⟨rfl, P2, pc2, xs2, k1⟩; have HV := Lib.hid k1; have g2 : w2.cell? ⟨g, 0, none⟩ = some (.slice P2 (z + c) pc2) := cell_of_row w2 g 0 _ _ (0, 0) k1.1.hg; clear k1)
        have hz := HZ.out
        have hzq : q + (j + 1) * c = z + c := by rw [hz, Nat.succ_mul]; omega
        have hbl : w.heap.size < wr.heap.size := (Array.getElem?_eq_some_iff.1 H.out.2.1).1
        have hH := H.out
        have hV := HV.out
        rw [hz] at hV
        have hT := hH.1.trans hV
        rw [show j * c + c = (j + 1) * c by rw [Nat.succ_mul]] at hT
        refine ⟨⟨j + 1, pc2, P2, xs2, rfl, hlt, Lib.hid ⟨hT, (hV.2.2.1.2.2 _ hbl (by omega) hH.2.2).trans hH.2.1, ?_⟩⟩, by show mn - ((j : Int) + 1).toNat < mn - (j : Int).toNat; omega⟩
        rw [hzq, hz]
        exact hV.2.2.2 _ hbl hH.2.2
    · obtain rfl : mn = j := by omega
      have HT := Lib.hid H.out
      by_cases hm0 : mx < 0
      · have HLo := Lib.hid (loop_anyY (v := .slice D nk ck) (c := c) HT.out.1.1 (by have := HQ.out; unfold oftC at this; rw [if_pos hm0] at this; omega) fun w1' P1' pc1' xs1' hb1 h1 => HRo.out (.inr (.inl hm0)) w1' P1' _ pc1' xs1' (HT.out.1.2.2.1.1.trans hb1) h1 (by have := HQ.out; unfold oftC at this; rw [if_pos hm0] at this; omega))
        have HM0 := Lib.hid hm0
        go_wp2_with (go_at_call 92; (with_reducible refine HLo.out.mono ?_); rintro e w9 ⟨rfl, P9, pc9, xs9, k1⟩; have HV := Lib.hid k1; clear k1)
        first | go_end0 | (refine bodyPost_ret (results_none rfl _ _ _) rfl ?_)
        refine ⟨rfl, P9, pc9, xs9, ?_⟩
        have := HT.out.1.trans HV.out
        unfold oftC
        rw [if_pos (by have := HM0.out; omega)]
        exact this
      · have HM0 := Lib.hid hm0
        go_wp2_with fail
        go_loopw [7, 43] (fun v7 v43 wr2 => ∃ (k ec pc2 : Nat) (E P2 : Option Addr) (xs2 : List IV) (l : List Cl), v43 = .int .i64 (k : Int) ∧ k ≤ mo ∧ v7 = .slice E k ec ∧ Hid (Oft B g w P q pc xs #[.int .i64 op, .slice A ns cs, .int .i64 (mn : Int), .int .i64 mx, .slice D nk ck] (mn * c + k * (c + 1)) E k ec l wr2 P2 pc2 xs2)) (fun _ v43 _ => mo - (intOf v43).toNat)
        case atStart =>
          refine ⟨0, 0, pc', none, P', xs', [], rfl, Nat.zero_le _, rfl, Lib.hid ?_⟩
          rw [Nat.zero_mul, Nat.add_zero]
          exact ⟨HT.out.1, World.ownsRow_nil _ _ _ _, (fun x hx b o hn hA e => nomatch e), (fun t ht => nomatch ht), HT.out.2.1, HT.out.2.2⟩
        case round =>
          obtain ⟨k, ec, pc2, E, P2, xs2, l, rfl, hk, rfl, HO⟩ := hrel
          have hq1 := HQ.out
          unfold oftC at hq1
          rw [if_neg (by have := HM0.out; omega)] at hq1
          by_cases hkm : k < mo
          · have hkc : k * (c + 1) + (c + 1) ≤ mo * (c + 1) := by have := Nat.mul_le_mul_right (c + 1) hkm; rw [Nat.succ_mul] at this; exact this
            obtain ⟨C, hC⟩ : ∃ C, C = mn * c + k * (c + 1) := ⟨_, rfl⟩
            rw [← hC] at HO
            have hqC : q + C + 1 + c ≤ 20000 := by omega
            have hmo1 : mo ≤ 20000 := by have : mo * 1 ≤ mo * (c + 1) := Nat.mul_le_mul_left mo (by omega); omega
            have HSp := Lib.hid (split_any HO.out.st.1 (by omega))
            have hkI : (k : Int) < (mo : Int) := by omega
            have hkb : (k : Int) ≤ 20000 := by omega
            have HCC := Lib.hid (And.intro hC (And.intro hqC (And.intro hmo1 hkm)))
            clear hq1 hkc hC hqC hmo1
            go_wp2_with (first
              | (go_at_call 90; (with_reducible refine HSp.out.mono ?_); rintro e w5 ⟨bx, ix, rfl, hh, hbx, hix, P1, pc1, k1, k2, k3, k4, k5⟩; obtain ⟨E', ec', W3, happ, hO3⟩ := HO.out.push hgl (by have := HCC.out; omega) hh hbx hix (split_st k1 k2 k3) k4 k5; have HAPP := Lib.hid happ; have HO3 := Lib.hid hO3; obtain ⟨y0, y1, y2, y3, y4, yf⟩ := box_facts hO3.box; have HRow := Lib.hid (HRo.out (.inr (.inr (by have := HCC.out; omega))) W3 P1 (q + (C + 1)) pc1 _ hO3.st.2.2.1.1 hO3.st.1 (by have := HCC.out; omega)); clear hh hbx hix k1 k2 k3 k4 k5 happ hO3)
              | (at_builtin; refine wpList_append_run rfl _ _ 139 rfl rfl _ _ _ _ rfl rfl HAPP.out ?_)
              | (go_at_call 66; (with_reducible refine HRow.out.mono ?_); rintro e w6 ⟨rfl, P6, pc6, xs6, k1⟩; have HO6 := Lib.hid (HO3.out.more hgl k1); clear k1))
            have h6 := HO6.out
            rw [HCC.out.1, show mn * c + k * (c + 1) + 1 + c = mn * c + (k + 1) * (c + 1) by rw [Nat.succ_mul]; omega] at h6
            exact ⟨⟨k + 1, ec', pc6, E', P6, xs6, _, rfl, by omega, rfl, Lib.hid h6⟩, by simp [intOf]; omega⟩
          · obtain rfl : mo = k := by omega
            obtain ⟨C, hC⟩ : ∃ C, C = mn * c + mo * (c + 1) := ⟨_, rfl⟩
            rw [← hC] at HO hq1
            have HCC := Lib.hid (And.intro hC hq1)
            clear hC hq1
            go_wp2_with fail
            go_loopw [9, 57] (fun v9 v57 wr3 => ∃ (i : Nat) (xs3 : List IV), v57 = .int .i64 (i : Int) ∧ i ≤ mo ∧ Hid (StY B g w P q pc xs C wr3 P2 pc2 xs3 ∧ wr3.ownsRow w.heap.size 1 1 (.slice E mo ec) mo (l.map Cl.val) ∧ ClsIn wr3 g (.slice P2 (q + C) pc2) q (q + C) l)) (fun _ v57 _ => mo - (intOf v57).toNat)
            case atStart => exact ⟨0, _, rfl, Nat.zero_le _, Lib.hid ⟨HO.out.st, HO.out.ends, HO.out.cls⟩⟩
            case round =>
              obtain ⟨i, xs3, rfl, hi, HI⟩ := hrel
              by_cases him : i < mo
              · obtain ⟨eb, t, rfl, hti, cF⟩ := ends_at HI.out.2.1 him
                have hcl := HI.out.2.2 t (List.mem_of_getElem? hti)
                have HHe := Lib.hid (here_any HI.out.1.1 hcl.1 hcl.2.2.2.2.2.2 (by have := HCC.out; omega))
                have HCl := Lib.hid hcl
                have hiI : (i : Int) < (mo : Int) := by omega
                have hi0 : (0 : Int) ≤ (i : Int) := by omega
                have hib : (i : Int) ≤ 20000 := by have : mo * 1 ≤ mo * (c + 1) := Nat.mul_le_mul_left mo (by omega); have := HCC.out; omega
                clear hcl hti
                go_wp2_with (go_at_call 101; (with_reducible refine HHe.out.mono ?_); rintro e w7 ⟨rfl, k1, k2⟩; have HV := Lib.hid (And.intro k1 k2); clear k1 k2)
                have h7 := HI.out
                exact ⟨⟨i + 1, _, rfl, by omega, Lib.hid ⟨h7.1.turn (f := fun v => { v with y := ((q + C : Nat) : Int) }) HCl.out.2.2.2.2.2.1 HXQ.out (fun v hv => hv.y (Nat.le_refl _)) HV.out.1 HV.out.2, ends_keep h7.1.1 h7.2.1 HV.out.2, h7.2.2.keep HV.out.2 (Vk.refl _ _) (Nat.le_refl _)⟩⟩, by simp [intOf]; omega⟩
              · obtain rfl : mo = i := by omega
                go_wp2
                first | go_end0 | (refine bodyPost_ret (results_none rfl _ _ _) rfl ?_)
                refine ⟨rfl, P2, pc2, xs3, ?_⟩
                unfold oftC
                rw [if_neg (by have := HM0.out; omega), ← HCC.out.1]
                exact HI.out.1
end Go.Proofs.Ytegcebgoiocakaa
