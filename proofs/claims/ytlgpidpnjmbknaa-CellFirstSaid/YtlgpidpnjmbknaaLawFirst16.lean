/- CellFirst, of any cell that answers so. -/
import Derived.Test.YtlgpidpnjmbknaaRef16
import Derived.Test.YtlgpidpnjmbknaaAwake16
import Derived.Deep.DeepCutAuto
import Derived.Deep.CutBlock
import Derived.Deep.CutRange
import Derived.Deep.LoopGhost
namespace Go.Proofs.Ytlgpidpnjmbknaa
open Go Go.RowKit
set_option linter.unusedVariables false
set_option maxRecDepth 40000
theorem cut16 (b o n c i : Nat) (hi : i ≤ c) (w : World) :
    (Instr.slice 22 (.slice (some ⟨b, o, none⟩) n c) none (some (.int .i64 (i : Int))) none).run Try.prog w = .ok (.slice (some ⟨b, o, none⟩) i c) w := by
  have he : Try.prog.elem 22 = 27 := by kernel_rfl
  have hs : ∀ w : World, (sizeOf 27).run Try.prog w = .ok 3 w := fun w => by kernel_rfl
  have hr := run_slice_h (P := Try.prog) (w := w) (t := 22) (a := some ⟨b, o, none⟩) (len := n) (cap := c) (ht := by rw [he]; exact Try.underlying22) (kh := .i64) (h := (i : Int)) (h0 := by omega) (h2 := by omega)
  rw [hr, he, hs]
  by_cases h0 : c = 0 <;> simp [Result.andThen, sliced, Addr.add]
theorem RowA16.take {w : World} {b o n : Nat} {xs : List Rep} (h : RowA16 w (some ⟨b, o, none⟩) n xs) {i : Nat} (hi : i ≤ n) : RowA16 w (some ⟨b, o, none⟩) i (xs.take i) := by
  have := ReadR.cut h (i := 0) (j := i) (Nat.zero_le _) hi
  rw [Nat.zero_mul, Nat.add_zero, Nat.sub_zero, List.drop_zero, ← List.map_take] at this
  exact this
section
variable {P : CelP} (T : CelF P)
include T
set_option maxHeartbeats 8000000 in
theorem first16_good (A : Option Addr) (m c : Nat) (xs : List Rep) (w : World) (hr : RowA16 w A m xs) (hmc : m ≤ c) (hm : m ≤ 60) :
    Calls Try.prog 3 #[.slice A m c] w fun e w' => e = .returned (.bool true) ∧ Below w.heap.size w w' := by
  have HA := Lib.hid (awake16_any T w (Below.refl w.heap.size w))
  have HN := Lib.hid fun w2 (hb : Below w.heap.size w w2) => cel_new T w hb
  have HR := Lib.hid hr
  have HL := Lib.hid (show xs.length = m by have := hr.1.1; simpa using this)
  have hac := rep_cells
  have hd : decide ((60 : Int) < (m : Int)) = false := by simp; omega
  clear hr
  go_enter Try.func3, Try.ntmps3
  go_wp2_with fail
  refine HA.out.mono ?_; rintro e w1 ⟨rfl, h1⟩
  have H1 := Lib.hid h1; clear h1 HA
  go_wp2_with fail
  refine (HN.out _ H1.out).mono ?_; rintro e w2 ⟨g, rfl, h2⟩
  have H2 := Lib.hid h2; clear h2 HN H1 hd
  go_wp2_with fail
  go_loopw [4] (fun v wr => ∃ (i : Nat), v = .int .i64 (i : Int) ∧ i ≤ m ∧ Hid (CelS P w wr g (keptL (xs.take i)) (countL16 (xs.take i)))) (fun v _ => m - (intOf v).toNat)
  case atStart => exact ⟨0, rfl, by omega, Lib.hid H2.out⟩
  case round =>
    obtain ⟨i, rfl, hi, HO⟩ := hrel
    clear H2
    by_cases hl : i < m
    · obtain ⟨b, o, rfl, -, hbl, hc⟩ := HR.out.2 (by omega)
      obtain ⟨x, hx⟩ : ∃ x, xs[i]? = some x := ⟨_, List.getElem?_eq_getElem (by rw [HL.out]; exact hl)⟩
      have hcell := fun j v hv w' (hb : Below w.heap.size w w') => (hb.cell (p := ⟨b, o + i * 3 + j, none⟩) hbl).trans (hc i (R16 x) (by simp [hx]) j v hv)
      have hs1 := cut16 b o m c i (by omega)
      have hs2 := cut16 b o m c (i + 1) (by omega)
      push_cast at hs2
      have HF1 := Lib.hid fun w' (hb : Below w.heap.size w w') => first_any (some ⟨b, o, none⟩) i c (xs.take i) w' ((HR.out.take (i := i) (by omega)).keep hb.size (fun k _ hk => hb.block k hk)) (by omega)
      have HF2 := Lib.hid fun w' (hb : Below w.heap.size w w') => first_any (some ⟨b, o, none⟩) (i + 1) c (xs.take (i + 1)) w' ((HR.out.take (i := i + 1) (by omega)).keep hb.size (fun k _ hk => hb.block k hk)) (by omega)
      have HC2 := Lib.hid fun w' (hb : Below w.heap.size w w') => count_any (some ⟨b, o, none⟩) (i + 1) c (xs.take (i + 1)) w' ((HR.out.take (i := i + 1) (by omega)).keep hb.size (fun k _ hk => hb.block k hk)) (by omega)
      have e0 := hcell 0 (.int .i64 x.1) rfl
      have e1 := hcell 1 (.string x.2.1) rfl
      have e2 := hcell 2 (.int .i64 x.2.2) rfl
      simp only [Nat.add_zero] at e0
      have hk2 : keptL (xs.take (i + 1)) = repK (keptL (xs.take i)) x := by
        rw [List.take_add_one, hx]
        exact keptL_snoc _ _
      have hn2 := count_step hx
      have hcnt := countL16_le (xs.take i)
      rw [List.length_take] at hcnt
      rw [hk2] at HF2
      rw [hn2] at HC2
      obtain ⟨s, hs⟩ : ∃ s, s = keptL (xs.take i) := ⟨_, rfl⟩
      obtain ⟨nn, hnn⟩ : ∃ nn, nn = countL16 (xs.take i) := ⟨_, rfl⟩
      rw [← hs] at HO HF1 HF2
      rw [← hnn] at HO HC2 hcnt
      have HK := Lib.hid (And.intro (hk2.trans (by rw [← hs])) (hn2.trans (by rw [← hnn])) : _ ∧ countL16 (xs.take (i + 1)) = repN nn x)
      have HREP := Lib.hid fun w' (h : CelS P w w' g s nn) => cel_rep T h x hcnt.1 (by omega)
      obtain ⟨x1, x2, x3⟩ := x
      obtain ⟨s1, s2, s3⟩ := s
      simp only at e0 e1 e2 HF1 HREP
      obtain ⟨fb, hfb⟩ : ∃ fb, fb = repB (s1, s2, s3) (x1, x2, x3) := ⟨_, rfl⟩
      obtain ⟨t, ht⟩ : ∃ t, t = repK (s1, s2, s3) (x1, x2, x3) := ⟨_, rfl⟩
      obtain ⟨nt, hnt⟩ : ∃ nt, nt = repN nn (x1, x2, x3) := ⟨_, rfl⟩
      rw [← hfb, ← ht, ← hnt] at HREP
      rw [← ht] at HF2 HK
      rw [← hnt] at HC2 HK
      obtain ⟨t1, t2, t3⟩ := t
      simp only at HF2
      have HFB := Lib.hid hfb
      clear hcell hc hx hk2 hn2 hcnt hs hnn ht hnt hfb
      go_wp2_with fail
      refine (HF1.out _ HO.out.to).mono ?_; rintro e w3 ⟨rfl, h3⟩
      have hc3 := cel_below T HO.out h3
      clear HF1 h3 HO
      have hc4 := cel_below T hc3 ((Below.refl w3.heap.size w3).alloc (Nat.le_refl _) (.cells #[.int .i64 s1, .string s2, .int .i64 s3] 27))
      have hg4 : (w3.alloc (.cells #[.int .i64 s1, .string s2, .int .i64 s3] 27)).heap[w3.heap.size]? = some (.cells #[.int .i64 s1, .string s2, .int .i64 s3] 27 (0, 0)) := heap_alloc_new _ _
      obtain ⟨w4, hw4⟩ : ∃ w4, w4 = w3.alloc (.cells #[.int .i64 s1, .string s2, .int .i64 s3] 27) := ⟨_, rfl⟩
      obtain ⟨g4, hgg4⟩ : ∃ g4, g4 = w3.heap.size := ⟨_, rfl⟩
      rw [← hw4] at hc4
      rw [← hw4, ← hgg4] at hg4
      have HW4 := Lib.hid hw4
      have HG4 := Lib.hid hgg4
      have a0 := cell_of_row w4 g4 0 _ _ (0, 0) hg4
      simp only [List.getElem?_toArray, List.getElem?_cons_zero] at a0
      have b0 := e0 w4 hc4.to
      have HC4 := Lib.hid hc4
      clear hc3 hc4 hg4 hw4 hgg4
      go_upto_region 8 with fail
      rw [← HW4.out, ← HG4.out]
      clear HW4 HG4
      go_cut [6] from 27 to 37 (fun s6 wx => s6 = .bool fb ∧ w4 = wx)
      case first =>
        have hfb := HFB.out
        unfold repB at hfb
        simp only at hfb
        clear HF2 HC2 HREP HK HC4 HFB e0 e1 e2
        by_cases hs0 : s1 = 0
        · subst hs0
          by_cases hx0 : x1 = 0
          · subst hx0
            have : fb = false := by rw [hfb]; rfl
            subst this
            clear hfb
            go_wp2_with fail
            go_meet
            exact ⟨rfl, rfl⟩
          · have hxb : (x1 == 0) = false := by simpa using hx0
            rw [hxb] at hfb
            have : fb = true := by rw [hfb]; rfl
            subst this
            have hxn := Lib.hid (show (x1 != 0) = true by simpa using hx0)
            clear hfb hx0
            go_wp2_with fail
            go_meet
            exact ⟨by rw [hxn.out], rfl⟩
        · have hsb : (s1 == 0) = false := by simpa using hs0
          rw [hsb] at hfb
          have : fb = false := by rw [hfb]; rfl
          subst this
          clear hfb hs0
          go_wp2_with fail
          go_meet
          exact ⟨rfl, rfl⟩
      case rest =>
        obtain ⟨rfl, rfl⟩ := hcut
        clear a0 b0
        have HREP5 := Lib.hid (HREP.out _ (cel_drewN T HC4.out 1))
        have d0 := e0 _ (cel_drewN T HC4.out 1).to
        have d1 := e1 _ (cel_drewN T HC4.out 1).to
        have d2 := e2 _ (cel_drewN T HC4.out 1).to
        have HE := Lib.hid (And.intro e0 (And.intro e1 e2))
        have hl1 : (i : Int) < (m : Int) := by omega
        have hl0 : (0 : Int) ≤ (i : Int) := by omega
        clear HREP HC4 e0 e1 e2
        go_wp2_with fail
        go_region_held (fun w' => w'.cell? ⟨b, o + i * 3, none⟩ = some (.int .i64 x1) ∧ w'.cell? ⟨b, o + i * 3 + 1, none⟩ = some (.string x2) ∧ w'.cell? ⟨b, o + i * 3 + 2, none⟩ = some (.int .i64 x3)) (first | assumption | exact ⟨d0, d1, d2⟩) (first
          | (go_at_call 8; refine HREP5.out.mono ?_; rintro e w5 ⟨rfl, h5⟩; have H5 := Lib.hid h5; have S5 : w5.cell? ⟨b, o + i * 3, none⟩ = some (.int .i64 x1) ∧ w5.cell? ⟨b, o + i * 3 + 1, none⟩ = some (.string x2) ∧ w5.cell? ⟨b, o + i * 3 + 2, none⟩ = some (.int .i64 x3) := ⟨HE.out.1 _ h5.to, HE.out.2.1 _ h5.to, HE.out.2.2 _ h5.to⟩; clear h5))
        all_goals
          clear d0 d1 d2 S5 HREP5 HE
          simp only [Exit.then]
          go_wp2_with fail
          refine (HF2.out _ H5.out.to).mono ?_; rintro e w6 ⟨rfl, h6⟩
          have hc6 := cel_below T H5.out h6
          clear HF2 h6 H5
          have hc7 := cel_below T hc6 ((Below.refl w6.heap.size w6).alloc (Nat.le_refl _) (.cells #[.int .i64 t1, .string t2, .int .i64 t3] 27))
          have hg7 : (w6.alloc (.cells #[.int .i64 t1, .string t2, .int .i64 t3] 27)).heap[w6.heap.size]? = some (.cells #[.int .i64 t1, .string t2, .int .i64 t3] 27 (0, 0)) := heap_alloc_new _ _
          obtain ⟨w7, hw7⟩ : ∃ w7, w7 = w6.alloc (.cells #[.int .i64 t1, .string t2, .int .i64 t3] 27) := ⟨_, rfl⟩
          obtain ⟨g7, hgg7⟩ : ∃ g7, g7 = w6.heap.size := ⟨_, rfl⟩
          rw [← hw7] at hc7
          rw [← hw7, ← hgg7] at hg7
          have HW7 := Lib.hid hw7
          have HG7 := Lib.hid hgg7
          have a0 := cell_of_row w7 g7 0 _ _ (0, 0) hg7
          have a1 := cell_of_row w7 g7 1 _ _ (0, 0) hg7
          have a2 := cell_of_row w7 g7 2 _ _ (0, 0) hg7
          simp only [List.getElem?_toArray, List.getElem?_cons_succ, List.getElem?_cons_zero] at a0 a1 a2
          have HQ1 := Lib.hid fun q => cel_cau T hc7 q
          have HQ2 := Lib.hid fun q => cel_nte T hc7 q
          have HQ3 := Lib.hid fun q => cel_whn T hc7 q
          have HQ4 := Lib.hid fun q => cel_cnt T hc7 q
          have HQ5 : Hid (∀ q, Calls Try.prog 13 #[.slice (some ⟨b, o, none⟩) (i + 1) c] (w7.drewN q) fun e w' => e = .returned (.int .i64 nt) ∧ ∃ m, w' = w7.drewN m) := Lib.hid fun q => (HC2.out _ (cel_drewN T hc7 q).to).mono fun e w' hh => ⟨hh.1, by obtain ⟨m, hm⟩ := hh.2; exact ⟨q + m, by rw [hm]; exact World.drewN_drewN _ _ _⟩⟩
          have HC7 := Lib.hid hc7
          have hwr : IntKind.i64.wrap ((i : Int) + 1) = (i : Int) + 1 := by rw [IntKind.wrap_i64]; omega
          clear hc6 hc7 hg7 hw7 hgg7 HC2
          go_upto_region 12 with fail
          rw [← HW7.out, ← HG7.out]
          clear HW7 HG7
          (try simp only at HQ1); (try simp only at HQ2); (try simp only at HQ3)
          go_quiet (first | (go_at_call 9; exact HQ1.out _) | (go_at_call 10; exact HQ2.out _) | (go_at_call 11; exact HQ3.out _) | (go_at_call 12; exact HQ4.out _) | (go_at_call 13; exact HQ5.out _))
          clear a0 a1 a2 HQ1 HQ2 HQ3 HQ4 HQ5 hwr
          simp only [Exit.then]
          go_wp2_with fail
          exact ⟨⟨i + 1, by go_num, by omega, Lib.hid (by rw [HK.out.1, HK.out.2]; exact cel_drewN T HC7.out _)⟩, by simp [intOf]; omega⟩
    · go_wp2_with fail
      go_ret
      exact ⟨rfl, HO.out.to⟩
end
end Go.Proofs.Ytlgpidpnjmbknaa
