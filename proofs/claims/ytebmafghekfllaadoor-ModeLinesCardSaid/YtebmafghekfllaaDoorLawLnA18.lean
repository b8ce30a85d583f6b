/- ModeLines: where New makes a teller. -/
import Derived.Test.YtebmafghekfllaaDoorLawLin18
import Derived.Deep.DeepCutAuto
import Derived.Deep.CutBlock
import Derived.Deep.CutRange
namespace Go.Proofs.YtebmafghekfllaaDoor
open Go Go.RowKit
set_option linter.unusedVariables false
set_option maxRecDepth 20000
theorem cut_rows (A : Option Addr) (n c i : Nat) (hi : i ≤ c) (w : World) : (Instr.slice 23 (.slice A n c) none (some (.int .i64 (i : Int))) none).run Tryd.prog w = .ok (.slice A i c) w := by
  have hr := run_slice_h (P := Tryd.prog) (w := w) (t := 23) (a := A) (len := n) (cap := c) (ht := by rw [show Tryd.prog.elem 23 = 34 by kernel_rfl]; exact Tryd.underlying23) (kh := .i64) (h := (i : Int)) (h0 := by omega) (h2 := by omega)
  have hs : (sizeOf 34).run Tryd.prog w = .ok 4 w := by kernel_rfl
  rw [hr, show Tryd.prog.elem 23 = 34 by kernel_rfl, hs]
  by_cases h0 : c = 0 <;> cases A <;> simp [Result.andThen, sliced, Addr.add]
section
variable {P : TelP} {G : World → Prop} (T : TelF G P)
include T
set_option maxHeartbeats 32000000 in
theorem lines18_ok (k b a : Nat) (hk : k ≤ 3) (hb : b ≤ 16) (ha : a ≤ 16) (A : Option Addr) (n c : Nat) (l : List Rw) (w : World) (hG : G w) (h : RowsIn w A n l) (hn : n ≤ 30) (hc : n ≤ c) :
    Calls Tryd.prog 3 #[.agg #[.int .i64 (k : Int), .int .i64 (b : Int), .int .i64 (a : Int)], .slice A n c] w fun e w' => e = .returned (.bool true) ∧ Below w.heap.size w w' := by
  have HAW := Lib.hid fun w' (hg : G w') => awake18_any T w' hg
  have HGG := Lib.hid hG
  have dn : decide (30 < n) = false := by simpa using hn
  have hb0 := (Below.refl w.heap.size w).alloc (Nat.le_refl _) (.cells #[.int .i64 (k : Int), .int .i64 (b : Int), .int .i64 (a : Int)] 22)
  have HBX := Lib.hid (box3 (k : Int) (b : Int) (a : Int) w)
  obtain ⟨W0, hW0⟩ : ∃ W0, W0 = w.alloc (.cells #[.int .i64 (k : Int), .int .i64 (b : Int), .int .i64 (a : Int)] 22) := ⟨_, rfl⟩
  rw [← hW0] at hb0 HBX
  have h1 : W0.heap.size = w.heap.size + 1 := by rw [hW0]; simp
  have H := Lib.hid (h.below hb0)
  have HB0 := Lib.hid hb0
  have HL := Lib.hid h.len
  obtain ⟨gx, hgx⟩ : ∃ gx, gx = w.heap.size := ⟨_, rfl⟩
  rw [← hgx] at HBX
  have HC := Lib.hid hc
  clear h hb0 h1 hc
  go_enter Tryd.func3, Tryd.ntmps3
  go_wp2_with fail
  rw [← hW0, ← hgx]
  clear hW0 hgx
  (with_reducible refine (HAW.out _ (T.gb hG HB0.out)).mono ?_); rintro e w1 ⟨rfl, hb1⟩
  obtain ⟨k0, k1, k2⟩ := HBX.out w1 hb1
  have HN := Lib.hid (tNew T (T.gb (T.gb hG HB0.out) hb1) k b a hb1 hk hb ha)
  clear hb1 HAW
  go_wp2_with fail
  (with_reducible refine HN.out.mono ?_); rintro e w2 ⟨g, rfl, ht, hb2⟩
  clear k0 k1 k2 HN hb2
  obtain ⟨k0, k1, k2⟩ := HBX.out w2 ht.bel
  have HT := Lib.hid ht
  clear ht
  have d1 : decide ((k : Int) < 0) = false := by simp
  have d2 : decide (3 < (k : Int)) = false := by simp; omega
  have d3 : decide ((b : Int) < 0) = false := by simp
  have d4 : decide (16 < (b : Int)) = false := by simp; omega
  have d5 : decide ((a : Int) < 0) = false := by simp
  have d6 : decide (16 < (a : Int)) = false := by simp; omega
  go_wp2_with fail
  clear d1 d2 d3 d4 d5 d6 k0 k1 k2
  go_loopw [7, 8, 9, 10, 11, 12] (fun v7 v8 _ _ _ _ wr => ∃ (i m c2 : Nat) (A2 : Option Addr), v7 = .slice A2 m c2 ∧ v8 = .int .i64 (i : Int) ∧ i ≤ n ∧ m ≤ 10 * i + 1 ∧ Hid ((∀ x ∈ l.take i, okX x) ∧ RecW wr W0.heap.size 9 1 (.slice A2 m c2) (strs (linesV k b a (l.take i) false).1) ∧ Tel P W0 wr (fun q => (Value.slice A2 m c2).ownBlock = some q) g k b a (l.take i) false)) (fun _ v8 _ _ _ _ _ => n - (intOf v8).toNat)
  case atStart => exact ⟨0, 0, 0, none, rfl, rfl, Nat.zero_le _, Nat.zero_le _, Lib.hid ⟨fun x hx => by (simp at hx), by
    have : (linesV k b a (l.take 0) false).1 = [] := by
      rw [List.take_zero]
      unfold linesV
      split
      · rfl
      · split
        · rfl
        · split <;> rfl
    rw [this]; exact RecW.nil _ _ _ _, HT.out.sub fun q hq => by cases hq⟩⟩
  case round =>
    obtain ⟨i, m, c2, A2, rfl, rfl, hi, hm, HO⟩ := hrel
    have hrc := row_cells
    by_cases hlt : i < n
    · obtain ⟨x, hx⟩ : ∃ x, l[i]? = some x := ⟨_, List.getElem?_eq_getElem (by rw [HL.out]; exact hlt)⟩
      obtain ⟨q3, hr0, ht⟩ := HO.out
      have HBEL := Lib.hid ht.bel
      obtain ⟨bb, o, hA, hbl, d0, d1, d2, d3⟩ := (H.out.below ht.bel).at hx
      subst hA
      by_cases hxz : x.tx.size ≤ 60
      · by_cases hxm : x.hm ≤ 10
        · have dz : decide (60 < (x.tx.size : Int)) = false := by simp; omega
          have dm : decide (10 < (x.hm : Int)) = false := by simp; omega
          have hmem := H.out.2 x (List.mem_of_getElem? hx)
          have hok := ok_snoc hx q3 hxm hxz
          have e1 := take_snocL hx
          have hll : (l.take i).length ≤ 100 := by rw [List.length_take]; omega
          have hbw1 := below_drewN (Below.refl wr.heap.size wr) 1
          have hlen : (linesV k b a (l.take (i + 1)) false).1.length ≤ 10 * (i + 1) + 1 := by
            have h1 := linesV_len k b a false (l.take (i + 1)) (fun y hy => by
              have h1 := (H.out.2 y (List.mem_of_mem_take hy)).1.len
              have h2 := (hok y hy).1
              omega)
            rw [List.length_take] at h1
            omega
          have HA1 := Lib.hid (show Calls Tryd.prog 9 #[.pointer (some ⟨g, 0, none⟩), x.rcd, .slice x.hA x.hm x.hc] wr.drew _ from tell_add T (T.gb HGG.out HB0.out) (ht.below T hbw1).1 (hr0.keep fun _ _ _ => rfl) (fun q hq => hq) x (hmem.1.below (ht.bel.trans (hbw1.mono ht.bel.size))) hxm hxz hmem.2.1 hmem.2.2 hll (fun h0 b' o' e => .inl (by
            obtain ⟨b2, o2, e2, _, hl2, _⟩ := hmem.1.1.2 h0
            rw [e] at e2
            injection e2 with e2
            injection e2 with e2
            omega)) (by rw [← e1]; omega))
          rw [← e1] at HA1
          have HAT := Lib.hid fun (w' : World) (hw : Below W0.heap.size W0 w') => (H.out.below hw).at hx
          have HLN := Lib.hid fun (w5 : World) (hw : Below W0.heap.size W0 w5) => lines_any k (some ⟨bb, o, none⟩) (i + 1) c (l.take (i + 1)) b a false w5 ((H.out.pre (by omega) hok).below hw) hk (by omega) ha hb
          have HOK := Lib.hid hok
          have HLE := Lib.hid hlen
          have HCI : Hid (i + 1 ≤ c) := Lib.hid (by have := HC.out; omega)
          unfold Rw.rcd at HA1
          clear hmem hok e1 hll ht q3 HO hx hr0 hbw1 hlen
          go_upto_region 14 with fail
          have g0 : ∀ w', Below W0.heap.size W0 w' → w'.cell? ⟨bb, o + i * 4, none⟩ = some (.int .i64 x.n) := fun w' hw => by
            obtain ⟨b9, o9, e9, _, q0, _⟩ := HAT.out w' hw
            injection e9 with e9; injection e9 with e9 e10 _; subst e9; subst e10
            exact q0
          have g1 : ∀ w', Below W0.heap.size W0 w' → w'.cell? ⟨bb, o + i * 4 + 1, none⟩ = some (.int .i64 x.p) := fun w' hw => by
            obtain ⟨b9, o9, e9, _, _, q0, _⟩ := HAT.out w' hw
            injection e9 with e9; injection e9 with e9 e10 _; subst e9; subst e10
            exact q0
          have g2 : ∀ w', Below W0.heap.size W0 w' → w'.cell? ⟨bb, o + i * 4 + 2, none⟩ = some (.string x.tx) := fun w' hw => by
            obtain ⟨b9, o9, e9, _, _, _, q0, _⟩ := HAT.out w' hw
            injection e9 with e9; injection e9 with e9 e10 _; subst e9; subst e10
            exact q0
          have g3 : ∀ w', Below W0.heap.size W0 w' → w'.cell? ⟨bb, o + i * 4 + 3, none⟩ = some (.slice x.hA x.hm x.hc) := fun w' hw => by
            obtain ⟨b9, o9, e9, _, _, _, _, q0⟩ := HAT.out w' hw
            injection e9 with e9; injection e9 with e9 e10 _; subst e9; subst e10
            exact q0
          have hS0 : Below W0.heap.size W0 wr.drew := below_drewN HBEL.out 1
          clear d0 d1 d2 d3
          go_region_held_law (fun w' => Below W0.heap.size W0 w') (assumption) (first
            | (go_at_call 9; (with_reducible refine HA1.out.mono ?_); rintro e w4 ⟨D, m4, d, rfl, hS4, A', c', w5, happ, HE⟩; have HAP := Lib.hid happ; have hS1 : Below W0.heap.size W0 w5 := HE.out.2.2.bel; clear happ)
            | (refine step_append_run rfl (.tmp 96) (.tmp 108) 29 rfl rfl _ _ _ _ rfl rfl HAP.out ?_))
          obtain ⟨mm, hmm⟩ : ∃ mm, mm = m + m4 := ⟨_, rfl⟩
          rw [← hmm] at HE ⊢
          have hS5 : Below W0.heap.size W0 w5.drew := below_drewN HE.out.2.2.bel 1
          have hln := HLN.out w5.drew hS5
          rw [← HE.out.1] at hln
          have HLN5 := Lib.hid hln
          have hcut := fun w' => cut_rows (some ⟨bb, o, none⟩) n c (i + 1) HCI.out w'
          push_cast at hcut
          have k0 : ∀ w', Below W0.heap.size W0 w' → w'.cell? ⟨gx, 0, none⟩ = some (.int .i64 (k : Int)) := fun w' hw => (HBX.out w' hw).1
          have k1 : ∀ w', Below W0.heap.size W0 w' → w'.cell? ⟨gx, 1, none⟩ = some (.int .i64 (b : Int)) := fun w' hw => (HBX.out w' hw).2.1
          have k2 : ∀ w', Below W0.heap.size W0 w' → w'.cell? ⟨gx, 2, none⟩ = some (.int .i64 (a : Int)) := fun w' hw => (HBX.out w' hw).2.2
          have hmb : mm ≤ 1000 := by have := HLE.out; rw [← HE.out.1] at this; omega
          clear hmm hln g0 g1 g2 g3 hS0 hS1 hS4 HAP HA1 HLN hm dz dm
          have ew : IntKind.i64.wrap ((i : Int) + 1) = (i : Int) + 1 := by simp [IntKind.wrap, IntKind.bits, IntKind.signed]; omega
          have hb1 : (0 : Int) ≤ (i : Int) + 1 := by omega
          have hb2 : (i : Int) + 1 ≤ (c : Int) := by have := HCI.out; omega
          go_upto_region 15 with fail
          go_region_held (fun w' => Below W0.heap.size W0 w') (assumption) (first
            | (go_at_call 10; (with_reducible refine HLN5.out.mono ?_); rintro e w6 ⟨A6, c6, rfl, hr6, hb6⟩; have hS6 : Below W0.heap.size W0 w6 := hS5.trans (hb6.mono hS5.size); have HR6 := Lib.hid (And.intro hr6 hb6); clear hr6 hb6))
          obtain ⟨en, hen⟩ : ∃ en, en = (linesV k b a (l.take (i + 1)) false).2 := ⟨_, rfl⟩
          rw [← hen]
          have HEN := Lib.hid hen
          have HS6 := Lib.hid hS6
          clear hen k0 k1 k2 hcut hS5 hS6 HLN5 ew hb1 hb2
          obtain ⟨k0, k1, k2⟩ := HBX.out w6 HS6.out
          go_wp2_with fail
          have HRX := Lib.hid fun (j : Nat) (y : Rw) (hy : l[j]? = some y) => (H.out.below HS6.out).at hy
          have HLL : Hid ((l.take (i + 1)).length ≤ 100) := Lib.hid (by rw [List.length_take]; omega)
          have HSZ := Lib.hid fun (j : Nat) (hj : j < i + 1) => (by
            obtain ⟨y, hy⟩ : ∃ y, (l.take (i + 1))[j]? = some y := ⟨_, List.getElem?_eq_getElem (by rw [List.length_take, HL.out]; omega)⟩
            have hm := HOK.out y (List.mem_of_getElem? hy)
            rw [List.getElem?_take_of_lt hj] at hy
            exact ⟨y, hy, hm.2, sumZ_step (by rw [List.getElem?_take_of_lt hj]; exact hy)⟩ : ∃ y, l[j]? = some y ∧ y.tx.size ≤ 60 ∧ sumZ (l.take (i + 1)) j = y.tx.size + sumZ (l.take (i + 1)) (j + 1))
          have hbl6 : bb < w6.heap.size := by
            have := HS6.out.size
            obtain ⟨b9, o9, e9, hb9, _⟩ := HAT.out w6 HS6.out
            injection e9 with e9
            injection e9 with e9
            omega
          clear hbl HAT
          go_loopw [11, 12] (fun v11 v12 wt => ∃ (j z : Nat), v11 = .int .i64 (z : Int) ∧ v12 = .int .i64 ((j : Int) - 1) ∧ j ≤ i + 1 ∧ z ≤ 60 * (i + 1 - j) ∧ w6 = wt ∧ Hid (z = sumZ (l.take (i + 1)) j ∧ (k = 3 → i + 1 - b ≤ j) ∧ (k ≠ 3 → j = i + 1))) (fun _ v12 _ => (intOf v12 + 1).toNat)
          case atStart => exact ⟨i + 1, 0, rfl, (by show _ = Value.int IntKind.i64 _; congr 1; omega), Nat.le_refl _, Nat.zero_le _, rfl, Lib.hid ⟨by
            unfold sumZ
            rw [List.drop_of_length_le (by rw [List.length_take]; omega)]
            rfl, fun _ => Nat.sub_le _ _, fun _ => rfl⟩⟩
          case round =>
            obtain ⟨j, z, rfl, rfl, hj, hz, rfl, HI⟩ := hrel
            by_cases hk3 : k = 3
            · have q3 : ((k : Int) == 3) = true := by rw [hk3]; rfl
              have HK3 := Lib.hid hk3
              clear hk3
              have es : IntKind.i64.wrap ((i : Int) - (b : Int)) = (i : Int) - (b : Int) := by simp [IntKind.wrap, IntKind.bits, IntKind.signed]; omega
              have es1 : IntKind.i64.wrap ((j : Int) - 1 - 1) = (j : Int) - 1 - 1 := by simp [IntKind.wrap, IntKind.bits, IntKind.signed]; omega
              by_cases hjb : i + 1 - b < j
              · obtain ⟨jj, rfl⟩ : ∃ jj, j = jj + 1 := ⟨j - 1, by omega⟩
                have hv : ((jj + 1 : Nat) : Int) - 1 = (jj : Int) := by omega
                rw [hv]
                have p1 : decide ((i : Int) - (b : Int) < (jj : Int)) = true := by simp; omega
                obtain ⟨y, hy, hys, hst⟩ := HSZ.out jj (by omega)
                obtain ⟨b9, o9, e9, _, _, _, y2, _⟩ := HRX.out jj y hy
                injection e9 with e9
                injection e9 with e9 e10 _
                subst e9; subst e10
                have HI2 : Hid (z + y.tx.size = sumZ (l.take (i + 1)) jj ∧ (k = 3 → i + 1 - b ≤ jj) ∧ (k ≠ 3 → jj = i + 1)) := Lib.hid ⟨by rw [hst, HI.out.1, Nat.add_comm], fun _ => by omega, fun h => absurd HK3.out h⟩
                have hjn : (jj : Int) < (n : Int) := by omega
                have hz2 : z + y.tx.size ≤ 60 * (i + 1 - jj) := by omega
                have HZ2 := Lib.hid hz2
                have hzb : z ≤ 10000 := by omega
                clear hv es1 hy hst HI HSZ HRX HE HR6 HEN HOK HLE hjb hz hz2
                go_wp2_with fail
                exact ⟨⟨jj, z + y.tx.size, by go_num, (by first | rfl | trivial), by omega, HZ2.out, (by first | rfl | trivial), HI2⟩, by simp [intOf] <;> omega⟩
              · have hj1 : j = i + 1 - b := by have := HI.out.2.1 HK3.out; omega
                by_cases hbi : b ≤ i + 1
                · have p1 : decide ((i : Int) - (b : Int) < (j : Int) - 1) = false := by simp; omega
                  have hzz : heldV k b (l.take (i + 1)) false ≤ z := by
                                    unfold heldV
                                    rw [if_pos ⟨rfl, HK3.out⟩, List.length_take, HL.out, show min (i + 1) n - b = j by omega]
                                    exact Nat.le_of_eq HI.out.1.symm
                  clear hj1 hjb
                  have HTX := Lib.hid (texts18 (linesV k b a (l.take (i + 1)) false).1 A' A6 mm c' c6 w6 ((rec_read (HE.out.2.1.keep fun q hq _ => HR6.out.2.block q hq)).base (Nat.zero_le _)) ((rec_read HR6.out.1).base (Nat.zero_le _)) (by omega))
                  have hT6 := (HE.out.2.2.below T (show Below w5.heap.size w5 w6 from ⟨HR6.out.2.os, HR6.out.2.tape, HR6.out.2.output, HR6.out.2.size, HR6.out.2.block⟩)).1
                  have HE6 := Lib.hid fun q => tEno T hT6 HLL.out q
                  have HH6 := Lib.hid fun q => tHld T hT6 HLL.out q
                  rw [← HEN.out] at HE6
                  have HF6 := Lib.hid fun (w' : World) (hb : Below w6.heap.size w6 w') => (⟨HOK.out, (HE.out.2.1.keep fun q hq _ => HR6.out.2.block q hq).keep (fun q hq _ => hb.block q hq), (hT6.below T hb).1⟩ : (∀ x ∈ l.take (i + 1), okX x) ∧ RecW w' W0.heap.size 9 1 (.slice A' mm c') (strs (linesV k b a (l.take (i + 1)) false).1) ∧ Tel P W0 w' (fun q => (Value.slice A' mm c').ownBlock = some q) g k b a (l.take (i + 1)) false)
                  have HZZ := Lib.hid hzz
                  have hml : mm ≤ 10 * (i + 1) + 1 := by have := HLE.out; rw [← HE.out.1] at this; exact this
                  clear hzz hT6 HE HR6 HEN HOK HLE HI
                  cases en
                  all_goals
                    go_wp2_with fail
                    (with_reducible refine HTX.out.mono ?_); rintro e w7 ⟨rfl, q7, rfl⟩
                    go_wp2_with fail
                    (with_reducible refine (HE6.out q7).mono ?_); rintro e w8 ⟨rfl, q8, rfl⟩
                    go_wp2_with fail
                    (with_reducible refine (HH6.out q8).mono ?_); rintro e w9 ⟨z9, hz9, rfl, hb9⟩
                    have dz9 : decide (z < z9) = false := by simp; have := HZZ.out; omega
                    have HB9 := Lib.hid hb9
                    clear hz9 hb9
                    go_wp2_with fail
                    exact ⟨⟨i + 1, mm, c', A', rfl, by go_num, by omega, hml, Lib.hid (HF6.out w9 HB9.out)⟩, by simp [intOf]; omega⟩
                · have p1 : decide ((i : Int) - (b : Int) < (j : Int) - 1) = true := by simp; omega
                  have hj0 : j = 0 := by omega
                  subst hj0
                  have hzz : heldV k b (l.take (i + 1)) false ≤ z := by
                                    unfold heldV
                                    rw [if_pos ⟨rfl, HK3.out⟩, List.length_take, HL.out, show min (i + 1) n - b = 0 by omega]
                                    exact Nat.le_of_eq HI.out.1.symm
                  clear hj1 hjb
                  have HTX := Lib.hid (texts18 (linesV k b a (l.take (i + 1)) false).1 A' A6 mm c' c6 w6 ((rec_read (HE.out.2.1.keep fun q hq _ => HR6.out.2.block q hq)).base (Nat.zero_le _)) ((rec_read HR6.out.1).base (Nat.zero_le _)) (by omega))
                  have hT6 := (HE.out.2.2.below T (show Below w5.heap.size w5 w6 from ⟨HR6.out.2.os, HR6.out.2.tape, HR6.out.2.output, HR6.out.2.size, HR6.out.2.block⟩)).1
                  have HE6 := Lib.hid fun q => tEno T hT6 HLL.out q
                  have HH6 := Lib.hid fun q => tHld T hT6 HLL.out q
                  rw [← HEN.out] at HE6
                  have HF6 := Lib.hid fun (w' : World) (hb : Below w6.heap.size w6 w') => (⟨HOK.out, (HE.out.2.1.keep fun q hq _ => HR6.out.2.block q hq).keep (fun q hq _ => hb.block q hq), (hT6.below T hb).1⟩ : (∀ x ∈ l.take (i + 1), okX x) ∧ RecW w' W0.heap.size 9 1 (.slice A' mm c') (strs (linesV k b a (l.take (i + 1)) false).1) ∧ Tel P W0 w' (fun q => (Value.slice A' mm c').ownBlock = some q) g k b a (l.take (i + 1)) false)
                  have HZZ := Lib.hid hzz
                  have hml : mm ≤ 10 * (i + 1) + 1 := by have := HLE.out; rw [← HE.out.1] at this; exact this
                  clear hzz hT6 HE HR6 HEN HOK HLE HI
                  cases en
                  all_goals
                    go_wp2_with fail
                    (with_reducible refine HTX.out.mono ?_); rintro e w7 ⟨rfl, q7, rfl⟩
                    go_wp2_with fail
                    (with_reducible refine (HE6.out q7).mono ?_); rintro e w8 ⟨rfl, q8, rfl⟩
                    go_wp2_with fail
                    (with_reducible refine (HH6.out q8).mono ?_); rintro e w9 ⟨z9, hz9, rfl, hb9⟩
                    have dz9 : decide (z < z9) = false := by simp; have := HZZ.out; omega
                    have HB9 := Lib.hid hb9
                    clear hz9 hb9
                    go_wp2_with fail
                    exact ⟨⟨i + 1, mm, c', A', rfl, by go_num, by omega, hml, Lib.hid (HF6.out w9 HB9.out)⟩, by simp [intOf]; omega⟩
            · have q3 : ((k : Int) == 3) = false := by simp; omega
              have hzz : heldV k b (l.take (i + 1)) false ≤ z := by
                              unfold heldV
                              rw [if_neg (fun h => hk3 h.2)]
                              exact Nat.zero_le _
              have HTX := Lib.hid (texts18 (linesV k b a (l.take (i + 1)) false).1 A' A6 mm c' c6 w6 ((rec_read (HE.out.2.1.keep fun q hq _ => HR6.out.2.block q hq)).base (Nat.zero_le _)) ((rec_read HR6.out.1).base (Nat.zero_le _)) (by omega))
              have hT6 := (HE.out.2.2.below T (show Below w5.heap.size w5 w6 from ⟨HR6.out.2.os, HR6.out.2.tape, HR6.out.2.output, HR6.out.2.size, HR6.out.2.block⟩)).1
              have HE6 := Lib.hid fun q => tEno T hT6 HLL.out q
              have HH6 := Lib.hid fun q => tHld T hT6 HLL.out q
              rw [← HEN.out] at HE6
              have HF6 := Lib.hid fun (w' : World) (hb : Below w6.heap.size w6 w') => (⟨HOK.out, (HE.out.2.1.keep fun q hq _ => HR6.out.2.block q hq).keep (fun q hq _ => hb.block q hq), (hT6.below T hb).1⟩ : (∀ x ∈ l.take (i + 1), okX x) ∧ RecW w' W0.heap.size 9 1 (.slice A' mm c') (strs (linesV k b a (l.take (i + 1)) false).1) ∧ Tel P W0 w' (fun q => (Value.slice A' mm c').ownBlock = some q) g k b a (l.take (i + 1)) false)
              have HZZ := Lib.hid hzz
              have hml : mm ≤ 10 * (i + 1) + 1 := by have := HLE.out; rw [← HE.out.1] at this; exact this
              clear hzz hT6 HE HR6 HEN HOK HLE HI
              cases en
              all_goals
                go_wp2_with fail
                (with_reducible refine HTX.out.mono ?_); rintro e w7 ⟨rfl, q7, rfl⟩
                go_wp2_with fail
                (with_reducible refine (HE6.out q7).mono ?_); rintro e w8 ⟨rfl, q8, rfl⟩
                go_wp2_with fail
                (with_reducible refine (HH6.out q8).mono ?_); rintro e w9 ⟨z9, hz9, rfl, hb9⟩
                have dz9 : decide (z < z9) = false := by simp; have := HZZ.out; omega
                have HB9 := Lib.hid hb9
                clear hz9 hb9
                go_wp2_with fail
                exact ⟨⟨i + 1, mm, c', A', rfl, by go_num, by omega, hml, Lib.hid (HF6.out w9 HB9.out)⟩, by simp [intOf]; omega⟩
        · have dz : decide (60 < (x.tx.size : Int)) = false := by simp; omega
          have dm : decide (10 < (x.hm : Int)) = true := by simp; omega
          have HFB := Lib.hid (HB0.out.trans (HBEL.out.mono HB0.out.size))
          clear HO ht q3 hx hr0
          go_wp2_with fail
          go_ret
          exact ⟨rfl, HFB.out⟩
      · have dz : decide (60 < (x.tx.size : Int)) = true := by simp; omega
        have HFB := Lib.hid (HB0.out.trans (HBEL.out.mono HB0.out.size))
        clear HO ht q3 hx hr0
        go_wp2_with fail
        go_ret
        exact ⟨rfl, HFB.out⟩
    · have hin : i = n := by omega
      subst hin
      obtain ⟨q3, hr0, ht⟩ := HO.out
      have e1 : l.take i = l := List.take_of_length_le (by rw [HL.out]; exact Nat.le_refl _)
      have hpre := H.out.pre (Nat.le_refl i) q3
      rw [e1] at ht hr0 hpre q3
      have hlen : (linesV k b a l true).1.length ≤ 10 * i + 1 := by
        have h1 := linesV_len k b a true l (fun y hy => by
          have h1 := (H.out.2 y hy).1.len
          have h2 := (q3 y hy).1
          omega)
        rw [HL.out] at h1
        exact h1
      have HF1 := Lib.hid (tell_fin T (T.gb HGG.out HB0.out) ht hr0 (fun q hq => hq) (by rw [HL.out]; omega) (by omega))
      have HLN := Lib.hid fun (w5 : World) (hw : Below W0.heap.size W0 w5) => lines_any k A i c l b a true w5 (hpre.below hw) hk (by omega) ha hb
      have HLE := Lib.hid hlen
      have HLL : Hid (l.length ≤ 100) := Lib.hid (by rw [HL.out]; omega)
      clear HO q3 hr0 ht e1 hpre hlen
      go_wp2_with (first
        | (go_at_call 14; (with_reducible refine HF1.out.mono ?_); rintro e w4 ⟨D, m4, d, rfl, hS4, A', c', w5, happ, HE⟩; have HAP := Lib.hid happ; clear happ hS4; obtain ⟨k0, k1, k2⟩ := HBX.out w5 HE.out.2.2.bel)
        | (at_builtin; refine wpList_append_run rfl _ _ 29 rfl rfl _ _ _ _ rfl rfl HAP.out ?_))
      obtain ⟨mm, hmm⟩ : ∃ mm, mm = m + m4 := ⟨_, rfl⟩
      rw [← hmm] at HE ⊢
      have hln := HLN.out w5 HE.out.2.2.bel
      rw [← HE.out.1] at hln
      have HLN5 := Lib.hid hln
      have hmb : mm ≤ 1000 := by have := HLE.out; rw [← HE.out.1] at this; omega
      clear hln hmm HLN HAP HF1
      (with_reducible refine HLN5.out.mono ?_); rintro e w6 ⟨A6, c6, rfl, hr6, hb6⟩
      have HR6 := Lib.hid (And.intro hr6 hb6)
      have hT6 := (HE.out.2.2.below T hb6).1
      have HTX := Lib.hid (texts18 (linesV k b a l true).1 A' A6 mm c' c6 w6 ((rec_read (HE.out.2.1.keep fun q hq _ => hb6.block q hq)).base (Nat.zero_le _)) ((rec_read hr6).base (Nat.zero_le _)) (by omega))
      obtain ⟨en, hen⟩ : ∃ en, en = (linesV k b a l true).2 := ⟨_, rfl⟩
      rw [← hen]
      rw [linesV_fin] at hen
      have HE6 := Lib.hid fun q => tEno T hT6 HLL.out q
      rw [← hen] at HE6
      have HFE := Lib.hid fun q => tFin T (T.gb HGG.out HB0.out) (hT6.below T (below_drewN (Below.refl w6.heap.size w6) q)).1 HLL.out
      clear hr6 hb6 hT6 hen HR6 HE k0 k1 k2 HLN5
      have HAD := Lib.hid fun (w9 : World) (K : Nat → Prop) (ht : Tel P W0 w9 K g k b a l true) => (by
        have hb := (Below.refl w9.heap.size w9).alloc (Nat.le_refl _) (.cells #[.int .i64 0, .int .i64 0] 42)
        refine (tAddK T (T.gb HGG.out HB0.out) (ht.fresh T hb) ⟨0, 0, ⟨#[]⟩, some ⟨w9.heap.size, 0, none⟩, 1, 1, [(0, 0)]⟩ ⟨read_one (heap_alloc_new w9 _) (hwide (0, 0)), fun h => by cases h⟩ (show (1 : Nat) ≤ 10 by decide) (show (0 : Nat) ≤ 60 by decide) (show (-9223372036854775808 : Int) ≤ 0 by decide) (show (0 : Int) ≤ 9223372036854775807 by decide) HLL.out (fun _ b o e => by
          injection e with e
          injection e with e
          exact .inr (.inr ⟨by omega, by rw [← e]; simp⟩))).mono fun e w' hh => ?_
        obtain ⟨D2, d2, out2, he, -, -, -, h2⟩ := hh
        obtain ⟨ho, ht2⟩ := h2 rfl
        subst ho
        exact ⟨D2, d2, he, _, ht2⟩ :
        Calls Tryd.prog 9 #[.pointer (some ⟨g, 0, none⟩), .agg #[.int .i64 0, .int .i64 0, .string ⟨#[]⟩], .slice (some ⟨w9.heap.size, 0, none⟩) 1 1] (w9.alloc (.cells #[.int .i64 0, .int .i64 0] 42)) fun e w' => ∃ D2 d2, e = .returned (.slice D2 0 d2) ∧ ∃ K', Tel P W0 w' K' g k b a l true)
      cases en
      all_goals
        go_wp2_with fail
        (with_reducible refine HTX.out.mono ?_); rintro e w7 ⟨rfl, q7, rfl⟩
        go_wp2_with fail
        (with_reducible refine (HE6.out q7).mono ?_); rintro e w8 ⟨rfl, q8, rfl⟩
        go_wp2_with fail
        (with_reducible refine (HFE.out q8).mono ?_); rintro e w9 ⟨D9, d9, out9, rfl, -, -, ht9, -, ho9⟩
        have ho9' := ho9 (by first | rfl | trivial)
        subst ho9'
        have HA9 := Lib.hid (HAD.out w9 _ ht9)
        clear ht9 ho9
        go_wp2_with fail
        (with_reducible refine HA9.out.mono ?_); rintro e w11 ⟨D2, d2, rfl, K', ht11⟩
        have HH11 := Lib.hid (show Calls Tryd.prog 13 #[.pointer (some ⟨g, 0, none⟩)] w11 _ from tHld T ht11 HLL.out 0)
        have HB11 := Lib.hid (HB0.out.trans (ht11.bel.mono HB0.out.size))
        clear ht11
        go_wp2_with fail
        (with_reducible refine HH11.out.mono ?_); rintro e w12 ⟨z, hz, rfl, hb12⟩
        have hz0 : z = 0 := by
          unfold heldV at hz
          rw [if_neg (fun h => by cases h.1)] at hz
          omega
        subst hz0
        have HB12 := Lib.hid hb12
        clear hz hb12
        go_wp2_with fail
        go_ret
        exact ⟨rfl, HB11.out.trans (HB12.out.mono HB11.out.size)⟩
theorem lines18_any (x y z : Int) (A : Option Addr) (n c : Nat) (l : List Rw) (w : World) (hG : G w) (h : RowsIn w A n l) (hc : n ≤ c) :
    Calls Tryd.prog 3 #[.agg #[.int .i64 x, .int .i64 y, .int .i64 z], .slice A n c] w fun e w' => e = .returned (.bool true) ∧ Below w.heap.size w w' := by
  by_cases hn : n ≤ 30
  · by_cases hb : (x < 0 ∨ 3 < x) ∨ (y < 0 ∨ 16 < y) ∨ (z < 0 ∨ 16 < z)
    · exact lines18_bad T x y z A n c w hG hn hb
    · obtain ⟨k, rfl⟩ : ∃ k : Nat, x = (k : Int) := ⟨x.toNat, by omega⟩
      obtain ⟨b, rfl⟩ : ∃ b : Nat, y = (b : Int) := ⟨y.toNat, by omega⟩
      obtain ⟨a, rfl⟩ : ∃ a : Nat, z = (a : Int) := ⟨z.toNat, by omega⟩
      exact lines18_ok T k b a (by omega) (by omega) (by omega) A n c l w hG h hn hc
  · exact lines18_big T x y z A n c w hG hn
end
end Go.Proofs.YtebmafghekfllaaDoor
