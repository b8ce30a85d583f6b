/- The document's context. -/
import Derived.Test.YtebmafghekfllaaDoorCtxF18
import Derived.Deep.DeepCutAuto
import Derived.Deep.CutBlock
import Derived.Deep.CutRange
import Derived.Deep.LoopGhost
namespace Go.Proofs.YtebmafghekfllaaDoor
open Go Go.RowKit
set_option linter.unusedVariables false
set_option maxRecDepth 20000
/-- append in a region that draws, by what its run gives in that world. -/
theorem step_append_ex {P : Program} {ops : Array Oper} {o : Oper} {a : Act} {w : World} {K : Act → World → Prop} {Q : Exit → Act → World → Prop} {E : Prop} (hgd : o.guard = none) (s x : Operand) (t : TypeId)
    (ho : o.op = .call { callee := .builtin .append, args := #[s, x], argTypes := #[t, t] }) (hty : o.type = t)
    (v y : Value) (hs : a.eval s = v) (hx : a.eval x = y) (R : Value → World → Prop) (hrun : ∃ v' w', (Builtin.append_ #[t, t] t #[v, y]).run P w = .ok v' w' ∧ R v' w')
    (hK : ∀ v' w', R v' w' → K (a.put o.dst v') w') : if Region.wanted o (yielded ops a.tmps) = true then Oper.wp P o a w K Q else E := by
  obtain ⟨v', w', hrun, hR⟩ := hrun
  have hw : Region.wanted o (yielded ops a.tmps) = true := by simp [Region.wanted, hgd]
  rw [if_pos hw]
  subst hty
  unfold Oper.wp
  simp [execOp, ho, resolve, invoke, builtin, hs, hx, hrun, Result.andThen]
  exact hK _ _ hR
/-- One text is appended. -/
theorem app_str {w W5 Y : World} {A : Option Addr} {k c : Nat} {out : List ByteArray} (h : RecW W5 w.heap.size 9 1 (.slice A k c) (strs out)) (hb : Below w.heap.size w W5) (hY : Below W5.heap.size W5 Y) (s : ByteArray) (hk : k ≤ 100000) :
    ∃ A' c' w2, (Builtin.append_ #[29, 29] 29 #[.slice A k c, .slice (some ⟨Y.heap.size, 0, none⟩) 1 1]).run Tryd.prog (Y.alloc (.cells #[.string s] 9)) = .ok (.slice A' (k + 1) c') w2 ∧
      RecW w2 w.heap.size 9 1 (.slice A' (k + 1) c') (strs out ++ strs [s]) ∧ Below w.heap.size w w2 :=
  app_rec 29 9 _ 1 16 Tryd.underlying29 info_str rfl (by decide) (by decide) (h.keep fun k hk _ => hY.block k hk) (hb.trans (hY.mono hb.size)) [.string s] (swide _) hk
set_option maxHeartbeats 8000000 in
theorem ctx_any (A : Option Addr) (n c : Nat) (l : List Rw) (b a : Nat) (w : World) (h : RowsAt w A n l) (hn : n ≤ 100) (ha : a ≤ 16) (hb : b ≤ 16) :
    Calls Tryd.prog 24 #[.slice A n c, .int .i64 (b : Int), .int .i64 (a : Int)] w fun e w' => ∃ A2 c2, e = .returned (.slice A2 (ctxL l b a).length c2) ∧ RecW w' w.heap.size 9 1 (.slice A2 (ctxL l b a).length c2) (strs (ctxL l b a)) ∧ Below w.heap.size w w' := by
  have H := Lib.hid h
  have HL := Lib.hid h.len
  clear h
  have hcl := row_cells
  go_enter Tryd.func24, Tryd.ntmps24
  go_wp2_with fail
  go_loopg [7, 8, 9] n (fun gk vo vl vi wr => ∃ (i k c2 : Nat) (A2 : Option Addr) (out : List ByteArray) (last : Option Nat), i ≤ n ∧ gk = n - i ∧ k ≤ 2 * i ∧ vo = .slice A2 k c2 ∧ vl = .int .i64 (lastI last) ∧ vi = .int .i64 (i : Int) ∧ Hid (RecW wr w.heap.size 9 1 (.slice A2 k c2) (strs out) ∧ Below w.heap.size w wr) ∧ Hid (ctxS l b a i = (out, last)))
  case atStart => exact ⟨0, 0, 0, none, [], none, Nat.zero_le _, rfl, Nat.le_refl _, rfl, rfl, rfl, Lib.hid ⟨RecW.nil _ _ _ _, Below.refl _ _⟩, Lib.hid rfl⟩
  case round =>
    obtain ⟨i, k, c2, A2, out, last, hi, hgk, hk, rfl, rfl, rfl, HO, HSL⟩ := hrel
    by_cases hlt : i < n
    · obtain ⟨x, hx⟩ : ∃ x, l[i]? = some x := ⟨_, List.getElem?_eq_getElem (by rw [HL.out]; exact hlt)⟩
      obtain ⟨bb, o, rfl, hbl, d0, d1, d2, d3⟩ := (H.out.below HO.out.2).at hx
      have hmem := H.out.2 x (List.mem_of_getElem? hx)
      have HC := Lib.hid (hits_any x wr (hmem.1.below HO.out.2) (by omega) (by omega))
      obtain ⟨m, hm⟩ : ∃ m, m = (goodH x).length := ⟨_, rfl⟩
      obtain ⟨hb', hhb⟩ : ∃ hb', hb' = hitB l i := ⟨_, rfl⟩
      have hh : decide (0 < m) = hb' := by rw [hhb, hm]; exact hitB_dec hx
      rw [← hm] at HC
      unfold Rw.val at HC
      have HHB := Lib.hid hhb
      have HX := Lib.hid hx
      have HME := Lib.hid hmem
      have HGK := Lib.hid hgk
      obtain ⟨d, hd⟩ : ∃ d, d = tellB l b a i := ⟨_, rfl⟩
      have HD := Lib.hid hd
      have hN1 : Hid (∀ w2 c, Below wr.heap.size wr w2 → Calls Tryd.prog 35 #[.slice (some ⟨bb, o, none⟩) n c, .int .i64 ((i : Int) - (a : Int)), .int .i64 ((i : Int) - 1)] w2 fun e w' => e = .returned (.bool (nearB l ((i : Int) - (a : Int)) ((i : Int) - 1))) ∧ Below wr.heap.size wr w') := Lib.hid fun w2 c hb2 => (near_any _ n c l _ _ w2 (H.out.below (HO.out.2.trans (hb2.mono HO.out.2.size))) hn (by omega) (by omega)).mono fun e w' hh => ⟨hh.1, hb2.trans (hh.2.mono hb2.size)⟩
      have hN2 : Hid (∀ w2 c, Below wr.heap.size wr w2 → Calls Tryd.prog 35 #[.slice (some ⟨bb, o, none⟩) n c, .int .i64 ((i : Int) + 1), .int .i64 ((i : Int) + (b : Int))] w2 fun e w' => e = .returned (.bool (nearB l ((i : Int) + 1) ((i : Int) + (b : Int)))) ∧ Below wr.heap.size wr w') := Lib.hid fun w2 c hb2 => (near_any _ n c l _ _ w2 (H.out.below (HO.out.2.trans (hb2.mono HO.out.2.size))) hn (by omega) (by omega)).mono fun e w' hh => ⟨hh.1, hb2.trans (hh.2.mono hb2.size)⟩
      obtain ⟨n1, hn1⟩ : ∃ n1, n1 = nearB l ((i : Int) - (a : Int)) ((i : Int) - 1) := ⟨_, rfl⟩
      obtain ⟨n2, hn2⟩ : ∃ n2, n2 = nearB l ((i : Int) + 1) ((i : Int) + (b : Int)) := ⟨_, rfl⟩
      rw [← hn1] at hN1
      rw [← hn2] at hN2
      have hdd : d = (hb' || n1 || n2) := by rw [hd, hhb, hn1, hn2]; rfl
      have HDD := Lib.hid hdd
      have e1 : RowKit.wrap64 ((i : Int) - (a : Int)) = (i : Int) - (a : Int) := by unfold RowKit.wrap64; omega
      have e2 : RowKit.wrap64 ((i : Int) - 1) = (i : Int) - 1 := by unfold RowKit.wrap64; omega
      have e3 : RowKit.wrap64 ((i : Int) + (b : Int)) = (i : Int) + (b : Int) := by unfold RowKit.wrap64; omega
      have e4 : RowKit.wrap64 ((i : Int) + 1) = (i : Int) + 1 := by unfold RowKit.wrap64; omega
      clear hhb hx hmem hgk hd hn1 hn2 hdd hm
      have HW := Lib.hid HO.out.2
      go_upto_region 7 with (go_at_call 23; (with_reducible refine HC.out.mono ?_); rintro e w2 ⟨A3, c3, rfl, -, hb2⟩; have HB2 := Lib.hid (HW.out.trans (hb2.mono HW.out.size)); have HB3 := Lib.hid hb2; clear hb2)
      go_cut [46] from 25 to 45 (fun s46 wx => s46 = .bool (!d) ∧ Hid (Below wr.heap.size wr wx))
      case first =>
        clear hh d0 d1 d2 d3 hcl hlt hk hbl hi
        rcases hb' with _ | _
        · rcases n1 with _ | _
          · rcases n2 with _ | _
            all_goals
              have hdv := HDD.out
              simp only [Bool.or_false, Bool.or_true] at hdv
              subst hdv
              go_wp2_with (go_at_call 35; (first | (with_reducible refine (hN2.out _ _ HB4.out).mono ?_) | (with_reducible refine (hN1.out _ _ HB3.out).mono ?_)); rintro e w4 ⟨rfl, hb4⟩; have HB4 := Lib.hid hb4; clear hb4)
              go_meet
              exact ⟨rfl, HB4⟩
          · have hdv := HDD.out
            simp only [Bool.false_or, Bool.true_or] at hdv
            subst hdv
            go_wp2_with (go_at_call 35; (first | (with_reducible refine (hN1.out _ _ HB3.out).mono ?_) | (with_reducible refine (hN2.out _ _ HB4.out).mono ?_)); rintro e w4 ⟨rfl, hb4⟩; have HB4 := Lib.hid hb4; clear hb4)
            go_meet
            exact ⟨rfl, HB4⟩
        · have hdv := HDD.out
          simp only [Bool.true_or] at hdv
          subst hdv
          go_wp2_with fail
          go_meet
          exact ⟨rfl, HB3⟩
      case rest =>
        obtain ⟨rfl, HW2⟩ := hcut
        have HWC := Lib.hid (HO.out.2.trans (HW2.out.mono HO.out.2.size))
        have HRC := Lib.hid (HO.out.1.keep (w' := wc) fun k hk _ => HW2.out.block k hk)
        have HLL := Lib.hid fun j (h : last = some j) => ctxS_last l b a i j (by rw [HSL.out]; exact h)
        rcases d with _ | _
        · have HS := Lib.hid (step_no HD.out.symm)
          clear hh d0 d1 d2 d3 hN1 hN2 HDD e1 e2 e3 e4 hcl
          simp only [Bool.not_false]
          go_wp2_with fail
          have HGK2 := HGK.out
          go_roundg (n - (i + 1))
          case measure => omega
          case rel => exact ⟨i + 1, k, c2, A2, out, last, by omega, rfl, by omega, (by first | rfl | exact ⟨rfl, rfl, rfl⟩), rfl, (by first | rfl | omega | go_num), Lib.hid ⟨HRC.out, HWC.out⟩, Lib.hid (HS.out.trans HSL.out)⟩
        · have HS := Lib.hid (step_yes HX.out HD.out.symm HSL.out)
          rw [← HHB.out] at HS
          obtain ⟨b3, o3, hA3, hb3, f0, f1, f2, f3⟩ := (H.out.below HWC.out).at HX.out
          injection hA3 with hA3
          injection hA3 with hA3 hA4 _
          subst hA3; subst hA4
          have HDG := Lib.hid fun (w' : World) => dig_any x.n HME.out.2.2.2.1 HME.out.2.2.2.2 w'
          have hz := lineS_size x hb' HME.out.2.2.2.1 HME.out.2.2.2.2 HME.out.2.2.1
          have hzt := HME.out.2.2.1
          clear d0 d1 d2 d3 hN1 hN2 HDD HW2 f1 f3 hh e1 e2 e3 e4
          have hkl := rec_len HRC.out
          rw [strs_length] at hkl
          have HKL := Lib.hid hkl
          have hk2 : k ≤ 200 := by omega
          clear hkl
          simp only [Bool.not_true]
          obtain ⟨a0, ha0⟩ : ∃ a0, a0 = itoaS x.n := ⟨_, rfl⟩
          have HA0 := Lib.hid ha0
          rw [← ha0] at HDG hz
          clear ha0
          rcases hb' with _ | _
          · rcases last with _ | jl
            · have hsep : sepB l i none = false := rfl
              rw [hsep, if_neg (by decide), List.append_nil] at HS
              clear hsep
              simp only [lastI]
              go_wp2_with fail
              go_quiet (fail)
              rename Nat => q1
              obtain ⟨W5, hW5⟩ : ∃ W5, W5 = wc.drewN q1 := ⟨_, rfl⟩
              have H5 : Hid (RecW W5 w.heap.size 9 1 (.slice A2 k c2) (strs out) ∧ Below w.heap.size w W5) := Lib.hid (by rw [hW5]; exact ⟨HRC.out.keep fun _ _ _ => rfl, below_drewN HWC.out q1⟩)
              rw [← hW5]
              clear hW5
              go_upto_region 14 with fail
              have HBX := Lib.hid fun (w' : World) (hw : Below w.heap.size w w') => (H.out.below hw).at HX.out
              have g0 : ∀ w', Below w.heap.size w w' → w'.cell? ⟨bb, o + i * 4, none⟩ = some (.int .i64 x.n) := fun w' hw => by
                obtain ⟨b9, o9, e9, _, q0, _⟩ := HBX.out w' hw
                injection e9 with e9
                injection e9 with e9 e10 _
                subst e9; subst e10
                exact q0
              have g2 : ∀ w', Below w.heap.size w w' → w'.cell? ⟨bb, o + i * 4 + 2, none⟩ = some (.string x.tx) := fun w' hw => by
                obtain ⟨b9, o9, e9, _, _, _, q2, _⟩ := HBX.out w' hw
                injection e9 with e9
                injection e9 with e9 e10 _
                subst e9; subst e10
                exact q2
              have HDW := Lib.hid (HDG.out W5.drew)
              have HWD := Lib.hid fun (wD : World) (hw : Below W5.drew.heap.size W5.drew wD) => (⟨hw.os, hw.tape, hw.output, hw.size, hw.block⟩ : Below W5.heap.size W5 wD)
              have l1 : ¬ 9223372036854775807 < a0.size + 1 := by omega
              have l2 : ¬ 9223372036854775807 < a0.size + 1 + x.tx.size := by omega
              have hS0 : Below w.heap.size w W5.drew := below_drewN H5.out.2 1
              have hcl := row_cells
              clear hz hzt
              go_region_held_law (fun w' => Below w.heap.size w w') (first | assumption | (exact Below.alloc (by assumption) (HSZ.out) _)) (first
                | (go_at_call 16; (with_reducible refine HDW.out.mono ?_); rintro e wD ⟨rfl, hD⟩; have HBD := Lib.hid (HWD.out wD hD); have hSD : Below w.heap.size w wD := H5.out.2.trans (HBD.out.mono H5.out.2.size); have HSZ := Lib.hid hSD.size; obtain ⟨A6, c6, w6, ha1, ha2, ha3⟩ := app_str H5.out.1 H5.out.2 HBD.out (a0 ++ (⟨#[45]⟩ : ByteArray) ++ x.tx) (by omega); have HAP := Lib.hid ha1; have H6 := Lib.hid (And.intro ha2 ha3); have hSA : Below w.heap.size w w6 := ha3; clear hD ha1 ha2 ha3)
                | (refine step_append_run rfl (.tmp 70) (.tmp 87) 29 rfl rfl _ _ _ _ rfl rfl HAP.out ?_))
              have hln : a0 ++ (⟨#[45]⟩ : ByteArray) ++ x.tx = lineS x false := by rw [HA0.out]; rfl
              have HLN := Lib.hid hln
              have HG2 := HGK.out
              clear g0 g2 l1 l2 hS0 hSD hSA hln HBX HDW HWD HSZ HBD HAP
              simp only [Exit.inBlock, Exit.then]
              go_wp2_with fail
              go_roundg (n - (i + 1))
              case measure => omega
              case rel => exact ⟨i + 1, k + 1, c6, A6, out ++ [lineS x false], some i, by omega, rfl, by omega, (by first | rfl | exact ⟨rfl, rfl, rfl⟩), rfl, (by first | rfl | omega | go_num), Lib.hid ⟨by rw [strs_append, ← HLN.out]; exact H6.out.1, H6.out.2⟩, Lib.hid HS.out⟩
            · obtain ⟨y, hy⟩ : ∃ y, l[jl]? = some y := ⟨_, List.getElem?_eq_getElem (by rw [HL.out]; have := HLL.out jl rfl; omega)⟩
              have hjl : jl < n := by have := (List.getElem?_eq_some_iff.1 hy).1; rw [HL.out] at this; exact this
              obtain ⟨b8, o8, e8, _, j0, _⟩ := (H.out.below HWC.out).at hy
              injection e8 with e8
              injection e8 with e8 e9 _
              subst e8; subst e9
              have hsb : sepB l i (some jl) = decide (x.n ≠ succI y.n) := by unfold sepB; dsimp only; rw [HX.out, hy]
              have HSB := Lib.hid hsb
              have hj0 : (0 : Int) ≤ (jl : Int) := by omega
              have hjn : (jl : Int) < (n : Int) := by omega
              have hin : (i : Int) < (n : Int) := by omega
              have hi0 : (0 : Int) ≤ (i : Int) := by omega
              have hcl := row_cells
              clear hy hsb
              simp only [lastI]
              by_cases hse : x.n = succI y.n
              · rw [HSB.out, show decide (x.n ≠ succI y.n) = false by simp [hse], if_neg (by decide), List.append_nil] at HS
                have hq : (x.n != RowKit.wrap64 (y.n + 1)) = false := by simpa [succI] using hse
                clear hse HSB hjl
                go_wp2_with fail
                go_quiet (fail)
                rename Nat => q1
                clear j0 f0 f2 hj0 hjn hin hi0 hcl
                obtain ⟨W5, hW5⟩ : ∃ W5, W5 = wc.drewN q1 := ⟨_, rfl⟩
                have H5 : Hid (RecW W5 w.heap.size 9 1 (.slice A2 k c2) (strs out) ∧ Below w.heap.size w W5) := Lib.hid (by rw [hW5]; exact ⟨HRC.out.keep fun _ _ _ => rfl, below_drewN HWC.out q1⟩)
                rw [← hW5]
                clear hW5
                go_upto_region 14 with fail
                have HBX := Lib.hid fun (w' : World) (hw : Below w.heap.size w w') => (H.out.below hw).at HX.out
                have g0 : ∀ w', Below w.heap.size w w' → w'.cell? ⟨bb, o + i * 4, none⟩ = some (.int .i64 x.n) := fun w' hw => by
                  obtain ⟨b9, o9, e9, _, q0, _⟩ := HBX.out w' hw
                  injection e9 with e9
                  injection e9 with e9 e10 _
                  subst e9; subst e10
                  exact q0
                have g2 : ∀ w', Below w.heap.size w w' → w'.cell? ⟨bb, o + i * 4 + 2, none⟩ = some (.string x.tx) := fun w' hw => by
                  obtain ⟨b9, o9, e9, _, _, _, q2, _⟩ := HBX.out w' hw
                  injection e9 with e9
                  injection e9 with e9 e10 _
                  subst e9; subst e10
                  exact q2
                have HDW := Lib.hid (HDG.out W5.drew)
                have HWD := Lib.hid fun (wD : World) (hw : Below W5.drew.heap.size W5.drew wD) => (⟨hw.os, hw.tape, hw.output, hw.size, hw.block⟩ : Below W5.heap.size W5 wD)
                have l1 : ¬ 9223372036854775807 < a0.size + 1 := by omega
                have l2 : ¬ 9223372036854775807 < a0.size + 1 + x.tx.size := by omega
                have hS0 : Below w.heap.size w W5.drew := below_drewN H5.out.2 1
                have hcl := row_cells
                clear hz hzt
                go_region_held_law (fun w' => Below w.heap.size w w') (first | assumption | (exact Below.alloc (by assumption) (HSZ.out) _)) (first
                  | (go_at_call 16; (with_reducible refine HDW.out.mono ?_); rintro e wD ⟨rfl, hD⟩; have HBD := Lib.hid (HWD.out wD hD); have hSD : Below w.heap.size w wD := H5.out.2.trans (HBD.out.mono H5.out.2.size); have HSZ := Lib.hid hSD.size; obtain ⟨A6, c6, w6, ha1, ha2, ha3⟩ := app_str H5.out.1 H5.out.2 HBD.out (a0 ++ (⟨#[45]⟩ : ByteArray) ++ x.tx) (by omega); have HAP := Lib.hid ha1; have H6 := Lib.hid (And.intro ha2 ha3); have hSA : Below w.heap.size w w6 := ha3; clear hD ha1 ha2 ha3)
                  | (refine step_append_run rfl (.tmp 70) (.tmp 87) 29 rfl rfl _ _ _ _ rfl rfl HAP.out ?_))
                have hln : a0 ++ (⟨#[45]⟩ : ByteArray) ++ x.tx = lineS x false := by rw [HA0.out]; rfl
                have HLN := Lib.hid hln
                have HG2 := HGK.out
                clear g0 g2 l1 l2 hS0 hSD hSA hln HBX HDW HWD HSZ HBD HAP
                simp only [Exit.inBlock, Exit.then]
                go_wp2_with fail
                go_roundg (n - (i + 1))
                case measure => omega
                case rel => exact ⟨i + 1, k + 1, c6, A6, out ++ [lineS x false], some i, by omega, rfl, by omega, (by first | rfl | exact ⟨rfl, rfl, rfl⟩), rfl, (by first | rfl | omega | go_num), Lib.hid ⟨by rw [strs_append, ← HLN.out]; exact H6.out.1, H6.out.2⟩, Lib.hid HS.out⟩
              · rw [HSB.out, show decide (x.n ≠ succI y.n) = true by simp [hse], if_pos rfl] at HS
                have hq : (x.n != RowKit.wrap64 (y.n + 1)) = true := by simpa [succI] using hse
                clear hse HSB hjl
                go_wp2_with fail
                go_quiet (fail)
                rename Nat => q1
                clear j0 f0 f2 hj0 hjn hin hi0 hcl
                obtain ⟨W4, hW4⟩ : ∃ W4, W4 = wc.drewN q1 := ⟨_, rfl⟩
                have H4 : Hid (RecW W4 w.heap.size 9 1 (.slice A2 k c2) (strs out) ∧ Below w.heap.size w W4) := Lib.hid (by rw [hW4]; exact ⟨HRC.out.keep fun _ _ _ => rfl, below_drewN HWC.out q1⟩)
                rw [← hW4]
                clear hW4
                obtain ⟨A5, c5, W5, hh1, hh2, hh3⟩ := app_str H4.out.1 H4.out.2 (Below.refl W4.heap.size W4) (⟨#[45, 45]⟩ : ByteArray) (by omega)
                have HAP9 := Lib.hid hh1
                have H5 : Hid (RecW W5 w.heap.size 9 1 (.slice A5 (k + 1) c5) (strs (out ++ [⟨#[45, 45]⟩])) ∧ Below w.heap.size w W5) := Lib.hid ⟨by rw [strs_append]; exact hh2, hh3⟩
                clear hh1 hh2 hh3
                go_upto_region 10 with (at_builtin; refine wpList_append_run rfl (.tmp 65) (.tmp 66) 29 rfl rfl _ _ _ _ rfl rfl HAP9.out ?_)
                go_upto_region 14 with fail
                have HBX := Lib.hid fun (w' : World) (hw : Below w.heap.size w w') => (H.out.below hw).at HX.out
                have g0 : ∀ w', Below w.heap.size w w' → w'.cell? ⟨bb, o + i * 4, none⟩ = some (.int .i64 x.n) := fun w' hw => by
                  obtain ⟨b9, o9, e9, _, q0, _⟩ := HBX.out w' hw
                  injection e9 with e9
                  injection e9 with e9 e10 _
                  subst e9; subst e10
                  exact q0
                have g2 : ∀ w', Below w.heap.size w w' → w'.cell? ⟨bb, o + i * 4 + 2, none⟩ = some (.string x.tx) := fun w' hw => by
                  obtain ⟨b9, o9, e9, _, _, _, q2, _⟩ := HBX.out w' hw
                  injection e9 with e9
                  injection e9 with e9 e10 _
                  subst e9; subst e10
                  exact q2
                have HDW := Lib.hid (HDG.out W5.drew)
                have HWD := Lib.hid fun (wD : World) (hw : Below W5.drew.heap.size W5.drew wD) => (⟨hw.os, hw.tape, hw.output, hw.size, hw.block⟩ : Below W5.heap.size W5 wD)
                have l1 : ¬ 9223372036854775807 < a0.size + 1 := by omega
                have l2 : ¬ 9223372036854775807 < a0.size + 1 + x.tx.size := by omega
                have hS0 : Below w.heap.size w W5.drew := below_drewN H5.out.2 1
                have hcl := row_cells
                clear hz hzt
                go_region_held_law (fun w' => Below w.heap.size w w') (first | assumption | (exact Below.alloc (by assumption) (HSZ.out) _)) (first
                  | (go_at_call 16; (with_reducible refine HDW.out.mono ?_); rintro e wD ⟨rfl, hD⟩; have HBD := Lib.hid (HWD.out wD hD); have hSD : Below w.heap.size w wD := H5.out.2.trans (HBD.out.mono H5.out.2.size); have HSZ := Lib.hid hSD.size; obtain ⟨A6, c6, w6, ha1, ha2, ha3⟩ := app_str H5.out.1 H5.out.2 HBD.out (a0 ++ (⟨#[45]⟩ : ByteArray) ++ x.tx) (by omega); have HAP := Lib.hid ha1; have H6 := Lib.hid (And.intro ha2 ha3); have hSA : Below w.heap.size w w6 := ha3; clear hD ha1 ha2 ha3)
                  | (refine step_append_run rfl (.tmp 70) (.tmp 87) 29 rfl rfl _ _ _ _ rfl rfl HAP.out ?_))
                have hln : a0 ++ (⟨#[45]⟩ : ByteArray) ++ x.tx = lineS x false := by rw [HA0.out]; rfl
                have HLN := Lib.hid hln
                have HG2 := HGK.out
                clear g0 g2 l1 l2 hS0 hSD hSA hln HBX HDW HWD HSZ HBD HAP
                simp only [Exit.inBlock, Exit.then]
                go_wp2_with fail
                go_roundg (n - (i + 1))
                case measure => omega
                case rel => exact ⟨i + 1, k + 1 + 1, c6, A6, out ++ [⟨#[45, 45]⟩] ++ [lineS x false], some i, by omega, rfl, by omega, (by first | rfl | exact ⟨rfl, rfl, rfl⟩), rfl, (by first | rfl | omega | go_num), Lib.hid ⟨by rw [strs_append, ← HLN.out]; exact H6.out.1, H6.out.2⟩, Lib.hid HS.out⟩
          · rcases last with _ | jl
            · have hsep : sepB l i none = false := rfl
              rw [hsep, if_neg (by decide), List.append_nil] at HS
              clear hsep
              simp only [lastI]
              go_wp2_with fail
              go_quiet (fail)
              rename Nat => q1
              obtain ⟨W5, hW5⟩ : ∃ W5, W5 = wc.drewN q1 := ⟨_, rfl⟩
              have H5 : Hid (RecW W5 w.heap.size 9 1 (.slice A2 k c2) (strs out) ∧ Below w.heap.size w W5) := Lib.hid (by rw [hW5]; exact ⟨HRC.out.keep fun _ _ _ => rfl, below_drewN HWC.out q1⟩)
              rw [← hW5]
              clear hW5
              go_upto_region 14 with fail
              have HBX := Lib.hid fun (w' : World) (hw : Below w.heap.size w w') => (H.out.below hw).at HX.out
              have g0 : ∀ w', Below w.heap.size w w' → w'.cell? ⟨bb, o + i * 4, none⟩ = some (.int .i64 x.n) := fun w' hw => by
                obtain ⟨b9, o9, e9, _, q0, _⟩ := HBX.out w' hw
                injection e9 with e9
                injection e9 with e9 e10 _
                subst e9; subst e10
                exact q0
              have g2 : ∀ w', Below w.heap.size w w' → w'.cell? ⟨bb, o + i * 4 + 2, none⟩ = some (.string x.tx) := fun w' hw => by
                obtain ⟨b9, o9, e9, _, _, _, q2, _⟩ := HBX.out w' hw
                injection e9 with e9
                injection e9 with e9 e10 _
                subst e9; subst e10
                exact q2
              have HDW := Lib.hid (HDG.out W5.drew)
              have HWD := Lib.hid fun (wD : World) (hw : Below W5.drew.heap.size W5.drew wD) => (⟨hw.os, hw.tape, hw.output, hw.size, hw.block⟩ : Below W5.heap.size W5 wD)
              have l1 : ¬ 9223372036854775807 < a0.size + 1 := by omega
              have l2 : ¬ 9223372036854775807 < a0.size + 1 + x.tx.size := by omega
              have hS0 : Below w.heap.size w W5.drew := below_drewN H5.out.2 1
              have hcl := row_cells
              clear hz hzt
              go_region_held_law (fun w' => Below w.heap.size w w') (first | assumption | (exact Below.alloc (by assumption) (HSZ.out) _)) (first
                | (go_at_call 16; (with_reducible refine HDW.out.mono ?_); rintro e wD ⟨rfl, hD⟩; have HBD := Lib.hid (HWD.out wD hD); have hSD : Below w.heap.size w wD := H5.out.2.trans (HBD.out.mono H5.out.2.size); have HSZ := Lib.hid hSD.size; obtain ⟨A6, c6, w6, ha1, ha2, ha3⟩ := app_str H5.out.1 H5.out.2 HBD.out (a0 ++ (⟨#[58]⟩ : ByteArray) ++ x.tx) (by omega); have HAP := Lib.hid ha1; have H6 := Lib.hid (And.intro ha2 ha3); have hSA : Below w.heap.size w w6 := ha3; clear hD ha1 ha2 ha3)
                | (refine step_append_run rfl (.tmp 70) (.tmp 87) 29 rfl rfl _ _ _ _ rfl rfl HAP.out ?_))
              have hln : a0 ++ (⟨#[58]⟩ : ByteArray) ++ x.tx = lineS x true := by rw [HA0.out]; rfl
              have HLN := Lib.hid hln
              have HG2 := HGK.out
              clear g0 g2 l1 l2 hS0 hSD hSA hln HBX HDW HWD HSZ HBD HAP
              simp only [Exit.inBlock, Exit.then]
              go_wp2_with fail
              go_roundg (n - (i + 1))
              case measure => omega
              case rel => exact ⟨i + 1, k + 1, c6, A6, out ++ [lineS x true], some i, by omega, rfl, by omega, (by first | rfl | exact ⟨rfl, rfl, rfl⟩), rfl, (by first | rfl | omega | go_num), Lib.hid ⟨by rw [strs_append, ← HLN.out]; exact H6.out.1, H6.out.2⟩, Lib.hid HS.out⟩
            · obtain ⟨y, hy⟩ : ∃ y, l[jl]? = some y := ⟨_, List.getElem?_eq_getElem (by rw [HL.out]; have := HLL.out jl rfl; omega)⟩
              have hjl : jl < n := by have := (List.getElem?_eq_some_iff.1 hy).1; rw [HL.out] at this; exact this
              obtain ⟨b8, o8, e8, _, j0, _⟩ := (H.out.below HWC.out).at hy
              injection e8 with e8
              injection e8 with e8 e9 _
              subst e8; subst e9
              have hsb : sepB l i (some jl) = decide (x.n ≠ succI y.n) := by unfold sepB; dsimp only; rw [HX.out, hy]
              have HSB := Lib.hid hsb
              have hj0 : (0 : Int) ≤ (jl : Int) := by omega
              have hjn : (jl : Int) < (n : Int) := by omega
              have hin : (i : Int) < (n : Int) := by omega
              have hi0 : (0 : Int) ≤ (i : Int) := by omega
              have hcl := row_cells
              clear hy hsb
              simp only [lastI]
              by_cases hse : x.n = succI y.n
              · rw [HSB.out, show decide (x.n ≠ succI y.n) = false by simp [hse], if_neg (by decide), List.append_nil] at HS
                have hq : (x.n != RowKit.wrap64 (y.n + 1)) = false := by simpa [succI] using hse
                clear hse HSB hjl
                go_wp2_with fail
                go_quiet (fail)
                rename Nat => q1
                clear j0 f0 f2 hj0 hjn hin hi0 hcl
                obtain ⟨W5, hW5⟩ : ∃ W5, W5 = wc.drewN q1 := ⟨_, rfl⟩
                have H5 : Hid (RecW W5 w.heap.size 9 1 (.slice A2 k c2) (strs out) ∧ Below w.heap.size w W5) := Lib.hid (by rw [hW5]; exact ⟨HRC.out.keep fun _ _ _ => rfl, below_drewN HWC.out q1⟩)
                rw [← hW5]
                clear hW5
                go_upto_region 14 with fail
                have HBX := Lib.hid fun (w' : World) (hw : Below w.heap.size w w') => (H.out.below hw).at HX.out
                have g0 : ∀ w', Below w.heap.size w w' → w'.cell? ⟨bb, o + i * 4, none⟩ = some (.int .i64 x.n) := fun w' hw => by
                  obtain ⟨b9, o9, e9, _, q0, _⟩ := HBX.out w' hw
                  injection e9 with e9
                  injection e9 with e9 e10 _
                  subst e9; subst e10
                  exact q0
                have g2 : ∀ w', Below w.heap.size w w' → w'.cell? ⟨bb, o + i * 4 + 2, none⟩ = some (.string x.tx) := fun w' hw => by
                  obtain ⟨b9, o9, e9, _, _, _, q2, _⟩ := HBX.out w' hw
                  injection e9 with e9
                  injection e9 with e9 e10 _
                  subst e9; subst e10
                  exact q2
                have HDW := Lib.hid (HDG.out W5.drew)
                have HWD := Lib.hid fun (wD : World) (hw : Below W5.drew.heap.size W5.drew wD) => (⟨hw.os, hw.tape, hw.output, hw.size, hw.block⟩ : Below W5.heap.size W5 wD)
                have l1 : ¬ 9223372036854775807 < a0.size + 1 := by omega
                have l2 : ¬ 9223372036854775807 < a0.size + 1 + x.tx.size := by omega
                have hS0 : Below w.heap.size w W5.drew := below_drewN H5.out.2 1
                have hcl := row_cells
                clear hz hzt
                go_region_held_law (fun w' => Below w.heap.size w w') (first | assumption | (exact Below.alloc (by assumption) (HSZ.out) _)) (first
                  | (go_at_call 16; (with_reducible refine HDW.out.mono ?_); rintro e wD ⟨rfl, hD⟩; have HBD := Lib.hid (HWD.out wD hD); have hSD : Below w.heap.size w wD := H5.out.2.trans (HBD.out.mono H5.out.2.size); have HSZ := Lib.hid hSD.size; obtain ⟨A6, c6, w6, ha1, ha2, ha3⟩ := app_str H5.out.1 H5.out.2 HBD.out (a0 ++ (⟨#[58]⟩ : ByteArray) ++ x.tx) (by omega); have HAP := Lib.hid ha1; have H6 := Lib.hid (And.intro ha2 ha3); have hSA : Below w.heap.size w w6 := ha3; clear hD ha1 ha2 ha3)
                  | (refine step_append_run rfl (.tmp 70) (.tmp 87) 29 rfl rfl _ _ _ _ rfl rfl HAP.out ?_))
                have hln : a0 ++ (⟨#[58]⟩ : ByteArray) ++ x.tx = lineS x true := by rw [HA0.out]; rfl
                have HLN := Lib.hid hln
                have HG2 := HGK.out
                clear g0 g2 l1 l2 hS0 hSD hSA hln HBX HDW HWD HSZ HBD HAP
                simp only [Exit.inBlock, Exit.then]
                go_wp2_with fail
                go_roundg (n - (i + 1))
                case measure => omega
                case rel => exact ⟨i + 1, k + 1, c6, A6, out ++ [lineS x true], some i, by omega, rfl, by omega, (by first | rfl | exact ⟨rfl, rfl, rfl⟩), rfl, (by first | rfl | omega | go_num), Lib.hid ⟨by rw [strs_append, ← HLN.out]; exact H6.out.1, H6.out.2⟩, Lib.hid HS.out⟩
              · rw [HSB.out, show decide (x.n ≠ succI y.n) = true by simp [hse], if_pos rfl] at HS
                have hq : (x.n != RowKit.wrap64 (y.n + 1)) = true := by simpa [succI] using hse
                clear hse HSB hjl
                go_wp2_with fail
                go_quiet (fail)
                rename Nat => q1
                clear j0 f0 f2 hj0 hjn hin hi0 hcl
                obtain ⟨W4, hW4⟩ : ∃ W4, W4 = wc.drewN q1 := ⟨_, rfl⟩
                have H4 : Hid (RecW W4 w.heap.size 9 1 (.slice A2 k c2) (strs out) ∧ Below w.heap.size w W4) := Lib.hid (by rw [hW4]; exact ⟨HRC.out.keep fun _ _ _ => rfl, below_drewN HWC.out q1⟩)
                rw [← hW4]
                clear hW4
                obtain ⟨A5, c5, W5, hh1, hh2, hh3⟩ := app_str H4.out.1 H4.out.2 (Below.refl W4.heap.size W4) (⟨#[45, 45]⟩ : ByteArray) (by omega)
                have HAP9 := Lib.hid hh1
                have H5 : Hid (RecW W5 w.heap.size 9 1 (.slice A5 (k + 1) c5) (strs (out ++ [⟨#[45, 45]⟩])) ∧ Below w.heap.size w W5) := Lib.hid ⟨by rw [strs_append]; exact hh2, hh3⟩
                clear hh1 hh2 hh3
                go_upto_region 10 with (at_builtin; refine wpList_append_run rfl (.tmp 65) (.tmp 66) 29 rfl rfl _ _ _ _ rfl rfl HAP9.out ?_)
                go_upto_region 14 with fail
                have HBX := Lib.hid fun (w' : World) (hw : Below w.heap.size w w') => (H.out.below hw).at HX.out
                have g0 : ∀ w', Below w.heap.size w w' → w'.cell? ⟨bb, o + i * 4, none⟩ = some (.int .i64 x.n) := fun w' hw => by
                  obtain ⟨b9, o9, e9, _, q0, _⟩ := HBX.out w' hw
                  injection e9 with e9
                  injection e9 with e9 e10 _
                  subst e9; subst e10
                  exact q0
                have g2 : ∀ w', Below w.heap.size w w' → w'.cell? ⟨bb, o + i * 4 + 2, none⟩ = some (.string x.tx) := fun w' hw => by
                  obtain ⟨b9, o9, e9, _, _, _, q2, _⟩ := HBX.out w' hw
                  injection e9 with e9
                  injection e9 with e9 e10 _
                  subst e9; subst e10
                  exact q2
                have HDW := Lib.hid (HDG.out W5.drew)
                have HWD := Lib.hid fun (wD : World) (hw : Below W5.drew.heap.size W5.drew wD) => (⟨hw.os, hw.tape, hw.output, hw.size, hw.block⟩ : Below W5.heap.size W5 wD)
                have l1 : ¬ 9223372036854775807 < a0.size + 1 := by omega
                have l2 : ¬ 9223372036854775807 < a0.size + 1 + x.tx.size := by omega
                have hS0 : Below w.heap.size w W5.drew := below_drewN H5.out.2 1
                have hcl := row_cells
                clear hz hzt
                go_region_held_law (fun w' => Below w.heap.size w w') (first | assumption | (exact Below.alloc (by assumption) (HSZ.out) _)) (first
                  | (go_at_call 16; (with_reducible refine HDW.out.mono ?_); rintro e wD ⟨rfl, hD⟩; have HBD := Lib.hid (HWD.out wD hD); have hSD : Below w.heap.size w wD := H5.out.2.trans (HBD.out.mono H5.out.2.size); have HSZ := Lib.hid hSD.size; obtain ⟨A6, c6, w6, ha1, ha2, ha3⟩ := app_str H5.out.1 H5.out.2 HBD.out (a0 ++ (⟨#[58]⟩ : ByteArray) ++ x.tx) (by omega); have HAP := Lib.hid ha1; have H6 := Lib.hid (And.intro ha2 ha3); have hSA : Below w.heap.size w w6 := ha3; clear hD ha1 ha2 ha3)
                  | (refine step_append_run rfl (.tmp 70) (.tmp 87) 29 rfl rfl _ _ _ _ rfl rfl HAP.out ?_))
                have hln : a0 ++ (⟨#[58]⟩ : ByteArray) ++ x.tx = lineS x true := by rw [HA0.out]; rfl
                have HLN := Lib.hid hln
                have HG2 := HGK.out
                clear g0 g2 l1 l2 hS0 hSD hSA hln HBX HDW HWD HSZ HBD HAP
                simp only [Exit.inBlock, Exit.then]
                go_wp2_with fail
                go_roundg (n - (i + 1))
                case measure => omega
                case rel => exact ⟨i + 1, k + 1 + 1, c6, A6, out ++ [⟨#[45, 45]⟩] ++ [lineS x true], some i, by omega, rfl, by omega, (by first | rfl | exact ⟨rfl, rfl, rfl⟩), rfl, (by first | rfl | omega | go_num), Lib.hid ⟨by rw [strs_append, ← HLN.out]; exact H6.out.1, H6.out.2⟩, Lib.hid HS.out⟩
    · have hin : i = n := by omega
      subst hin
      have hrl := rec_len HO.out.1
      rw [strs_length] at hrl
      have hcx : ctxL l b a = out := by unfold ctxL; rw [HL.out, HSL.out]
      have HF := Lib.hid (And.intro hcx (And.intro hrl HO.out))
      clear hcx hrl HO HSL hgk hcl
      go_wp2_with fail
      go_ret
      rw [HF.out.1, HF.out.2.1]
      exact ⟨A2, c2, rfl, HF.out.2.2.1, HF.out.2.2.2⟩
end Go.Proofs.YtebmafghekfllaaDoor
