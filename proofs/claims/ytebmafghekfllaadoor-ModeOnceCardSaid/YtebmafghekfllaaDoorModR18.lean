/- The closure that tells records in a row. -/
import Derived.Test.YtebmafghekfllaaDoorModS18
namespace Go.Proofs.YtebmafghekfllaaDoor
open Go Go.RowKit
set_option linter.unusedVariables false
set_option maxRecDepth 20000
set_option maxHeartbeats 8000000 in
theorem show_any {w0 w : World} {cg cn : Nat} {st : Option Int} (hT : Pow18 w0) (hb : Below w0.heap.size w0 w) (hcg : w0.heap.size ≤ cg) (hcn : w0.heap.size ≤ cn) (hS : ShM w cg cn st) (m : ByteArray) (hm : m.size ≤ 1) (rows : List Rw) (A : Option Addr) (n c : Nat) (hR : ReadR 0 w A n 3 (rows.map Rw.rcs)) (hap : ∀ b o, A = some ⟨b, o, none⟩ → b ≠ cg ∧ b ≠ cn) (hn : n ≤ 20) (hok : ∀ x ∈ rows, -9223372036854775808 ≤ x.n ∧ x.n ≤ 9223372036854775807 ∧ x.tx.size ≤ 60) :
    Calls Tryd.prog 37 #[.string m, .slice A n c, .pointer (some ⟨cg, 0, none⟩), .pointer (some ⟨cn, 0, none⟩)] w fun e w' => ∃ A2 c2, e = .returned (.slice A2 (shw m st rows).1.length c2) ∧ RecW w' w.heap.size 9 1 (.slice A2 (shw m st rows).1.length c2) (strs (shw m st rows).1) ∧ ShM w' cg cn (shw m st rows).2 ∧ Moved (fun q => q = cg ∨ q = cn) w w' := by
  have hrl : rows.length = n := by have := hR.1.1; simpa using this
  have hold : cg < w.heap.size ∧ cn < w.heap.size := by
    obtain ⟨v, hv, _⟩ := hS.nx
    exact ⟨(Array.getElem?_eq_some_iff.1 hS.bg).1, (Array.getElem?_eq_some_iff.1 hv).1⟩
  have HP := Lib.hid fun (W : World) (hM : Moved (fun q => q = cg ∨ q = cn) w W) => (hT.on (hb.trans (hM.below (B := w0.heap.size) (fun k hk => by rcases hk with rfl | rfl <;> assumption) hb.size)) : Pow18 W)
  have HR := Lib.hid hR
  have HAP := Lib.hid hap
  have HOK := Lib.hid hok
  have HS := Lib.hid hS
  have HOLD := Lib.hid hold
  have HRL := Lib.hid hrl
  clear hT hb hcg hcn hS hR hap hok hrl hold
  have hrc := rec_cells
  go_enter Tryd.func37, Tryd.ntmps37
  go_wp2_with fail
  go_loopw [7, 12] (fun vo vi wr => ∃ (i k c2 : Nat) (A2 : Option Addr), vo = .slice A2 k c2 ∧ vi = .int .i64 (i : Int) ∧ i ≤ n ∧ k ≤ 2 * i ∧ Hid (RecW wr w.heap.size 9 1 (.slice A2 k c2) (strs (shw m st (rows.take i)).1) ∧ ShM wr cg cn (shw m st (rows.take i)).2 ∧ Moved (fun q => q = cg ∨ q = cn) w wr)) (fun _ vi _ => n - (intOf vi).toNat)
  case atStart => exact ⟨0, 0, 0, none, rfl, rfl, Nat.zero_le _, Nat.le_refl _, Lib.hid ⟨RecW.nil _ _ _ _, HS.out, Moved.refl _ _⟩⟩
  case round =>
    obtain ⟨i, k, c2, A2, rfl, rfl, hi, hk, HO⟩ := hrel
    by_cases hlt : i < n
    · obtain ⟨b, o, rfl, -, hbw, hc⟩ := HR.out.2 (by omega)
      obtain ⟨x, hx⟩ : ∃ x, rows[i]? = some x := ⟨_, List.getElem?_eq_getElem (by rw [HRL.out]; exact hlt)⟩
      have hox := HOK.out x (List.mem_of_getElem? hx)
      have hq := HO.out.2.2.block b hbw (fun e => by have := HAP.out b o rfl; rcases e with e | e <;> simp_all)
      have hc' := fun j v hv => (cell_heap0 hq (o + i * 3 + j)).trans (hc i x.rcs (by simp [hx]) j v hv)
      have d0 := hc' 0 _ rfl
      have d1 := hc' 1 _ rfl
      have d2 := hc' 2 _ rfl
      rw [Nat.add_zero] at d0
      have HSN := Lib.hid (shw_snoc m st hx)
      obtain ⟨W4, hW4⟩ : ∃ W4, W4 = wr.alloc (.cells #[.int .i64 x.n, .int .i64 x.p, .string x.tx] 31) := ⟨_, rfl⟩
      obtain ⟨hd, hhd⟩ : ∃ hd, hd = wr.heap.size := ⟨_, rfl⟩
      obtain ⟨s, hs⟩ : ∃ s, s = shw m st (rows.take i) := ⟨_, rfl⟩
      rw [← hs] at HO HSN
      have HR4 : Hid (ShR w W4 cg cn hd s.2 x A2 k c2 s.1) := Lib.hid (by
        have hbA : Below wr.heap.size wr W4 := by rw [hW4]; exact (Below.refl _ _).alloc (Nat.le_refl _) _
        have h1 := HOLD.out
        have h2 := HO.out.2.2.size
        rw [hW4] at hbA ⊢
        exact ⟨HO.out.1.keep fun q hq _ => hbA.block q hq, HO.out.2.1.keep (hbA.block _ (by omega)) (hbA.block _ (by omega)), HO.out.2.2.alloc _, by rw [hhd]; exact heap_alloc_new _ _, by omega, h1⟩)
      have HL := Lib.hid fun (W : World) (hM : Moved (fun q => q = cg ∨ q = cn) w W) => line_any x.n x.p x.tx m x.tx W (HP.out W hM) hox.1 hox.2.1 hm (by have := hox.2.2; omega)
      unfold recV at HL
      have HW4 := Lib.hid (And.intro hW4 hhd)
      obtain ⟨S, st2⟩ := s
      dsimp only at HSN HR4
      clear hs hW4 hhd HO hc hc' hx hox hq hbw
      obtain ⟨vn, hvn, hvu⟩ := HR4.out.sh.nx
      have c0 : (wr.alloc (.cells #[.int .i64 x.n, .int .i64 x.p, .string x.tx] 31)).cell? ⟨cg, 0, none⟩ = some (.bool st2.isSome) := by rw [← HW4.out.1]; exact cell_of_row W4 cg 0 _ _ (0, 0) HR4.out.sh.bg
      have c1 : (wr.alloc (.cells #[.int .i64 x.n, .int .i64 x.p, .string x.tx] 31)).cell? ⟨cn, 0, none⟩ = some (.int .i64 vn) := by rw [← HW4.out.1]; exact cell_of_row W4 cn 0 _ _ (0, 0) hvn
      clear hvn
      rcases st2 with _ | u
      · have hq0 : sepS none x = false := rfl
        change _ = some (Value.bool false) at c0
        have e0 := cell_of_row W4 hd 0 _ _ (0, 0) HR4.out.bx
        have e1 := cell_of_row W4 hd 1 _ _ (0, 0) HR4.out.bx
        have e2 := cell_of_row W4 hd 2 _ _ (0, 0) HR4.out.bx
        go_wp2_with fail
        rw [← HW4.out.1, ← HW4.out.2]
        (with_reducible refine (HL.out W4 HR4.out.mv).mono ?_); rintro e w8 ⟨rfl, hb8⟩
        have h8 := HR4.out.below hb8
        obtain ⟨A9, c9, w9, ha9, h9⟩ := h8.app (itoaS x.n ++ m ++ x.tx) (by omega)
        have HR9 := Lib.hid h9
        have HAP9 := Lib.hid ha9
        clear e0 e1 e2 hb8 h8 ha9 h9
        go_wp2_with (at_builtin; refine wpList_append_run rfl (.tmp 26) (.tmp 32) 29 rfl rfl _ _ _ _ rfl rfl HAP9.out ?_)
        obtain ⟨v9, hv9, -⟩ := HR9.out.sh.nx
        have b0 : w9.drew.cell? ⟨cg, 0, none⟩ = some (.bool false) := cell_of_row w9 cg 0 _ _ (0, 0) HR9.out.sh.bg
        have b1 : w9.drew.cell? ⟨cn, 0, none⟩ = some (.int .i64 v9) := cell_of_row w9 cn 0 _ _ (0, 0) hv9
        have b2 : w9.drew.frozen? ⟨cg, 0, none⟩ = false := by show w9.frozen? _ = false; simp [World.frozen?, HR9.out.sh.bg]
        have b3 : w9.drew.frozen? ⟨cn, 0, none⟩ = false := by show w9.frozen? _ = false; simp [World.frozen?, hv9]
        have b4 : w9.drew.cell? ⟨hd, 0, none⟩ = some (.int .i64 x.n) := cell_of_row w9 hd 0 _ _ (0, 0) HR9.out.bx
        have b5 : ¬ cg = cn := HR9.out.sh.ne
        have b5' : ¬ cn = cg := fun e => b5 e.symm
        have b1' : w9.cell? ⟨cn, 0, none⟩ = some (.int .i64 v9) := b1
        have b4' : w9.cell? ⟨hd, 0, none⟩ = some (.int .i64 x.n) := b4
        have b6 : ¬ hd = cg := by have h1 := HR9.out.old; have h2 := HR9.out.new; omega
        have b7 : ¬ hd = cn := by have h1 := HR9.out.old; have h2 := HR9.out.new; omega
        have b3' : w9.frozen? ⟨cn, 0, none⟩ = false := b3
        clear hv9
        go_region
        obtain ⟨W10, hW10⟩ : ∃ W10, W10 = ((w9.setCell ⟨cg, 0, none⟩ (.bool true)).setCell ⟨cn, 0, none⟩ (.int .i64 (RowKit.wrap64 (x.n + 1)))).drew := ⟨_, rfl⟩
        have HE := Lib.hid ((HR9.out.mark (succI x.n)).drew)
        have HF : Hid (RecW W10 w.heap.size 9 1 (.slice A9 (k + 1) c9) (strs (shw m st (rows.take (i + 1))).1) ∧ ShM W10 cg cn (shw m st (rows.take (i + 1))).2 ∧ Moved (fun q => q = cg ∨ q = cn) w W10) := Lib.hid (by
          rw [HSN.out, hW10]
          unfold shw1
          dsimp only
          rw [hq0, if_neg (by decide), List.append_nil]
          exact ⟨HE.out.row, HE.out.sh, HE.out.mv⟩)
        rw [← hW10]
        clear hW10 b0 b1 b2 b3 b4 b1' b3' b4' b5 b5' b6 b7
        simp only [Exit.inBlock, Exit.then]
        go_wp2_with fail
        exact ⟨⟨i + 1, k + 1, c9, A9, (by first | rfl | exact ⟨rfl, rfl, rfl⟩), by go_num, by omega, by omega, HF⟩, by simp [intOf]; omega⟩
      · obtain rfl := hvu u rfl
        by_cases hne : x.n = vn
        · subst hne
          have hq0 : sepS (some x.n) x = false := by simp [sepS]
          change _ = some (Value.bool true) at c0
          have e0 := cell_of_row W4 hd 0 _ _ (0, 0) HR4.out.bx
          have e1 := cell_of_row W4 hd 1 _ _ (0, 0) HR4.out.bx
          have e2 := cell_of_row W4 hd 2 _ _ (0, 0) HR4.out.bx
          go_wp2_with fail
          rw [← HW4.out.1, ← HW4.out.2]
          (with_reducible refine (HL.out W4 HR4.out.mv).mono ?_); rintro e w8 ⟨rfl, hb8⟩
          have h8 := HR4.out.below hb8
          obtain ⟨A9, c9, w9, ha9, h9⟩ := h8.app (itoaS x.n ++ m ++ x.tx) (by omega)
          have HR9 := Lib.hid h9
          have HAP9 := Lib.hid ha9
          clear e0 e1 e2 hb8 h8 ha9 h9
          go_wp2_with (at_builtin; refine wpList_append_run rfl (.tmp 26) (.tmp 32) 29 rfl rfl _ _ _ _ rfl rfl HAP9.out ?_)
          obtain ⟨v9, hv9, -⟩ := HR9.out.sh.nx
          have b0 : w9.drew.cell? ⟨cg, 0, none⟩ = some (.bool true) := cell_of_row w9 cg 0 _ _ (0, 0) HR9.out.sh.bg
          have b1 : w9.drew.cell? ⟨cn, 0, none⟩ = some (.int .i64 v9) := cell_of_row w9 cn 0 _ _ (0, 0) hv9
          have b2 : w9.drew.frozen? ⟨cg, 0, none⟩ = false := by show w9.frozen? _ = false; simp [World.frozen?, HR9.out.sh.bg]
          have b3 : w9.drew.frozen? ⟨cn, 0, none⟩ = false := by show w9.frozen? _ = false; simp [World.frozen?, hv9]
          have b4 : w9.drew.cell? ⟨hd, 0, none⟩ = some (.int .i64 x.n) := cell_of_row w9 hd 0 _ _ (0, 0) HR9.out.bx
          have b5 : ¬ cg = cn := HR9.out.sh.ne
          have b5' : ¬ cn = cg := fun e => b5 e.symm
          have b1' : w9.cell? ⟨cn, 0, none⟩ = some (.int .i64 v9) := b1
          have b4' : w9.cell? ⟨hd, 0, none⟩ = some (.int .i64 x.n) := b4
          have b6 : ¬ hd = cg := by have h1 := HR9.out.old; have h2 := HR9.out.new; omega
          have b7 : ¬ hd = cn := by have h1 := HR9.out.old; have h2 := HR9.out.new; omega
          have b3' : w9.frozen? ⟨cn, 0, none⟩ = false := b3
          clear hv9
          go_region
          obtain ⟨W10, hW10⟩ : ∃ W10, W10 = ((w9.setCell ⟨cg, 0, none⟩ (.bool true)).setCell ⟨cn, 0, none⟩ (.int .i64 (RowKit.wrap64 (x.n + 1)))).drew := ⟨_, rfl⟩
          have HE := Lib.hid ((HR9.out.mark (succI x.n)).drew)
          have HF : Hid (RecW W10 w.heap.size 9 1 (.slice A9 (k + 1) c9) (strs (shw m st (rows.take (i + 1))).1) ∧ ShM W10 cg cn (shw m st (rows.take (i + 1))).2 ∧ Moved (fun q => q = cg ∨ q = cn) w W10) := Lib.hid (by
            rw [HSN.out, hW10]
            unfold shw1
            dsimp only
            rw [hq0, if_neg (by decide), List.append_nil]
            exact ⟨HE.out.row, HE.out.sh, HE.out.mv⟩)
          rw [← hW10]
          clear hW10 b0 b1 b2 b3 b4 b1' b3' b4' b5 b5' b6 b7
          simp only [Exit.inBlock, Exit.then]
          go_wp2_with fail
          exact ⟨⟨i + 1, k + 1, c9, A9, (by first | rfl | exact ⟨rfl, rfl, rfl⟩), by go_num, by omega, by omega, HF⟩, by simp [intOf]; omega⟩
        · have hq0 : sepS (some vn) x = true := by simp [sepS, hne]
          change _ = some (Value.bool true) at c0
          obtain ⟨A6, c6, w6, ha6, h6⟩ := HR4.out.app ⟨#[45, 45]⟩ (by omega)
          have HR6 := Lib.hid h6
          have hsz : W4.heap.size = wr.heap.size + 1 := by rw [HW4.out.1]; simp
          rw [hsz, HW4.out.1] at ha6
          have HAP6 := Lib.hid ha6
          clear ha6 h6 hsz
          have e0 : w6.cell? ⟨wr.heap.size, 0, none⟩ = some (.int .i64 x.n) := by rw [← HW4.out.2]; exact cell_of_row w6 hd 0 _ _ (0, 0) HR6.out.bx
          have e1 : w6.cell? ⟨wr.heap.size, 1, none⟩ = some (.int .i64 x.p) := by rw [← HW4.out.2]; exact cell_of_row w6 hd 1 _ _ (0, 0) HR6.out.bx
          have e2 : w6.cell? ⟨wr.heap.size, 2, none⟩ = some (.string x.tx) := by rw [← HW4.out.2]; exact cell_of_row w6 hd 2 _ _ (0, 0) HR6.out.bx
          go_wp2_with (at_builtin; refine wpList_append_run rfl (.tmp 23) (.tmp 24) 29 rfl rfl _ _ _ _ rfl rfl HAP6.out ?_)
          clear c0 c1 e0 e1 e2
          have e0 := cell_of_row w6 hd 0 _ _ (0, 0) HR6.out.bx
          have e1 := cell_of_row w6 hd 1 _ _ (0, 0) HR6.out.bx
          have e2 := cell_of_row w6 hd 2 _ _ (0, 0) HR6.out.bx
          skip
          (with_reducible refine (HL.out w6 HR6.out.mv).mono ?_); rintro e w8 ⟨rfl, hb8⟩
          have h8 := HR6.out.below hb8
          obtain ⟨A9, c9, w9, ha9, h9⟩ := h8.app (itoaS x.n ++ m ++ x.tx) (by omega)
          have HR9 := Lib.hid h9
          have HAP9 := Lib.hid ha9
          rw [← HW4.out.2]
          clear e0 e1 e2 hb8 h8 ha9 h9
          go_wp2_with (at_builtin; refine wpList_append_run rfl (.tmp 26) (.tmp 32) 29 rfl rfl _ _ _ _ rfl rfl HAP9.out ?_)
          obtain ⟨v9, hv9, -⟩ := HR9.out.sh.nx
          have b0 : w9.drew.cell? ⟨cg, 0, none⟩ = some (.bool true) := cell_of_row w9 cg 0 _ _ (0, 0) HR9.out.sh.bg
          have b1 : w9.drew.cell? ⟨cn, 0, none⟩ = some (.int .i64 v9) := cell_of_row w9 cn 0 _ _ (0, 0) hv9
          have b2 : w9.drew.frozen? ⟨cg, 0, none⟩ = false := by show w9.frozen? _ = false; simp [World.frozen?, HR9.out.sh.bg]
          have b3 : w9.drew.frozen? ⟨cn, 0, none⟩ = false := by show w9.frozen? _ = false; simp [World.frozen?, hv9]
          have b4 : w9.drew.cell? ⟨hd, 0, none⟩ = some (.int .i64 x.n) := cell_of_row w9 hd 0 _ _ (0, 0) HR9.out.bx
          have b5 : ¬ cg = cn := HR9.out.sh.ne
          have b5' : ¬ cn = cg := fun e => b5 e.symm
          have b1' : w9.cell? ⟨cn, 0, none⟩ = some (.int .i64 v9) := b1
          have b4' : w9.cell? ⟨hd, 0, none⟩ = some (.int .i64 x.n) := b4
          have b6 : ¬ hd = cg := by have h1 := HR9.out.old; have h2 := HR9.out.new; omega
          have b7 : ¬ hd = cn := by have h1 := HR9.out.old; have h2 := HR9.out.new; omega
          have b3' : w9.frozen? ⟨cn, 0, none⟩ = false := b3
          clear hv9
          go_region
          obtain ⟨W10, hW10⟩ : ∃ W10, W10 = ((w9.setCell ⟨cg, 0, none⟩ (.bool true)).setCell ⟨cn, 0, none⟩ (.int .i64 (RowKit.wrap64 (x.n + 1)))).drew := ⟨_, rfl⟩
          have HE := Lib.hid ((HR9.out.mark (succI x.n)).drew)
          have HF : Hid (RecW W10 w.heap.size 9 1 (.slice A9 ((k + 1) + 1) c9) (strs (shw m st (rows.take (i + 1))).1) ∧ ShM W10 cg cn (shw m st (rows.take (i + 1))).2 ∧ Moved (fun q => q = cg ∨ q = cn) w W10) := Lib.hid (by
            rw [HSN.out, hW10]
            unfold shw1
            dsimp only
            rw [hq0, if_pos rfl]
            exact ⟨HE.out.row, HE.out.sh, HE.out.mv⟩)
          rw [← hW10]
          clear hW10 b0 b1 b2 b3 b4 b1' b3' b4' b5 b5' b6 b7
          simp only [Exit.inBlock, Exit.then]
          go_wp2_with fail
          exact ⟨⟨i + 1, (k + 1) + 1, c9, A9, (by first | rfl | exact ⟨rfl, rfl, rfl⟩), by go_num, by omega, by omega, HF⟩, by simp [intOf]; omega⟩
    · have hin : i = n := by omega
      subst hin
      have hfull : rows.take i = rows := List.take_of_length_le (by rw [HRL.out]; exact Nat.le_refl _)
      rw [hfull] at HO
      have hl := rec_len HO.out.1
      rw [strs_length] at hl
      have HLN := Lib.hid hl
      clear hfull hl
      go_wp2_with fail
      go_ret
      rw [HLN.out]
      exact ⟨A2, c2, rfl, HO.out.1, HO.out.2⟩
end Go.Proofs.YtebmafghekfllaaDoor
