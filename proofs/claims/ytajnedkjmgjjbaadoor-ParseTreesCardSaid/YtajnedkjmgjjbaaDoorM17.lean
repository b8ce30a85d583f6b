/- The program's show of a count's node. -/
import Derived.Test.YtajnedkjmgjjbaaDoorM06
import Derived.Test.YtajnedkjmgjjbaaDoorM07
import Derived.Test.YtajnedkjmgjjbaaDoorM16
import Derived.Lib.MinMax
import Derived.Shelf.SlSortCmp.WholeK
import Derived.Shelf.SlSortCmp.NoneTotal
namespace Go.Proofs.YtajnedkjmgjjbaaDoor
open Go Go.RowKit
set_option linter.unusedVariables false
set_option maxRecDepth 20000
section
variable {w0 w : World} {V : Value} {S : ByteArray} {A D : Option Addr} {ns cs nk ck : Nat} {mn mx op : Int} {s : List (Int × Int)} {K : ByteArray}
set_option maxHeartbeats 8000000 in
theorem show_rep (h : Buf w0.heap.size w V S) (hb : Below w0.heap.size w0 w) (ht : Tab w0.heap.size w) (hs : S.size ≤ 100000000) (h64 : In64 mn) (h65 : In64 mx)
    (HC : ∀ w2 V2 S2, Buf w0.heap.size w2 V2 S2 → FrO w0.heap.size w w2 → S2.size ≤ S.size + 50 → Calls Tryd.prog 43 #[V2, .slice D nk ck] w2 (ShowV w0.heap.size w2 S2 (strB [40] ++ K ++ strB [41]))) : Calls Tryd.prog 26 #[V, .agg #[.int .i64 6, .slice A ns cs, .int .i64 mn, .int .i64 mx, .slice D nk ck]] w (ShowV w0.heap.size w S (nodeB 6 s mn mx K)) := by
  have d1 := digB_size h64
  have d2 := digB_size h65
  obtain ⟨W1, g, hW1, hg, hbel, hsz, hbox⟩ := box_world w #[.int .i64 6, .slice A ns cs, .int .i64 mn, .int .i64 mx, .slice D nk ck] 26
  have h1 : Buf w0.heap.size W1 V S := by rw [hW1]; exact h.alloc _
  have f1 : FrO w0.heap.size w W1 := by rw [hW1]; exact (FrO.refl _ _).alloc hb.size _
  have hbx1 : W1.heap[g]? = some (.cells #[.int .i64 6, .slice A ns cs, .int .i64 mn, .int .i64 mx, .slice D nk ck] 26 (0, 0)) := by rw [hW1, hg]; exact heap_alloc_new w _
  have hB1 : w0.heap.size ≤ W1.heap.size := Nat.le_trans hb.size f1.1.size
  obtain ⟨n0, n1, n2, n3, n4, _⟩ := box_facts' hbx1
  have hbB := Lib.hid (And.intro hb ht)
  obtain ⟨V2, w2, ha, hb2, hf2⟩ := buf_str (w := W1.drew) h1 ⟨#[114, 101, 112, 123]⟩ hB1 (by show _ + 4 ≤ _; omega)
  have hbx2 := hf2.keep (k := g) (show W1.drew.heap[g]? = _ from hbx1) (by decide)
  have m2 := cell_of_row w2 g 2 _ _ (0, 0) hbx2
  obtain ⟨S2, hS2⟩ : ∃ T, T = S ++ strB [114, 101, 112, 123] := ⟨_, rfl⟩
  have hS2s : S2.size ≤ S.size + 4 := by rw [hS2, ba_size, strB_size]; exact Nat.le_refl _
  have hb2 : Buf w0.heap.size w2 V2 S2 := by rw [hS2]; exact hb2
  have f2 : FrO w0.heap.size w w2 := f1.trans ((FrO.refl w0.heap.size W1).drew.trans hf2)
  have HN1 := Lib.hid (number_buf hb2 mn h64 (Nat.le_trans hb.size f2.1.size) (by omega) (ht.on f2.1))
  obtain ⟨A2, c2, rfl, _⟩ := hb2.slice
  obtain ⟨Av, cv, rfl, _⟩ := h.slice
  have H2 := Lib.hid (And.intro f2 (And.intro hS2 hbx2))
  have HCH := Lib.hid HC
  clear h hb hb2 hf2 f1 f2 h1 hbx1 hbx2 HC hS2 ht
  go_enter Tryd.func26, Tryd.ntmps26
  go_wp2_with fail
  rw [← hW1, ← hg]
  clear hW1 hg hbox hbel hsz
  go_wp2_with fail
  go_region_law (first
    | (refine step_append2 rfl _ _ 39 9 rfl rfl _ _ _ _ rfl rfl ha ?_)
    | (go_simp; go_at_call 44; (with_reducible refine HN1.out.mono ?_); rintro e w3 ⟨V3, rfl, hb3, hf3⟩; obtain ⟨U3, hU3, hb3⟩ := hb3.letter; obtain ⟨A3, c3, rfl, _⟩ := hb3.slice; have H3 := Lib.hid (And.intro hb3 (And.intro hf3 hU3)); have hU3s : U3.size ≤ S.size + 25 := (by rw [hU3, ba_size]; omega); clear hb3 hf3 hU3))
  all_goals
    have f3 := H2.out.1.trans H3.out.2.1
    have hbx3 := H3.out.2.1.keep H2.out.2.2 (by decide)
    have hB3 : w0.heap.size ≤ w3.heap.size := Nat.le_trans hbB.out.1.size f3.1.size
    obtain ⟨k0, k1, k2, k3, k4, _⟩ := box_facts' hbx3
    have k3a := fun o => cell_of_row (w3.alloc o) g 3 _ _ (0, 0) (((FrO.refl w0.heap.size w3).alloc hB3 o).keep hbx3 (by decide))
    obtain ⟨V4, w4, ha4, hb4, hf4⟩ := buf_byte (w := w3.drew) H3.out.1 32 32 rfl (by exact hB3) (by omega)
    obtain ⟨U4, hU4, hb4⟩ := hb4.letter
    have hU4s : U4.size ≤ S.size + 26 := by rw [hU4, ba_size, strB_size]; show _ + 1 ≤ _; omega
    obtain ⟨A4, c4, rfl, _⟩ := hb4.slice
    have ha4d : (Builtin.append_ #[39, 39] 39 #[.slice A3 U3.size c3, .slice (some ⟨w3.heap.size, 0, none⟩) 1 1]).run Tryd.prog (w3.alloc (.cells #[.int .u8 32] 5)).drew = .ok (.slice A4 U4.size c4) w4 := ha4
    have hbx4 := hf4.keep (k := g) (show w3.drew.heap[g]? = _ from hbx3) (by decide)
    have f4 : FrO w0.heap.size w w4 := f3.trans ((FrO.refl w0.heap.size w3).drew.trans hf4)
    have m4 := cell_of_row w4 g 3 _ _ (0, 0) hbx4
    have HN2 := Lib.hid (number_buf hb4 mx h65 (Nat.le_trans hbB.out.1.size f4.1.size) (by omega) (hbB.out.2.on f4.1))
    have H4 := Lib.hid (And.intro f4 (And.intro hU4 hbx4))
    clear f3 f4 hbx3 hbx4 hb4 hf4 hU4 ha4 m2
    go_wp2_with fail
    go_region_law (first
      | (refine step_append_run rfl _ _ 39 rfl rfl _ _ _ _ rfl rfl ha4d ?_)
      | (go_simp; go_at_call 44; (with_reducible refine HN2.out.mono ?_); rintro e w5 ⟨V5, rfl, hb5, hf5⟩; obtain ⟨U5, hU5, hb5⟩ := hb5.letter; obtain ⟨A5, c5, rfl, _⟩ := hb5.slice; have H5 := Lib.hid (And.intro hb5 (And.intro hf5 hU5)); have hU5s : U5.size ≤ S.size + 47 := (by rw [hU5, ba_size]; omega); clear hb5 hf5 hU5))
    all_goals
      have f5 := H4.out.1.trans H5.out.2.1
      have hbx5 := H5.out.2.1.keep H4.out.2.2 (by decide)
      have hB5 : w0.heap.size ≤ w5.heap.size := Nat.le_trans hbB.out.1.size f5.1.size
      clear k0 k1 k2 k3 k4 k3a m4
      obtain ⟨k0, k1, k2, k3, k4, _⟩ := box_facts' hbx5
      have k4a := fun o => cell_of_row (w5.alloc o) g 4 _ _ (0, 0) (((FrO.refl w0.heap.size w5).alloc hB5 o).keep hbx5 (by decide))
      obtain ⟨V6, w6, ha6, hb6, hf6⟩ := buf_byte (w := w5.drew) H5.out.1 125 125 rfl (by exact hB5) (by omega)
      obtain ⟨U6, hU6, hb6⟩ := hb6.letter
      have hU6s : U6.size ≤ S.size + 50 := by rw [hU6, ba_size, strB_size]; show _ + 1 ≤ _; omega
      obtain ⟨A6, c6, rfl, _⟩ := hb6.slice
      have ha6d : (Builtin.append_ #[39, 39] 39 #[.slice A5 U5.size c5, .slice (some ⟨w5.heap.size, 0, none⟩) 1 1]).run Tryd.prog (w5.alloc (.cells #[.int .u8 125] 5)).drew = .ok (.slice A6 U6.size c6) w6 := ha6
      have hbx6 := hf6.keep (k := g) (show w5.drew.heap[g]? = _ from hbx5) (by decide)
      have f6 : FrO w0.heap.size w w6 := f5.trans ((FrO.refl w0.heap.size w5).drew.trans hf6)
      have m6 := cell_of_row w6 g 4 _ _ (0, 0) hbx6
      have HK := Lib.hid (HCH.out w6 _ U6 hb6 f6 hU6s)
      have H6 := Lib.hid (And.intro f6 hU6)
      clear f5 f6 hbx5 hbx6 hb6 hf6 hU6 ha6
      go_wp2_with fail
      go_region_law (first
        | (refine step_append_run rfl _ _ 39 rfl rfl _ _ _ _ rfl rfl ha6d ?_)
        | (go_simp; go_at_call 43; (with_reducible refine HK.out.mono ?_); rintro e w7 ⟨V7, rfl, hb7, hf7⟩; have H7 := Lib.hid (And.intro hb7 hf7); clear hb7 hf7))
      all_goals
        go_wp2
        go_ret
        refine ⟨V7, rfl, ?_, H6.out.1.trans H7.out.2⟩
        have := H7.out.1
        rw [H6.out.2, H5.out.2.2, H4.out.2.1, H3.out.2.2, H2.out.2.1] at this
        rw [show nodeB 6 s mn mx K = strB [114, 101, 112, 123] ++ digB mn ++ strB [32] ++ digB mx ++ strB [125, 40] ++ K ++ strB [41] from rfl, show strB [125, 40] = strB [125] ++ strB [40] from by rw [strB_append]; rfl]
        simp only [ba_assoc] at this ⊢
        exact this
end
end Go.Proofs.YtajnedkjmgjjbaaDoor
/- The program's showKids, show and Show. -/
namespace Go.Proofs.YtajnedkjmgjjbaaDoor
open Go Go.RowKit
set_option linter.unusedVariables false
set_option maxRecDepth 20000

theorem heavy_app : ∀ a b : Wood, heavy (a.app b) = heavy a + heavy b
  | .nil, b => by simp [Wood.app, heavy]
  | .cons _ s _ _ k x, b => by simp only [Wood.app, heavy]; rw [heavy_app x b]; omega
theorem heavy_take_succ (a : Wood) (j : Nat) (h : j < a.len) : heavy (a.take (j + 1)) = heavy (a.take j) + heavy (a.nth j) := by rw [Wood.take_succ a j h, heavy_app]
theorem wfW_take9 (a : Wood) (j : Nat) (h : WfW a) : WfW (a.take j) := wfW_take a j h
/-- What show answers of trees so great. -/
def ShowH (N : Nat) : Prop := ∀ (T : Wood), heavy T ≤ N → ∀ (w0 w : World) (F : Nat → Prop) (v V : Value) (S : ByteArray), NodeIn F w0 v T → Below w0.heap.size w0 w → Buf w0.heap.size w V S → Tab w0.heap.size w → WfW T → S.size + 64 * heavy T ≤ 100000000 →
    Calls Tryd.prog 26 #[V, v] w (ShowV w0.heap.size w S (oneB T))
theorem kidsB_nil : kidsB .nil = ByteArray.empty := rfl
set_option maxHeartbeats 4000000 in
theorem showKids_buf {N : Nat} (IH : ShowH N) {w0 w : World} {F : Nat → Prop} {V : Value} {S : ByteArray} {D : Option Addr} {nk ck : Nat} {k : Wood} (hk : KidsAt F w0 D nk k) (hN : heavy k ≤ N) (hb : Below w0.heap.size w0 w) (h : Buf w0.heap.size w V S) (ht : Tab w0.heap.size w) (hw : WfW k) (hs : S.size + 10 + 64 * heavy k ≤ 100000000) :
    Calls Tryd.prog 43 #[V, .slice D nk ck] w (ShowV w0.heap.size w S (strB [40] ++ kidsB k ++ strB [41])) := by
  obtain ⟨V1, w1, ha1, hb1, hf1⟩ := buf_byte h 40 40 rfl hb.size (by omega)
  obtain ⟨S1, hS1, hb1⟩ := hb1.letter
  have hS1s : S1.size ≤ S.size + 1 := by rw [hS1, ba_size, strB_size]; exact Nat.le_refl _
  obtain ⟨A1, c1, rfl, _⟩ := hb1.slice
  obtain ⟨A0, c0, rfl, _⟩ := h.slice
  obtain ⟨H, hH⟩ : ∃ H, H = heavy k := ⟨_, rfl⟩
  have hkl := hk.1
  have hnk : nk ≤ H := by rw [hH, ← hkl]; exact len_heavy k
  have HHK := Lib.hid (And.intro hH (And.intro hN (And.intro hw hS1)))
  rw [← hH] at hs
  have HK := Lib.hid hk
  have HB := Lib.hid (And.intro hb ht)
  have H1 := Lib.hid (And.intro hb1 hf1)
  have HIH := Lib.hid IH
  clear h hb ht hk hw hb1 hf1 hH hN hS1 IH
  go_enter Tryd.func43, Tryd.ntmps43
  go_wp2_with (at_builtin; refine wpList_append_run rfl _ _ 39 rfl rfl _ _ _ _ rfl rfl ha1 ?_)
  go_loopw [0, 12] (fun vb vi wr => ∃ (j : Nat) (U : ByteArray), vi = .int .i64 (j : Int) ∧ j ≤ nk ∧
    ∃ (A : Option Addr) (c : Nat), vb = .slice A U.size c ∧ Hid (Buf w0.heap.size wr (.slice A U.size c) U ∧ FrO w0.heap.size w wr ∧ U = S1 ++ kidsB (k.take j))) (fun _ vi _ => nk - (intOf vi).toNat)
  case atStart => exact ⟨0, S1, rfl, Nat.zero_le _, A1, c1, rfl, Lib.hid ⟨H1.out.1, H1.out.2, by rw [Wood.take_zero, kidsB_nil, ba_nil]⟩⟩
  case round =>
    obtain ⟨j, U, rfl, hj, Ab, cb, rfl, HU⟩ := hrel
    have hbw : Below w0.heap.size w0 wr := HB.out.1.trans HU.out.2.1.1
    have hUs : U.size ≤ S1.size + 64 * heavy (k.take j) := by
      have := kidsB_size (wfW_take k j HHK.out.2.2.1)
      rw [HU.out.2.2, ba_size]; omega
    by_cases hlt : j < nk
    · have hts := heavy_take_succ k j (by rw [hkl]; exact hlt)
      have htl := heavy_take k (j + 1)
      rw [← HHK.out.1] at htl
      obtain ⟨b, o, op, s, mn, mx, k', A', D', ns, cs, nk', ck', rfl, hblt, e1, c0, c1, c2, c3, c4, hin⟩ := HK.out.kid hlt
      have g0 := (hbw.cell (p := ⟨b, o + j * 5, none⟩) hblt).trans c0
      have g1 := (hbw.cell (p := ⟨b, o + j * 5 + 1, none⟩) hblt).trans c1
      have g2 := (hbw.cell (p := ⟨b, o + j * 5 + 2, none⟩) hblt).trans c2
      have g3 := (hbw.cell (p := ⟨b, o + j * 5 + 3, none⟩) hblt).trans c3
      have g4 := (hbw.cell (p := ⟨b, o + j * 5 + 4, none⟩) hblt).trans c4
      have hwn := wfW_nth k j (by rw [hkl]; exact hlt) HHK.out.2.2.1
      have hhn := heavy_nth k j (by rw [hkl]; exact hlt)
      have hkt := kidsB_take k j (by rw [hkl]; exact hlt)
      have HIN := Lib.hid (And.intro hin (And.intro hwn hkt))
      have hBw : w0.heap.size ≤ w.heap.size := HB.out.1.size
      have hhN : heavy (k.nth j) ≤ N := Nat.le_trans hhn HHK.out.2.1
      clear c0 c1 c2 c3 c4 hin hwn hkt e1
      obtain ⟨Z, hZ⟩ : ∃ Z, Z = heavy (k.nth j) := ⟨_, rfl⟩
      obtain ⟨Y, hY⟩ : ∃ Y, Y = heavy (k.take j) := ⟨_, rfl⟩
      rw [← hY] at hUs hts
      rw [← hZ] at hts
      have hroom : U.size + 64 * Z + 2 ≤ 100000000 := by omega
      have HZ := Lib.hid (And.intro hZ hhN)
      clear hUs hts htl hhn hZ hY hhN
      rcases Nat.eq_zero_or_pos j with h0 | h0
      · have hj0 : ¬ 0 < j := by omega
        have H0 := Lib.hid h0
        clear h0
        have HC := Lib.hid (HIH.out (k.nth j) HZ.out.2 w0 _ F _ _ U HIN.out.1 (HB.out.1.trans (HU.out.2.1.alloc hBw (.cells #[.int .i64 op, .slice A' ns cs, .int .i64 mn, .int .i64 mx, .slice D' nk' ck'] 26)).1) (HU.out.1.alloc (.cells #[.int .i64 op, .slice A' ns cs, .int .i64 mn, .int .i64 mx, .slice D' nk' ck'] 26)) (HB.out.2.on (HU.out.2.1.alloc hBw (.cells #[.int .i64 op, .slice A' ns cs, .int .i64 mn, .int .i64 mx, .slice D' nk' ck'] 26)).1) HIN.out.2.1 (by rw [← HZ.out.1]; omega))
        go_wp2_with (go_at_call 26; (with_reducible refine HC.out.mono ?_); rintro e w2 ⟨V2, rfl, hb2, hf2⟩; obtain ⟨U2, hU2, hb2⟩ := hb2.letter; obtain ⟨A2, c2, rfl, _⟩ := hb2.slice; have H2 := Lib.hid (And.intro hb2 (And.intro hf2 hU2)); clear hb2 hf2 hU2)
        refine ⟨⟨j + 1, U2, by go_num, by omega, _, _, rfl, Lib.hid ⟨H2.out.1, (HU.out.2.1.alloc hBw (.cells #[.int .i64 op, .slice A' ns cs, .int .i64 mn, .int .i64 mx, .slice D' nk' ck'] 26)).trans H2.out.2.1, ?_⟩⟩, by simp [intOf]; omega⟩
        have hkt := HIN.out.2.2
        rw [if_pos H0.out] at hkt
        rw [H2.out.2.2, hkt, HU.out.2.2, H0.out, Wood.take_zero, kidsB_nil, ba_nil]
      · obtain ⟨V8, w8, ha8, hb8, hf8⟩ := buf_byte (HU.out.1.alloc (.cells #[.int .i64 op, .slice A' ns cs, .int .i64 mn, .int .i64 mx, .slice D' nk' ck'] 26)) 44 44 rfl (Nat.le_trans (Nat.le_trans hBw HU.out.2.1.1.size) (by simp)) (by omega)
        rw [show (wr.alloc (.cells #[.int .i64 op, .slice A' ns cs, .int .i64 mn, .int .i64 mx, .slice D' nk' ck'] 26)).heap.size = wr.heap.size + 1 by simp] at ha8
        obtain ⟨U8, hU8, hb8⟩ := hb8.letter
        have hU8s : U8.size ≤ U.size + 1 := by rw [hU8, ba_size, strB_size]; exact Nat.le_refl _
        obtain ⟨A8, c8, rfl, _⟩ := hb8.slice
        have hbx8 := hf8.keep (k := wr.heap.size) (heap_alloc_new wr (.cells #[.int .i64 op, .slice A' ns cs, .int .i64 mn, .int .i64 mx, .slice D' nk' ck'] 26)) (by decide)
        obtain ⟨r0, r1, r2, r3, r4, _⟩ := box_facts' hbx8
        have hfw8 := (HU.out.2.1.alloc hBw (.cells #[.int .i64 op, .slice A' ns cs, .int .i64 mn, .int .i64 mx, .slice D' nk' ck'] 26)).trans hf8
        have HC := Lib.hid (HIH.out (k.nth j) HZ.out.2 w0 w8 F _ _ U8 HIN.out.1 (HB.out.1.trans hfw8.1) hb8 (HB.out.2.on hfw8.1) HIN.out.2.1 (by rw [← HZ.out.1]; omega))
        have H8 := Lib.hid (And.intro hfw8 (And.intro hU8 h0))
        clear hb8 hf8 hU8 hbx8 hfw8
        go_wp2_with (first
          | (at_builtin; refine wpList_append_run rfl _ _ 39 rfl rfl _ _ _ _ rfl rfl ha8 ?_)
          | (go_at_call 26; (with_reducible refine HC.out.mono ?_); rintro e w2 ⟨V2, rfl, hb2, hf2⟩; obtain ⟨U2, hU2, hb2⟩ := hb2.letter; obtain ⟨A2, c2, rfl, _⟩ := hb2.slice; have H2 := Lib.hid (And.intro hb2 (And.intro hf2 hU2)); clear hb2 hf2 hU2))
        refine ⟨⟨j + 1, U2, by go_num, by omega, _, _, rfl, Lib.hid ⟨H2.out.1, H8.out.1.trans H2.out.2.1, ?_⟩⟩, by simp [intOf]; omega⟩
        have hkt := HIN.out.2.2
        rw [if_neg (by have := H8.out.2.2; omega)] at hkt
        rw [H2.out.2.2, hkt, H8.out.2.1, HU.out.2.2]
        simp only [ba_assoc]
    · have hjn : j = nk := by omega
      subst hjn
      have htk : k.take j = k := by rw [← hkl]; exact Wood.take_all k
      rw [htk, ← HHK.out.1] at hUs
      obtain ⟨V9, w9, ha9, hb9, hf9⟩ := buf_byte HU.out.1 41 41 rfl (Nat.le_trans HB.out.1.size HU.out.2.1.1.size) (by omega)
      have H9 := Lib.hid (And.intro hb9 (And.intro hf9 htk))
      clear hb9 hf9 htk hUs
      go_wp2_with (at_builtin; refine wpList_append_run rfl _ _ 39 rfl rfl _ _ _ _ rfl rfl ha9 ?_)
      go_ret
      refine ⟨V9, rfl, ?_, HU.out.2.1.trans H9.out.2.1⟩
      have := H9.out.1
      rw [HU.out.2.2, H9.out.2.2, HHK.out.2.2.2] at this
      simp only [ba_assoc] at this ⊢
      exact this

theorem rowG_wf {F : Nat → Prop} {w : World} {A : Option Addr} {n : Nat} {s : List (Int × Int)} (h : RowF F w A n s) : RowG w A n s := h.1
/-- The program's show. -/
theorem show_any (N : Nat) : ShowH N := by
  induction N with
  | zero =>
    intro T hN w0 w F v V S hv
    obtain ⟨op, s, mn, mx, k, A, D, ns, cs, nk, ck, rfl, _⟩ := hv
    simp [heavy] at hN
  | succ N ih =>
    intro T hN w0 w F v V S hv hb h ht hw hs
    obtain ⟨op, s, mn, mx, k, A, D, ns, cs, nk, ck, rfl, rfl, hr, hk⟩ := hv
    obtain ⟨⟨hop, h1, h2, h3⟩, h4, _⟩ := hw
    simp only [heavy] at hN hs
    have hsl := hr.1.1
    rw [oneB_cons]
    have hK : ∀ w2 V2 S2, Buf w0.heap.size w2 V2 S2 → FrO w0.heap.size w w2 → S2.size ≤ S.size + 50 → Calls Tryd.prog 43 #[V2, .slice D nk ck] w2 (ShowV w0.heap.size w2 S2 (strB [40] ++ kidsB k ++ strB [41])) := fun w2 V2 S2 hb2 hf2 hs2 =>
      showKids_buf ih hk (by omega) (hb.trans hf2.1) hb2 (ht.on hf2.1) h4 (by omega)
    by_cases e0 : op = 0
    · subst e0; exact show_empty h hb (by omega)
    by_cases e1 : op = 1
    · subst e1
      refine show_char h hb (by omega) fun w2 V2 hb2 hf2 => ?_
      refine (showSet_buf hb2 (hb.trans hf2.1) (ht.on hf2.1) hr.1 h3 (by rw [ba_size, strB_size]; simp only [List.length_cons, List.length_nil]; omega)).mono fun e w3 ⟨V3, he, hb3, hf3⟩ => ⟨V3, he, ?_, hf3⟩
      simp only [ba_assoc] at hb3 ⊢
      exact hb3
    by_cases e2 : op = 2
    · subst e2; exact show_begin h hb (by omega)
    by_cases e3 : op = 3
    · subst e3; exact show_end h hb (by omega)
    by_cases e4 : op = 4
    · subst e4
      exact show_cat h hb (by omega) fun w2 V2 hb2 hf2 => hK w2 V2 _ hb2 hf2 (by rw [ba_size, strB_size]; simp only [List.length_cons, List.length_nil]; omega)
    by_cases e5 : op = 5
    · subst e5
      exact show_alt h hb (by omega) fun w2 V2 hb2 hf2 => hK w2 V2 _ hb2 hf2 (by rw [ba_size, strB_size]; simp only [List.length_cons, List.length_nil]; omega)
    by_cases e6 : op = 6
    · subst e6
      exact show_rep h hb ht (by omega) h1 h2 hK
    · exact show_else h hb (by omega) (by omega)
set_option maxHeartbeats 1000000 in
/-- The program's Show. -/
theorem pshow_any (T : Wood) (F : Nat → Prop) (W : World) (v : Value) (hv : NodeIn F W v T) (hw : WfW T) (hs : heavy T ≤ 1000000) (ht : Tab W.heap.size W) :
    Calls Tryd.prog 13 #[v] W fun e w' => e = .returned (.string (oneB T)) ∧ Below W.heap.size W w' := by
  have hv0 := hv
  obtain ⟨op, s, mn, mx, k, A, D, ns, cs, nk, ck, hT, rfl, hr, hk⟩ := hv
  have hbelow : Below W.heap.size W (W.alloc (.cells #[.int .i64 op, .slice A ns cs, .int .i64 mn, .int .i64 mx, .slice D nk ck] 26)) := (Below.refl _ _).alloc (Nat.le_refl _) _
  have HS := Lib.hid (show_any (heavy T) T (Nat.le_refl _) W _ F _ _ _ hv0 hbelow (Buf.nil_ _ _) (ht.on hbelow) hw (by show 0 + _ ≤ _; omega))
  have HB := Lib.hid hbelow
  clear hv0 hr hk hT hbelow
  go_enter Tryd.func13, Tryd.ntmps13
  go_wp2_with (go_at_call 26; (with_reducible refine HS.out.mono ?_); rintro e w2 ⟨V2, rfl, hb2, hf2⟩; obtain ⟨U2, hU2, hb2⟩ := hb2.letter; obtain ⟨A2, c2, rfl, hrow, _⟩ := hb2.slice; have hcv := strRow w2 A2 U2.size c2 (nums U2) hrow; have H2 := Lib.hid (And.intro hf2 hU2); clear hb2 hf2 hU2 hrow)
  go_ret
  refine ⟨?_, HB.out.trans H2.out.1.1⟩
  rw [strOfNums_nums, H2.out.2, nil_ba]
  rfl
end Go.Proofs.YtajnedkjmgjjbaaDoor
/- The program's clip. -/
namespace Go.Proofs.YtajnedkjmgjjbaaDoor
open Go Go.RowKit
set_option linter.unusedVariables false

set_option maxHeartbeats 1000000 in
theorem clip_any (s : List (Int × Int)) (A : Option Addr) (n c : Nat) (W : World) (hin : RowG W A n s) (hn : n ≤ 2000000) :
    Calls Tryd.prog 81 #[.slice A n c] W fun e w' => ∃ P q pc, e = .returned (.slice P q pc) ∧ w'.ownsRow W.heap.size 42 2 (.slice P q pc) q (cellsG (clipL s)) ∧ Below W.heap.size W w' := by
  have HR := Lib.hid hin; clear hin
  go_enter Tryd.func81, Tryd.ntmps81
  go_wp2
  go_loopw [3, 9] (fun vo vi wr => ∃ (k q pc : Nat) (P : Option Addr), vo = .slice P q pc ∧ vi = .int .i64 (k : Int) ∧ k ≤ n ∧ q ≤ k ∧ Hid (wr.ownsRow W.heap.size 42 2 (.slice P q pc) q (cellsG (clipL (s.take k))) ∧ Below W.heap.size W wr)) (fun _ vi _ => n - (intOf vi).toNat)
  case atStart =>
    exact ⟨0, 0, 0, none, rfl, rfl, Nat.zero_le _, Nat.le_refl _, Lib.hid ⟨nilG W _, Below.refl _ _⟩⟩
  case round =>
    obtain ⟨k, q, pc, P, rfl, rfl, hk, hq, HO⟩ := hrel
    by_cases hlt : k < n
    · obtain ⟨b, o, rfl, hbw, hc⟩ := HR.out.2 (by omega)
      obtain ⟨c0, c1⟩ := hc k hlt
      have d0 := (HO.out.2.cell (p := ⟨b, o + k * 2, none⟩) hbw).trans c0
      have d1 := (HO.out.2.cell (p := ⟨b, o + k * 2 + 1, none⟩) hbw).trans c1
      have hts := take_snoc (t := s) (k := k) (by have := HR.out.1; omega)
      obtain ⟨p, hp⟩ : ∃ p, p = s.getD k (0, 0) := ⟨_, rfl⟩
      rw [← hp] at d0 d1 hts
      obtain ⟨x, y⟩ := p
      have hcs := clipL_snoc (s.take k) (x, y)
      rw [← hts] at hcs
      clear hc c0 c1 hp hts
      dsimp only at d0 d1 hcs
      by_cases hxy : max x 0 ≤ min y 1114111
      · rw [if_pos hxy] at hcs
        have hb1 : Below wr.heap.size wr ((wr.alloc (.cells #[.int .i64 x, .int .i64 y] 42)).alloc (.cells #[.int .i64 (max x 0), .int .i64 (min y 1114111)] 42)) := ((Below.refl _ _).alloc (Nat.le_refl _) _).alloc (by simp) _
        obtain ⟨P', pc', w', happ, hown, hbel⟩ := push_rngs (ownG_kept HO.out.1 hb1) [(max x 0, min y 1114111)] (by omega) (by simp) (then_ HO.out.2 hb1)
        rw [show ((wr.alloc (.cells #[.int .i64 x, .int .i64 y] 42)).alloc (.cells #[.int .i64 (max x 0), .int .i64 (min y 1114111)] 42)).heap.size = wr.heap.size + 1 + 1 by simp] at happ
        rw [← hcs] at hown
        have HA := Lib.hid happ
        have H2 := Lib.hid (And.intro hown hbel)
        clear happ hown hbel hb1 hcs
        go_wp2_with (at_builtin; refine wpList_append_run rfl _ _ 23 rfl rfl _ _ _ _ rfl rfl HA.out ?_)
        exact ⟨⟨k + 1, q + 1, pc', P', rfl, by go_num, by omega, by omega, H2⟩, by simp [intOf]; omega⟩
      · rw [if_neg hxy, List.append_nil] at hcs
        have H2 := Lib.hid (And.intro (hcs ▸ ownG_kept HO.out.1 (((Below.refl _ wr).alloc (Nat.le_refl _) (.cells #[.int .i64 x, .int .i64 y] 42)).alloc (by simp) (.cells #[.int .i64 (max x 0), .int .i64 (min y 1114111)] 42))) (HO.out.2.trans (Below.mono (((Below.refl _ wr).alloc (Nat.le_refl _) (.cells #[.int .i64 x, .int .i64 y] 42)).alloc (by simp) (.cells #[.int .i64 (max x 0), .int .i64 (min y 1114111)] 42)) HO.out.2.size)))
        clear hcs
        go_wp2
        exact ⟨⟨k + 1, q, pc, P, rfl, by go_num, by omega, by omega, H2⟩, by simp [intOf]; omega⟩
    · have hkn : k = n := by omega
      subst hkn
      have hts : s.take k = s := List.take_of_length_le (by have := HR.out.1; omega)
      go_wp2
      go_ret
      rw [hts] at HO
      exact ⟨P, q, pc, rfl, HO.out.1, HO.out.2⟩
end Go.Proofs.YtajnedkjmgjjbaaDoor
/- slices.SortFunc over ranges, by where they begin: the library's own contract, laid at this program. -/
namespace Go.Proofs
open Go.Shelf
def Tryd.sortG_ren : Go.Shelf.Ren := ⟨fun | 6 => 82 | 15 => 91 | 14 => 90 | 28 => 106 | 29 => 94 | 20 => 98 | 21 => 99 | 22 => 100 | 23 => 101 | 24 => 102 | 25 => 103 | 26 => 104 | 27 => 105 | 46 => 109 | 47 => 110 | 48 => 111 | 49 => 112 | 50 => 113 | 57 => 114 | n => n, fun | 22 => 23 | 24 => 42 | 25 => 105 | 3 => 3 | 39 => 87 | 0 => 0 | 53 => 115 | 55 => 75 | 4 => 4 | 46 => 119 | 45 => 118 | 50 => 77 | 5 => 5 | 9 => 9 | 66 => 125 | 70 => 129 | 76 => 133 | 77 => 60 | n => n, fun | n => n⟩
theorem Tryd.sortG : Go.Proofs.SlLaysF0.n6 Tryd.prog Tryd.sortG_ren := {
  mixed := by kernel_rfl
  f6 := ⟨Tryd.f82.name, by kernel_rfl, Tryd.func82.trans (congrArg some (by kernel_rfl))⟩
  f14 := ⟨Tryd.f90.name, by kernel_rfl, Tryd.func90.trans (congrArg some (by kernel_rfl))⟩
  f15 := Tryd.func91.trans (congrArg some (by kernel_rfl))
  f20 := ⟨Tryd.f98.name, by kernel_rfl, Tryd.func98.trans (congrArg some (by kernel_rfl))⟩
  f21 := ⟨Tryd.f99.name, by kernel_rfl, Tryd.func99.trans (congrArg some (by kernel_rfl))⟩
  f22 := ⟨Tryd.f100.name, by kernel_rfl, Tryd.func100.trans (congrArg some (by kernel_rfl))⟩
  f23 := ⟨Tryd.f101.name, by kernel_rfl, Tryd.func101.trans (congrArg some (by kernel_rfl))⟩
  f24 := ⟨Tryd.f102.name, by kernel_rfl, Tryd.func102.trans (congrArg some (by kernel_rfl))⟩
  f25 := ⟨Tryd.f103.name, by kernel_rfl, Tryd.func103.trans (congrArg some (by kernel_rfl))⟩
  f26 := ⟨Tryd.f104.name, by kernel_rfl, Tryd.func104.trans (congrArg some (by kernel_rfl))⟩
  f27 := ⟨Tryd.f105.name, by kernel_rfl, Tryd.func105.trans (congrArg some (by kernel_rfl))⟩
  f28 := Tryd.func106.trans (congrArg some (by kernel_rfl))
  f29 := Tryd.func94.trans (congrArg some (by kernel_rfl))
  f46 := ⟨Tryd.f109.name, by kernel_rfl, Tryd.func109.trans (congrArg some (by kernel_rfl))⟩
  f47 := Tryd.func110.trans (congrArg some (by kernel_rfl))
  f48 := Tryd.func111.trans (congrArg some (by kernel_rfl))
  f49 := ⟨Tryd.f112.name, by kernel_rfl, Tryd.func112.trans (congrArg some (by kernel_rfl))⟩
  f50 := ⟨Tryd.f113.name, by kernel_rfl, Tryd.func113.trans (congrArg some (by kernel_rfl))⟩
  f57 := ⟨Tryd.f114.name, by kernel_rfl, Tryd.func114.trans (congrArg some (by kernel_rfl))⟩
  t0 := Tryd.underlying0
  a0 := Tryd.isAgg0
  z0 := Tryd.sizeOf0
  v0 := Tryd.zeroValue0
  t3 := Tryd.underlying3
  a3 := Tryd.isAgg3
  z3 := Tryd.sizeOf3
  v3 := Tryd.zeroValue3
  t4 := Tryd.underlying4
  a4 := Tryd.isAgg4
  z4 := Tryd.sizeOf4
  v4 := Tryd.zeroValue4
  t5 := Tryd.underlying5
  a5 := Tryd.isAgg5
  z5 := Tryd.sizeOf5
  v5 := Tryd.zeroValue5
  t9 := Tryd.underlying9
  a9 := Tryd.isAgg9
  z9 := Tryd.sizeOf9
  v9 := Tryd.zeroValue9
  t22 := Tryd.underlying23
  a22 := Tryd.isAgg23
  z22 := Tryd.sizeOf23
  v22 := Tryd.zeroValue23
  t25 := Tryd.underlying105
  a25 := Tryd.isAgg105
  z25 := Tryd.sizeOf105
  v25 := Tryd.zeroValue105
  t39 := Tryd.underlying87
  a39 := Tryd.isAgg87
  z39 := Tryd.sizeOf87
  v39 := Tryd.zeroValue87
  t45 := Tryd.underlying118
  a45 := Tryd.isAgg118
  z45 := Tryd.sizeOf118
  v45 := Tryd.zeroValue118
  t46 := Tryd.underlying119
  a46 := Tryd.isAgg119
  z46 := Tryd.sizeOf119
  v46 := Tryd.zeroValue119
  t50 := Tryd.underlying77
  a50 := Tryd.isAgg77
  z50 := Tryd.sizeOf77
  v50 := Tryd.zeroValue77
  t53 := Tryd.underlying115
  a53 := Tryd.isAgg115
  z53 := Tryd.sizeOf115
  v53 := Tryd.zeroValue115
  t55 := Tryd.underlying75
  a55 := Tryd.isAgg75
  z55 := Tryd.sizeOf75
  v55 := Tryd.zeroValue75
  t66 := Tryd.underlying125
  a66 := Tryd.isAgg125
  z66 := Tryd.sizeOf125
  v66 := Tryd.zeroValue125
  t70 := Tryd.underlying129
  a70 := Tryd.isAgg129
  z70 := Tryd.sizeOf129
  v70 := Tryd.zeroValue129
  t76 := Tryd.underlying133
  a76 := Tryd.isAgg133
  z76 := Tryd.sizeOf133
  v76 := Tryd.zeroValue133
  t77 := Tryd.underlying60
  a77 := Tryd.isAgg60
  z77 := Tryd.sizeOf60
  v77 := Tryd.zeroValue60 }
end Go.Proofs
namespace Go.Proofs.YtajnedkjmgjjbaaDoor
open Go Go.RowKit
set_option linter.unusedVariables false

def encG (p : Int × Int) : List Value := [.int .i64 p.1, .int .i64 p.2]
/-- cmp.Compare of where two ranges begin. -/
def cfG (x y : Int × Int) : Int := if x.1 < y.1 then -1 else if y.1 < x.1 then 1 else 0
theorem ltG (x y : Int × Int) : ltOf cfG x y = decide (x.1 < y.1) := by
  unfold ltOf cfG
  apply decide_eq_decide.2
  split
  · omega
  · split <;> omega
theorem swoG : Go.Sort.SWO (ltOf cfG) where
  irrefl x := by rw [ltG]; exact decide_eq_false (by omega)
  trans x y z h1 h2 := by
    rw [ltG, decide_eq_true_eq] at *
    omega
  ntrans x y z h1 h2 := by
    rw [ltG, decide_eq_false_iff_not] at *
    omega
theorem compare_any (x y : Int × Int) (W : World) :
    Calls Tryd.prog 84 #[.int .i64 x.1, .int .i64 y.1] W fun e w' => e = .returned (.int .i64 (cfG x y)) ∧ w' = W := by
  obtain ⟨a, a'⟩ := x
  obtain ⟨b, b'⟩ := y
  go_enter Tryd.func84, Tryd.ntmps84
  by_cases h1 : a < b
  · have HF : Hid (cfG (a, a') (b, b') = -1) := Lib.hid (if_pos h1)
    go_wp2
    go_ret
    rw [HF.out]
    exact ⟨rfl, rfl⟩
  · by_cases h2 : b < a
    · have HF : Hid (cfG (a, a') (b, b') = 1) := Lib.hid (by unfold cfG; rw [if_neg h1, if_pos h2])
      have h3 : a > b := h2
      go_wp2
      go_ret
      rw [HF.out]
      exact ⟨rfl, rfl⟩
    · have HF : Hid (cfG (a, a') (b, b') = 0) := Lib.hid (by unfold cfG; rw [if_neg h1, if_neg h2])
      have h3 : ¬ a > b := h2
      go_wp2
      go_ret
      rw [HF.out]
      exact ⟨rfl, rfl⟩
theorem closure_any (x y : Int × Int) (W : World) :
    Calls Tryd.prog 83 #[.agg #[.int .i64 x.1, .int .i64 x.2], .agg #[.int .i64 y.1, .int .i64 y.2]] W fun e w' => e = .returned (.int .i64 (cfG x y)) ∧ ∃ q os', w' = Go.Sort.grow (W.drewN q) os' := by
  have HC := Lib.hid fun W' => compare_any x y W'
  go_enter Tryd.func83, Tryd.ntmps83
  go_wp2_with (go_at_call 84; refine (HC.out _).mono ?_; rintro e w' ⟨rfl, rfl⟩)
  go_ret
  exact ⟨rfl, 0, _, by rw [Go.Sort.alloc_eq_grow, Go.Sort.alloc_eq_grow, Go.Sort.grow_grow]; rfl⟩
theorem cmpLays_any (blk off size : Nat) (w : World) : CmpLays Tryd.prog 83 #[] encG 2 cfG blk off size w := fun _ _ _ _ x y => closure_any x y _

theorem flatG (s : List (Int × Int)) : Go.Sort.flatK encG 2 s.toArray = (cellsG s).toArray := by
  apply Array.ext
  · simp [cellsG_length]
  · intro t h1 h2
    have ht : t < s.length * 2 := by simpa using h1
    have e1 := Go.Sort.get_flatK encG 2 s.toArray t (by simpa using ht)
    rw [getElem!_pos _ t h1] at e1
    rw [e1]
    obtain ⟨c0, c1⟩ := cellsG_at s (t / 2) (by omega)
    have hg : s.toArray[t / 2]! = s.getD (t / 2) (0, 0) := by
      rw [getElem!_pos _ (t / 2) (by simp; omega)]
      simp [List.getD, List.getElem?_eq_getElem (show t / 2 < s.length by omega)]
    rw [hg]
    have h3 : (cellsG s).toArray[t] = (cellsG s)[t]'(by simpa using h2) := by simp
    rw [h3]
    rcases Nat.mod_two_eq_zero_or_one t with hm | hm
    · have e : t / 2 * 2 = t := by omega
      rw [e, List.getElem?_eq_getElem (by simpa using h2)] at c0
      injection c0 with c0
      rw [c0, hm]
      rfl
    · have e : t / 2 * 2 + 1 = t := by omega
      rw [e, List.getElem?_eq_getElem (by simpa using h2)] at c1
      injection c1 with c1
      rw [c1, hm]
      rfl

set_option maxHeartbeats 1000000 in
/-- Behind the sort: the same ranges, none of which begins ahead of one that stands ahead of it. -/
theorem sort_any {B : Nat} {P : Option Addr} {q pc : Nat} {s : List (Int × Int)} {w : World} (h : w.ownsRow B 42 2 (.slice P q pc) q (cellsG s)) (hq : q ≤ 3000000) :
    Calls Tryd.prog 82 #[.slice P q pc, .func (.func 83) #[] #[]] w fun e w' => e = .returned (.tuple #[]) ∧ ∃ t : List (Int × Int), t.Perm s ∧ (t.Pairwise fun a b => a.1 ≤ b.1) ∧ RowG w' P q t ∧ Below B w w' := by
  have hl : s.length = q := by have := h.1; rw [cellsG_length] at this; omega
  rcases h.2 with ⟨e, rfl⟩ | ⟨g, cap, cur, e, hB, hg, hnc, hcm, hcs, ht⟩
  · injection e with e1 e2 e3
    subst e1; subst e3
    have hs : s = [] := List.eq_nil_of_length_eq_zero hl
    subst hs
    have hc := AnyF.slices_SortFunc_none (P := Tryd.prog) Tryd.sortG none 0 (.func (.func 83) #[] #[]) w
    change Calls Tryd.prog 82 _ _ _ at hc
    refine hc.mono ?_
    rintro e w' ⟨rfl, rfl⟩
    exact ⟨rfl, [], List.Perm.refl _, List.Pairwise.nil, ⟨rfl, fun h => absurd h (by omega)⟩, Below.refl _ _⟩
  · injection e with e1 e2 e3
    subst e1; subst e3
    have hH : Go.Sort.HoldsK encG 2 w g 0 s.toArray := by
      unfold Go.Sort.HoldsK
      rw [flatG]
      intro j hj
      have hj' : j < q * 2 := by simpa [cellsG_length, hl] using hj
      refine ⟨?_, by simp [World.frozen?, hg]⟩
      rw [cell_of_row w g (0 + j) cur 42 (0, 0) hg, Nat.zero_add, ← Array.getElem?_toList, ← List.getElem?_take_of_lt hj', ht, getElem!_pos _ j hj]
      simp
    have eg : ∀ args w, (callFunc 83 args).run Tryd.prog w = .ok (.enter 83 args) w := enters_of Tryd.func83 (by kernel_rfl) rfl
    have hlt := (Array.getElem?_eq_some_iff.1 hg).1
    have hc := AnyQ.slices_SortFunc (P := Tryd.prog) Tryd.sortG 2 Tryd.isAgg42 Tryd.sizeOf42 encG (fun _ => rfl) (fun x v hv => by simp [encG] at hv; rcases hv with rfl | rfl <;> rfl) cfG swoG 83 #[] g 0 pc s.toArray w eg (cmpLays_any g 0 _ w) hH hlt (by simp; omega)
    change Calls Tryd.prog 82 _ _ _ at hc
    rw [show s.toArray.size = q by simpa using hl] at hc
    refine hc.mono ?_
    rintro e w' ⟨rfl, d', m, os, hp, hs, hw⟩
    have hsz : d'.size = q := by have := hp.1; simpa [hl] using this
    have hH2 : Go.Sort.HoldsK encG 2 w' g 0 d' := by
      rw [hw]
      exact holdsK_sortWorldK_c encG 2 w g 0 s.toArray d' m os hH hlt (by simpa [hl] using hsz)
    refine ⟨rfl, d'.toList, ?_, ?_, ⟨by simpa using hsz, fun hn => ⟨g, 0, rfl, ?_, fun j hj => ?_⟩⟩, ?_⟩
    · have := hp.2.2
      rw [show d'.extract 0 q = d' by rw [← hsz]; simp, show s.toArray.extract 0 q = s.toArray by rw [← hl]; simp] at this
      simpa using this
    · rw [List.pairwise_iff_getElem]
      intro i j hi hj hij
      have hi' : i < d'.size := by simpa using hi
      have hj' : j < d'.size := by simpa using hj
      have := hs i j (Nat.zero_le _) hij (by omega)
      rw [ltG, getElem!_pos _ j hj', getElem!_pos _ i hi', decide_eq_false_iff_not] at this
      simp only [Array.getElem_toList]
      omega
    · rw [hw]
      exact Nat.lt_of_lt_of_le hlt (size_sortWorldK_c encG 2 w g 0 m d' os)
    · have k0 := (hH2.cell (i := j) (c := 0) (by omega) (by omega)).1
      have k1 := (hH2.cell (i := j) (c := 1) (by omega) (by omega)).1
      have hd : d'[j]! = d'.toList.getD j (0, 0) := by
        rw [getElem!_pos _ j (by omega)]
        simp [List.getD, Array.getElem?_eq_getElem (show j < d'.size by omega)]
      rw [hd] at k0 k1
      exact ⟨k0, k1⟩
    · rw [hw]
      refine ⟨rfl, rfl, rfl, size_sortWorldK_c encG 2 w g 0 m d' os, fun k hk => ?_⟩
      have hkg : k ≠ g := by omega
      have hkw : k < w.heap.size := by omega
      unfold sortWorldK
      rw [Go.Sort.heap_grow_old _ _ (by rw [Go.Sort.size_putRowK]; exact hkw)]
      unfold Go.Sort.putRowK Go.Sort.putRow Go.Sort.mapBlock
      simp only [Array.getElem?_modify]
      rw [if_neg (Ne.symm hkg)]
      rfl
end Go.Proofs.YtajnedkjmgjjbaaDoor
