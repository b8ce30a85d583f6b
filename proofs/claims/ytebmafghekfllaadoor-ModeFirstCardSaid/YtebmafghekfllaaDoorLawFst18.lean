/- ModeFirst: out of any teller. -/
import Derived.Test.YtebmafghekfllaaDoorTwo18
namespace Go.Proofs.YtebmafghekfllaaDoor
open Go Go.RowKit
set_option linter.unusedVariables false
set_option maxRecDepth 20000
theorem linesF_cases (l : List Rw) : (linesF l = ([], false) ∧ ∀ j, j < l.length → hitB l j = false) ∨ (∃ s, linesF l = ([s], true)) ∧ ∃ j, j < l.length ∧ hitB l j = true := by
  unfold linesF
  cases h : firstR l l.length with
  | none =>
    refine .inl ⟨rfl, fun j hj => ?_⟩
    unfold firstR at h
    rw [List.find?_eq_none] at h
    have := h j (List.mem_range.2 hj)
    simpa using this
  | some i =>
    have h1 : hitB l i = true := by unfold firstR at h; exact List.find?_some h
    have h2 := hitB_lt h1
    refine .inr ⟨?_, i, h2, h1⟩
    dsimp only
    rw [List.getElem?_eq_getElem h2]
    exact ⟨_, rfl⟩
theorem cnt_none {l : List Rw} (h : ∀ j, j < l.length → hitB l j = false) : cntR l l.length = 0 ∧ cntH l l.length = 0 := by
  have : ∀ k, k ≤ l.length → cntR l k = 0 ∧ cntH l k = 0 := by
    intro k
    induction k with
    | zero => intro _; exact ⟨rfl, rfl⟩
    | succ k ih =>
      intro hk
      obtain ⟨h1, h2⟩ := ih (by omega)
      obtain ⟨x, hx⟩ : ∃ x, l[k]? = some x := ⟨_, List.getElem?_eq_getElem (by omega)⟩
      have h3 := hitB_dec hx
      rw [h k (by omega)] at h3
      have h4 : (goodH x).length = 0 := by have : ¬ 0 < (goodH x).length := by simpa using h3
                                           omega
      rw [cntR_succ, cntH_succ hx, h1, h2, h k (by omega), h4]
      exact ⟨rfl, rfl⟩
  exact this _ (Nat.le_refl _)
theorem cnt_some {l : List Rw} {j : Nat} (hj : j < l.length) (h : hitB l j = true) : 1 ≤ cntR l l.length ∧ cntR l l.length ≤ l.length := by
  unfold cntR
  have h1 : j ∈ (List.range l.length).filter (hitB l) := List.mem_filter.2 ⟨List.mem_range.2 hj, h⟩
  have h2 := List.length_pos_of_mem h1
  have h3 := List.length_filter_le (hitB l) (List.range l.length)
  rw [List.length_range] at h3
  exact ⟨h2, h3⟩
theorem itoaS_pos (u : Nat) : 1 ≤ (itoaS (u : Int)).size := by
  rw [itoaS_nat]
  have : 1 ≤ (Lib.decDigits u).length := by
    rw [Lib.decDigits]
    split <;> simp
  simpa [ByteArray.size] using this
theorem not00 (r h : Nat) (hr : 1 ≤ r) : itoaS (r : Int) ++ ⟨#[32]⟩ ++ itoaS (h : Int) ≠ ⟨#[48, 32, 48]⟩ := by
  intro e
  have hs := congrArg ByteArray.size e
  rw [ByteArray.size_append, ByteArray.size_append] at hs
  have h1 := itoaS_pos h
  by_cases h10 : r < 10
  · rw [itoaS_small r h10] at e
    have e2 := congrArg (fun b : ByteArray => b.data.toList.head?) e
    simp [ByteArray.data_append] at e2
    have e3 : r % 256 = 0 := by
      have := congrArg UInt8.toNat e2
      simpa using this
    omega
  · have h2 := itoaS_step r h10
    have h3 := itoaS_pos (r / 10)
    have h4 := itoaS_pos (r % 10)
    have h5 : (itoaS (r : Int)).size = (itoaS ((r / 10 : Nat) : Int)).size + (itoaS ((r % 10 : Nat) : Int)).size := by rw [h2, ByteArray.size_append]
    rw [show (⟨#[32]⟩ : ByteArray).size = 1 from rfl, show (⟨#[48, 32, 48]⟩ : ByteArray).size = 3 from rfl] at hs
    omega
theorem lines1 (b a : Nat) (l : List Rw) (fin : Bool) : linesV 1 b a l fin = linesF l := rfl
theorem lines2F (b a : Nat) (l : List Rw) (fin : Bool) : linesV 2 b a l fin = (linesC l fin, false) := rfl
section
variable {P : TelP} {G : World → Prop} (T : TelF G P)
include T
set_option maxHeartbeats 16000000 in
theorem first18_any (A : Option Addr) (n c : Nat) (l : List Rw) (w : World) (hG : G w) (h : RowsIn w A n l) :
    Calls Tryd.prog 5 #[.slice A n c] w fun e w' => e = .returned (.bool true) ∧ Below w.heap.size w w' := by
  have HAW := Lib.hid fun w' (hg : G w') => awake18_any T w' hg
  have HGG := Lib.hid hG
  by_cases hn : n ≤ 30
  · have H := Lib.hid h
    have HL := Lib.hid h.len
    have dn : decide (30 < n) = false := by simpa using hn
    clear h
    go_enter Tryd.func5, Tryd.ntmps5
    go_wp2_with (go_at_call 7; (with_reducible refine (HAW.out w hG).mono ?_); rintro e w1 ⟨rfl, hb1⟩; have HB1 := Lib.hid hb1; have hg1 := T.gb hG hb1; have HG1 := Lib.hid hg1; have HN1 := Lib.hid (show Calls Tryd.prog 8 #[.int .i64 1, .int .i64 0, .int .i64 0] w1 _ from tNew T hg1 1 0 0 hb1 (by decide) (by decide) (by decide)); clear hb1 hg1)
    (with_reducible refine HN1.out.mono ?_); rintro e w2 ⟨g, rfl, ht, hb2⟩
    have HN2 := Lib.hid (show Calls Tryd.prog 8 #[.int .i64 2, .int .i64 0, .int .i64 0] w2 _ from two_new T (T.gb HG1.out hb2) ht 2 0 0 (by decide) (by decide) (by decide))
    clear ht hb2
    go_wp2_with fail
    (with_reducible refine HN2.out.mono ?_); rintro e w3 ⟨g', rfl, ht⟩
    have HT := Lib.hid ht
    clear ht HN1 HN2
    go_wp2_with fail
    go_loopw [7, 8, 9, 10] (fun v7 v8 v9 v10 wr => ∃ (i z : Nat) (f : Int), v7 = .int .i64 f ∧ v8 = .int .i64 (z : Int) ∧ v9 = .int .i64 (i : Int) ∧ i ≤ n ∧ (f = -1 ∧ z = 0 ∨ 0 ≤ f ∧ z = 1) ∧ Hid (z = (linesF (l.take i)).1.length ∧ (∀ x ∈ l.take i, okX x) ∧ Two P w wr g 1 0 0 (l.take i) false g' 2 0 0 (l.take i) false)) (fun _ _ v9 _ _ => n - (intOf v9).toNat)
    case atStart => exact ⟨0, 0, -1, rfl, rfl, rfl, Nat.zero_le _, .inl ⟨rfl, rfl⟩, Lib.hid ⟨rfl, fun x hx => by (simp at hx), HT.out⟩⟩
    case round =>
      obtain ⟨i, z, f, rfl, rfl, rfl, hi, hfz, HO⟩ := hrel
      have hrc := row_cells
      have HFZ := Lib.hid hfz
      have hz1 : z ≤ 1 := by omega
      clear hfz
      by_cases hlt : i < n
      · obtain ⟨x, hx⟩ : ∃ x, l[i]? = some x := ⟨_, List.getElem?_eq_getElem (by rw [HL.out]; exact hlt)⟩
        obtain ⟨q1, q3, ht⟩ := HO.out
        have HBEL := Lib.hid ht.bel
        obtain ⟨bb, o, hA, hbl, d0, d1, d2, d3⟩ := (H.out.below ht.bel).at hx
        subst hA
        by_cases hxz : x.tx.size ≤ 60
        · by_cases hxm : x.hm ≤ 10
          · have dz : decide (60 < (x.tx.size : Int)) = false := by simp; omega
            have dm : decide (10 < (x.hm : Int)) = false := by simp; omega
            have hmem := H.out.2 x (List.mem_of_getElem? hx)
            have hok := ok_snoc hx q3 hxm hxz
            have e1 := take_snocL hx
            have hll : (l.take i).length ≤ 100 := by rw [List.length_take]; omega
            have HA1 := Lib.hid (show Calls Tryd.prog 9 #[.pointer (some ⟨g, 0, none⟩), x.rcd, .slice x.hA x.hm x.hc] wr.drew _ from two_add T HGG.out (ht.below T (below_drewN (Below.refl wr.heap.size wr) 1)) x hmem.1 hxm hxz hmem.2.1 hmem.2.2 hll)
            have HA2 := Lib.hid fun (w4 : World) (ht : Two P w w4 g 1 0 0 (l.take i ++ [x]) false g' 2 0 0 (l.take i) false) => (show Calls Tryd.prog 9 #[.pointer (some ⟨g', 0, none⟩), x.rcd, .slice x.hA x.hm x.hc] w4.drew _ from two_add T HGG.out (ht.below T (below_drewN (Below.refl w4.heap.size w4) 1)).swap x hmem.1 hxm hxz hmem.2.1 hmem.2.2 hll)
            have HEN := Lib.hid fun (w5 : World) (ht : Two P w w5 g' 2 0 0 (l.take i ++ [x]) false g 1 0 0 (l.take i ++ [x]) false) => (show Calls Tryd.prog 12 #[.pointer (some ⟨g', 0, none⟩)] w5 fun e w' => e = .returned (.bool false) ∧ ∃ m, w' = w5.drewN m from two_eno T ht (by rw [List.length_append, List.length_take, List.length_singleton]; omega) 0)
            have HFIN := Lib.hid fun (m m2 : Nat) (w5 : World) (hm : (linesV 1 0 0 (l.take i ++ [x]) false).1.length = (linesV 1 0 0 (l.take i) false).1.length + m) (hm2 : (linesV 2 0 0 (l.take i ++ [x]) false).1.length = (linesV 2 0 0 (l.take i) false).1.length + m2) (ht : Two P w w5 g' 2 0 0 (l.take i ++ [x]) false g 1 0 0 (l.take i ++ [x]) false) => (by
              rw [lines1, lines1, ← q1] at hm
              have h1 : (linesF (l.take i ++ [x])).1.length ≤ 1 := by
                rcases linesF_cases (l.take i ++ [x]) with h | ⟨⟨s, h⟩, _⟩
                · rw [h.1]; simp
                · rw [h]; simp
              rw [e1]
              exact ⟨by omega, fun q => Lib.hid ⟨by omega, by rw [← e1]; exact hok, (ht.below T (below_drewN (Below.refl w5.heap.size w5) q)).swap⟩⟩ :
              z + m ≤ 1 ∧ ∀ q, Hid (z + m = (linesF (l.take (i + 1))).1.length ∧ (∀ x ∈ l.take (i + 1), okX x) ∧ Two P w (w5.drewN q) g 1 0 0 (l.take (i + 1)) false g' 2 0 0 (l.take (i + 1)) false))
            have HAT := Lib.hid fun (w' : World) (hw : Below w.heap.size w w') => (H.out.below hw).at hx
            unfold Rw.rcd at HA1 HA2
            clear hmem hok e1 hll ht q1 q3 HO hx
            go_upto_region 14 with fail
            have g0 : ∀ w', Below w.heap.size w w' → w'.cell? ⟨bb, o + i * 4, none⟩ = some (.int .i64 x.n) := fun w' hw => by
              obtain ⟨b9, o9, e9, _, q0, _⟩ := HAT.out w' hw
              injection e9 with e9; injection e9 with e9 e10 _; subst e9; subst e10
              exact q0
            have g1 : ∀ w', Below w.heap.size w w' → w'.cell? ⟨bb, o + i * 4 + 1, none⟩ = some (.int .i64 x.p) := fun w' hw => by
              obtain ⟨b9, o9, e9, _, _, q0, _⟩ := HAT.out w' hw
              injection e9 with e9; injection e9 with e9 e10 _; subst e9; subst e10
              exact q0
            have g2 : ∀ w', Below w.heap.size w w' → w'.cell? ⟨bb, o + i * 4 + 2, none⟩ = some (.string x.tx) := fun w' hw => by
              obtain ⟨b9, o9, e9, _, _, _, q0, _⟩ := HAT.out w' hw
              injection e9 with e9; injection e9 with e9 e10 _; subst e9; subst e10
              exact q0
            have g3 : ∀ w', Below w.heap.size w w' → w'.cell? ⟨bb, o + i * 4 + 3, none⟩ = some (.slice x.hA x.hm x.hc) := fun w' hw => by
              obtain ⟨b9, o9, e9, _, _, _, _, q0⟩ := HAT.out w' hw
              injection e9 with e9; injection e9 with e9 e10 _; subst e9; subst e10
              exact q0
            have hS0 : Below w.heap.size w wr.drew := below_drewN HBEL.out 1
            clear d0 d1 d2 d3
            go_region_held (fun w' => Below w.heap.size w w') (assumption) (first
              | (go_at_call 9; (with_reducible refine HA1.out.mono ?_); rintro e w4 ⟨D, m, d, rfl, hm, ht⟩; have hS1 : Below w.heap.size w w4 := ht.bel; have HM := Lib.hid hm; have HT4 := Lib.hid ht; clear hm ht))
            have HA3 := Lib.hid (HA2.out w4 HT4.out)
            have hS2 : Below w.heap.size w w4.drew := below_drewN HT4.out.bel 1
            clear hS0 hS1 HA1 HA2
            go_upto_region 15 with fail
            go_region_held (fun w' => Below w.heap.size w w') (assumption) (first
              | (go_at_call 9; (with_reducible refine HA3.out.mono ?_); rintro e w5 ⟨D2, m2, d2, rfl, hm2, ht⟩; have h20 : m2 = 0 := (by have h1 : (0 : Nat) = 0 + m2 := hm2; omega); subst h20; have hS3 : Below w.heap.size w w5 := ht.bel; have HT5 := Lib.hid (And.intro hm2 ht); have HE5 := Lib.hid (HEN.out w5 ht); clear ht hm2)
              | (go_at_call 12; (with_reducible refine HE5.out.mono ?_); rintro e w6 ⟨rfl, q6, hw6⟩; have hS4 : Below w.heap.size w w6 := (by rw [hw6]; exact below_drewN hS3 q6); have HW6 := Lib.hid hw6; clear hw6))
            obtain ⟨hzm, HQ⟩ := HFIN.out m 0 w5 HM.out HT5.out.1 HT5.out.2
            have HF := HQ q6
            rw [← HW6.out] at HF
            clear g0 g1 g2 g3 hS2 hS3 hS4 HA3 HT4 HT5 HE5 HM HFIN HQ HAT HEN HW6 hbl dz dm
            rcases Nat.eq_zero_or_pos m with h0 | h0
            · subst h0
              clear hzm
              go_wp2_with fail
              exact ⟨⟨i + 1, z, f, (by first | rfl | trivial), (by first | rfl | go_num), by go_num, by omega, HFZ.out, HF⟩, by simp [intOf]; omega⟩
            · have dmp : decide (0 < (m : Int)) = true := by simp; omega
              have HMZ := Lib.hid hzm
              go_wp2_with fail
              exact ⟨⟨i + 1, z + m, (i : Int), (by first | rfl | trivial), by go_num, by go_num, by omega, .inr ⟨by omega, by have := HMZ.out; omega⟩, HF⟩, by simp [intOf]; omega⟩
          · have dz : decide (60 < (x.tx.size : Int)) = false := by simp; omega
            have dm : decide (10 < (x.hm : Int)) = true := by simp; omega
            clear HO ht q1 q3 hx
            go_wp2_with fail
            go_ret
            exact ⟨rfl, HBEL.out⟩
        · have dz : decide (60 < (x.tx.size : Int)) = true := by simp; omega
          clear HO ht q1 q3 hx
          go_wp2_with fail
          go_ret
          exact ⟨rfl, HBEL.out⟩
      · have hin : i = n := by omega
        subst hin
        obtain ⟨q1, q3, ht⟩ := HO.out
        have e1 : l.take i = l := List.take_of_length_le (by rw [HL.out]; exact Nat.le_refl _)
        rw [e1] at ht q1
        have HF := Lib.hid (two_fin T HGG.out ht.swap (by rw [HL.out]; omega))
        have hlc : linesC l true = [itoaS (cntR l l.length : Int) ++ ⟨#[32]⟩ ++ itoaS (cntH l l.length : Int)] := by unfold linesC; rw [if_pos rfl]
        obtain ⟨sl, hsl⟩ : ∃ s, s = itoaS (cntR l l.length : Int) ++ ⟨#[32]⟩ ++ itoaS (cntH l l.length : Int) := ⟨_, rfl⟩
        rw [← hsl] at hlc
        have HLC := Lib.hid hlc
        have HSL := Lib.hid hsl
        have HQ1 := Lib.hid q1
        have HLN : Hid (l.length ≤ 100) := Lib.hid (by rw [HL.out]; omega)
        have HEQ := Lib.hid fun (D : Option Addr) (d : Nat) (out : List ByteArray) (w4 : World) (hl : (linesV 2 0 0 l true).1 = (linesV 2 0 0 l false).1 ++ out) (hr4 : RecW w4 wr.heap.size 9 1 (.slice D out.length d) (strs out)) (ht4 : Tel P w w4 (fun q => (Value.slice D out.length d).ownBlock = some q) g 1 0 0 l false) => (by
          have hout : out = [sl] := by
            have h1 : (linesV 2 0 0 l true).1 = [] ++ out := hl
            have h2 : linesC l true = out := h1
            rw [← h2, HLC.out]
          subst hout
          exact ⟨rfl, Lib.hid ⟨hr4, ht4⟩⟩ : out.length = 1 ∧ Hid (RecW w4 wr.heap.size 9 1 (.slice D 1 d) (strs [sl]) ∧ Tel P w w4 (fun q => (Value.slice D 1 d).ownBlock = some q) g 1 0 0 l false))
        clear HO q1 q3 ht e1 hlc hsl
        rcases HFZ.out with ⟨rfl, rfl⟩ | ⟨hf0, rfl⟩
        · have hLF : linesF l = ([], false) ∧ sl = ⟨#[48, 32, 48]⟩ := by
            rcases linesF_cases l with ⟨h1, h2⟩ | ⟨⟨s, h1⟩, _⟩
            · refine ⟨h1, ?_⟩
              rw [HSL.out, (cnt_none h2).1, (cnt_none h2).2]
              rw [show ((0 : Nat) : Int) = ((0 : Nat) : Int) from rfl, itoaS_small 0 (by decide)]
              decide
            · have := HQ1.out; rw [h1] at this; cases this
          have hsl := hLF.2
          have HLF := Lib.hid hLF.1
          clear hLF
          have HEN := Lib.hid fun (w4 : World) (d : Nat) (D : Option Addr) (ht4 : Tel P w w4 (fun q => (Value.slice D 1 d).ownBlock = some q) g 1 0 0 l false) => (show Calls Tryd.prog 12 #[.pointer (some ⟨g, 0, none⟩)] w4 fun e w' => e = .returned (.bool false) ∧ ∃ m, w' = w4.drewN m by
            have h1 := tEno T ht4 HLN.out 0
            rw [show (linesV 1 0 0 l false).2 = false by rw [lines1, HLF.out]] at h1
            exact h1)
          have HFE := Lib.hid fun (w4 : World) (d : Nat) (D : Option Addr) (ht4 : Tel P w w4 (fun q => (Value.slice D 1 d).ownBlock = some q) g 1 0 0 l false) (hr4 : RecW w4 wr.heap.size 9 1 (.slice D 1 d) (strs [sl])) (q : Nat) => (show Calls Tryd.prog 14 #[.pointer (some ⟨g, 0, none⟩)] (w4.drewN q) fun e w' => ∃ D2 d2, e = .returned (.slice D2 0 d2) ∧ Below w.heap.size w w' ∧ RecW w' wr.heap.size 9 1 (.slice D 1 d) (strs [sl]) by
            refine (tFin T HGG.out (ht4.below T (below_drewN (Below.refl w4.heap.size w4) q)).1 HLN.out).mono fun e w' hh => ?_
            obtain ⟨D2, d2, out2, rfl, -, hkp, ht9, hl9, -⟩ := hh
            have ho2 : out2 = [] := by
              have h1 : (linesF l).1 = (linesF l).1 ++ out2 := hl9 rfl
              simpa using h1
            subst ho2
            exact ⟨D2, d2, rfl, ht9.bel, hr4.keep fun k _ e => hkp k e⟩)
          clear HQ1 HFZ
          go_wp2_with (go_at_call 14; first
            | ((with_reducible refine HF.out.mono ?_); rintro e w4 ⟨D, d, out, rfl, hl, hr4, ht4⟩; obtain ⟨ho, HX4⟩ := HEQ.out D d out w4 hl hr4 ht4; rw [ho]; clear hl hr4 ht4 ho HF; have HEN4 := Lib.hid (HEN.out w4 d D HX4.out.2); have HFE4 := Lib.hid (HFE.out w4 d D HX4.out.2 HX4.out.1)))
          (with_reducible refine HEN4.out.mono ?_); rintro e w5 ⟨rfl, q5, rfl⟩
          go_wp2_with fail
          (with_reducible refine (HFE4.out q5).mono ?_); rintro e w9 ⟨D2, d2, rfl, hb9, hr9⟩
          have hb7 : Below w9.heap.size w9 (w9.alloc (.cells #[.string sl] 9)) := (Below.refl _ _).alloc (Nat.le_refl _) _
          obtain ⟨W7, hW7⟩ : ∃ W7, W7 = w9.alloc (.cells #[.string sl] 9) := ⟨_, rfl⟩
          have hone : RecW W7 0 9 1 (.slice (some ⟨w9.heap.size, 0, none⟩) 1 1) (strs [sl]) := by rw [hW7]; exact one_str w9 (Nat.zero_le _) _
          rw [← hW7] at hb7
          have HTX := Lib.hid (texts18 [sl] D (some ⟨w9.heap.size, 0, none⟩) 1 d 1 W7 (((rec_read hr9).base (Nat.zero_le _)).below hb7) (rec_read hone) (by decide))
          have HB7 := Lib.hid (hb9.trans (hb7.mono hb9.size))
          subst hsl
          clear hb7 hone hr9 hb9
          go_wp2_with fail
          rw [← hW7]
          clear hW7
          (with_reducible refine HTX.out.mono ?_); rintro e w8 ⟨rfl, q, rfl⟩
          go_wp2_with fail
          go_ret
          exact ⟨rfl, below_drewN HB7.out q⟩
        · have hLF : (∃ s, linesF l = ([s], true)) ∧ sl ≠ ⟨#[48, 32, 48]⟩ := by
            rcases linesF_cases l with ⟨h1, h2⟩ | ⟨h1, j, h2, h3⟩
            · have := HQ1.out; rw [h1] at this; cases this
            · exact ⟨h1, by rw [HSL.out]; exact not00 _ _ (cnt_some h2 h3).1⟩
          have hsl := hLF.2
          have HLF := Lib.hid hLF.1
          clear hLF
          have HEN := Lib.hid fun (w4 : World) (d : Nat) (D : Option Addr) (ht4 : Tel P w w4 (fun q => (Value.slice D 1 d).ownBlock = some q) g 1 0 0 l false) => (show Calls Tryd.prog 12 #[.pointer (some ⟨g, 0, none⟩)] w4 fun e w' => e = .returned (.bool true) ∧ ∃ m, w' = w4.drewN m by
            have h1 := tEno T ht4 HLN.out 0
            obtain ⟨s, hs⟩ := HLF.out
            rw [show (linesV 1 0 0 l false).2 = true by rw [lines1, hs]] at h1
            exact h1)
          have HFE := Lib.hid fun (w4 : World) (d : Nat) (D : Option Addr) (ht4 : Tel P w w4 (fun q => (Value.slice D 1 d).ownBlock = some q) g 1 0 0 l false) (hr4 : RecW w4 wr.heap.size 9 1 (.slice D 1 d) (strs [sl])) (q : Nat) => (show Calls Tryd.prog 14 #[.pointer (some ⟨g, 0, none⟩)] (w4.drewN q) fun e w' => ∃ D2 d2, e = .returned (.slice D2 0 d2) ∧ Hid (Below w.heap.size w w' ∧ RecW w' wr.heap.size 9 1 (.slice D 1 d) (strs [sl])) ∧ ∃ bD, D = some ⟨bD, 0, none⟩ ∧ w'.cell? ⟨bD, 0, none⟩ = some (.string sl) by
            refine (tFin T HGG.out (ht4.below T (below_drewN (Below.refl w4.heap.size w4) q)).1 HLN.out).mono fun e w' hh => ?_
            obtain ⟨D2, d2, out2, rfl, -, hkp, ht9, hl9, -⟩ := hh
            have ho2 : out2 = [] := by
              have h1 : (linesF l).1 = (linesF l).1 ++ out2 := hl9 rfl
              simpa using h1
            subst ho2
            have hr9 : RecW w' wr.heap.size 9 1 (.slice D 1 d) (strs [sl]) := hr4.keep fun k _ e => hkp k e
            obtain ⟨bD, cD, e1, _, _, hc⟩ := hr9.at (j := 0) (x := [.string sl]) rfl
            injection e1 with e1 _ _
            exact ⟨D2, d2, rfl, Lib.hid ⟨ht9.bel, hr9⟩, bD, e1, hc 0 _ rfl⟩)
          have hsn : (sl.toList == [48, 32, 48]) = false := by
            rcases hq : (sl.toList == [48, 32, 48]) with _ | _
            · rfl
            · have h1 : sl.toList = [48, 32, 48] := by simpa using hq
              rw [ByteArray.toList_eq] at h1
              exact absurd (ByteArray.ext (Array.toList_inj.1 h1)) hsl
          clear HQ1 HFZ hsl
          go_wp2_with (go_at_call 14; first
            | ((with_reducible refine HF.out.mono ?_); rintro e w4 ⟨D, d, out, rfl, hl, hr4, ht4⟩; obtain ⟨ho, HX4⟩ := HEQ.out D d out w4 hl hr4 ht4; rw [ho]; clear hl hr4 ht4 ho HF; have HEN4 := Lib.hid (HEN.out w4 d D HX4.out.2); have HFE4 := Lib.hid (HFE.out w4 d D HX4.out.2 HX4.out.1)))
          (with_reducible refine HEN4.out.mono ?_); rintro e w5 ⟨rfl, q5, rfl⟩
          go_wp2_with fail
          (with_reducible refine (HFE4.out q5).mono ?_); rintro e w9 ⟨D2, d2, rfl, H9, bD, rfl, k0⟩
          go_wp2_with fail
          go_ret
          exact ⟨rfl, H9.out.1⟩
  · have dn : decide (30 < n) = true := by simp; omega
    clear h
    go_enter Tryd.func5, Tryd.ntmps5
    go_wp2_with (go_at_call 7; first | (with_reducible refine (HAW.out w1 (T.gb hG HB1.out)).mono ?_; rintro e w2 ⟨rfl, hb2⟩; have HB2 := Lib.hid (HB1.out.trans (hb2.mono HB1.out.size)); clear hb2) | ((with_reducible refine (HAW.out w hG).mono ?_); rintro e w1 ⟨rfl, hb1⟩; have HB1 := Lib.hid hb1; clear hb1))
    go_ret
    exact ⟨rfl, HB2.out⟩
end
end Go.Proofs.YtebmafghekfllaaDoor
