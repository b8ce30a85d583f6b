/- The document's Lines: by context, by count. -/
import Derived.Test.YtebmafghekfllaaDoorCtx18
namespace Go.Proofs.YtebmafghekfllaaDoor
open Go Go.RowKit
set_option linter.unusedVariables false
set_option maxRecDepth 20000
set_option maxHeartbeats 4000000 in
theorem lines3_any (A : Option Addr) (n c : Nat) (l : List Rw) (b a : Nat) (fin : Bool) (w : World) (h : RowsAt w A n l) (hn : n ≤ 100) (ha : a ≤ 16) (hb : b ≤ 16) :
    Calls Tryd.prog 10 #[.int .i64 3, .int .i64 (b : Int), .int .i64 (a : Int), .slice A n c, .bool fin] w fun e w' => ∃ A2 c2, e = .returned (.tuple #[.slice A2 (ctxL l b a).length c2, .bool false]) ∧ RecW w' w.heap.size 9 1 (.slice A2 (ctxL l b a).length c2) (strs (ctxL l b a)) ∧ Below w.heap.size w w' := by
  have HC := Lib.hid (ctx_any A n c l b a w h hn ha hb)
  obtain ⟨L, hL⟩ : ∃ L, L = ctxL l b a := ⟨_, rfl⟩
  rw [← hL] at HC ⊢
  clear h hL
  rcases Nat.eq_zero_or_pos n with h0 | h0
  · subst h0
    go_enter Tryd.func10, Tryd.ntmps10
    go_wp2_with fail
    refine wp_loop_rounds 1 ?_
    rw [rounds_succ]
    go_wp2_with fail
    refine HC.out.mono ?_; rintro e w1 ⟨A2, c2, rfl, hr, hb1⟩; have H1 := Lib.hid (And.intro hr hb1); clear hr hb1
    go_wp2_with fail
    go_ret2
    exact ⟨A2, c2, rfl, H1.out.1, H1.out.2⟩
  · go_enter Tryd.func10, Tryd.ntmps10
    go_wp2_with fail
    refine wp_loop_rounds 1 ?_
    rw [rounds_succ]
    go_wp2_with fail
    refine HC.out.mono ?_; rintro e w1 ⟨A2, c2, rfl, hr, hb1⟩; have H1 := Lib.hid (And.intro hr hb1); clear hr hb1
    go_wp2_with fail
    go_ret2
    exact ⟨A2, c2, rfl, H1.out.1, H1.out.2⟩
/-- How many rows have hits, and how many hits there are, of the first k. -/
def cntR (l : List Rw) (k : Nat) : Nat := ((List.range k).filter (hitB l)).length
def cntH (l : List Rw) (k : Nat) : Nat := ((l.take k).map fun x => (goodH x).length).sum
theorem cntR_succ (l : List Rw) (k : Nat) : cntR l (k + 1) = cntR l k + if hitB l k = true then 1 else 0 := by
  unfold cntR
  rw [List.range_succ, List.filter_append, List.length_append]
  congr 1
  by_cases h : hitB l k = true
  · simp [h]
  · simp [h]
theorem cntH_succ {l : List Rw} {k : Nat} {x : Rw} (h : l[k]? = some x) : cntH l (k + 1) = cntH l k + (goodH x).length := by
  obtain ⟨h1, h2⟩ := List.getElem?_eq_some_iff.1 h
  unfold cntH
  rw [List.take_succ_eq_append_getElem h1, h2, List.map_append, List.sum_append]
  simp
/-- A row of one text, just made. -/
theorem one_str (Y : World) {B : Nat} (hB : B ≤ Y.heap.size) (s : ByteArray) : RecW (Y.alloc (.cells #[.string s] 9)) B 9 1 (.slice (some ⟨Y.heap.size, 0, none⟩) 1 1) (strs [s]) := by
  refine ⟨⟨rfl, .inr ⟨Y.heap.size, 1, #[.string s], rfl, hB, heap_alloc_new Y _, Nat.le_refl _, by decide, rfl, rfl⟩⟩, fun y hy => ?_⟩
  rw [List.mem_singleton.1 hy]
  exact swide s
def linesC (l : List Rw) (fin : Bool) : List ByteArray := if fin = true then [itoaS (cntR l l.length : Int) ++ ⟨#[32]⟩ ++ itoaS (cntH l l.length : Int)] else []
set_option maxHeartbeats 4000000 in
theorem lines2_any (A : Option Addr) (n c : Nat) (l : List Rw) (b a : Int) (fin : Bool) (w : World) (h : RowsAt w A n l) (hn : n ≤ 100) :
    Calls Tryd.prog 10 #[.int .i64 2, .int .i64 b, .int .i64 a, .slice A n c, .bool fin] w fun e w' => ∃ A2 c2, e = .returned (.tuple #[.slice A2 (linesC l fin).length c2, .bool false]) ∧ RecW w' w.heap.size 9 1 (.slice A2 (linesC l fin).length c2) (strs (linesC l fin)) ∧ Below w.heap.size w w' := by
  have H := Lib.hid h
  have HL := Lib.hid h.len
  clear h
  have hcl := row_cells
  have HCL := Lib.hid hcl
  go_enter Tryd.func10, Tryd.ntmps10
  go_wp2_with fail
  go_loopw [12, 13, 14, 15] (fun vo vr va vi wr => ∃ (i k m : Nat), i ≤ n ∧ vo = .slice none 0 0 ∧ vr = .int .i64 (k : Int) ∧ va = .int .i64 (m : Int) ∧ vi = .int .i64 (i : Int) ∧ k ≤ i ∧ m ≤ 10 * i ∧ Hid (k = cntR l i ∧ m = cntH l i ∧ Below w.heap.size w wr)) (fun _ _ _ vi _ => n - (intOf vi).toNat)
  case atStart => exact ⟨0, 0, 0, Nat.zero_le _, rfl, rfl, rfl, rfl, Nat.le_refl _, Nat.le_refl _, Lib.hid ⟨rfl, rfl, Below.refl _ _⟩⟩
  case round =>
    obtain ⟨i, k, m, hi, rfl, rfl, rfl, rfl, hki, hmi, HO⟩ := hrel
    by_cases hlt : i < n
    · obtain ⟨x, hx⟩ : ∃ x, l[i]? = some x := ⟨_, List.getElem?_eq_getElem (by rw [HL.out]; exact hlt)⟩
      obtain ⟨bb, o, rfl, hbl, d0, d1, d2, d3⟩ := (H.out.below HO.out.2.2).at hx
      have hmem := H.out.2 x (List.mem_of_getElem? hx)
      have HC := Lib.hid (hits_any x wr (hmem.1.below HO.out.2.2) (by omega) (by omega))
      have hq := hitB_dec hx
      have hsR := cntR_succ l i
      have hsH := cntH_succ hx
      have hle : (goodH x).length ≤ 10 := by
        have h1 : (goodH x).length ≤ x.hs.length := List.length_filter_le _ _
        rw [hmem.1.len] at h1
        omega
      obtain ⟨z, hz⟩ : ∃ z, z = (goodH x).length := ⟨_, rfl⟩
      rw [← hz] at HC hq hsH hle
      unfold Rw.val at HC
      have HDG := Lib.hid fun (w' : World) => dig_any x.n hmem.2.2.2.1 hmem.2.2.2.2 w'
      have HBA := Lib.hid fun (w' : World) (hw : Below w.heap.size w w') => (H.out.below hw).at hx
      have HSR := Lib.hid (And.intro hq (And.intro hsR hsH))
      have HW := Lib.hid HO.out.2.2
      clear hx hmem hq hsR hsH hz
      by_cases hz0 : z = 0
      · subst hz0
        have HF : ∀ w2, Below w.heap.size w w2 → Hid (k = cntR l (i + 1) ∧ m = cntH l (i + 1) ∧ Below w.heap.size w w2) := fun w2 hw => Lib.hid (by
          have h1 := HSR.out.1
          rw [show decide (0 < 0) = false from rfl] at h1
          rw [HSR.out.2.1, HSR.out.2.2, ← h1, if_neg (by decide)]
          exact ⟨HO.out.1, HO.out.2.1, hw⟩)
        have HFF := Lib.hid HF
        clear HF HO
        go_wp2_with (go_at_call 23; (with_reducible refine HC.out.mono ?_); rintro e w2 ⟨A3, c3, rfl, -, hb2⟩; have HB2 := Lib.hid (HW.out.trans (hb2.mono HW.out.size)); clear hb2)
        have HE := HFF.out _ HB2.out
        exact ⟨⟨i + 1, k, m, by omega, (by first | rfl | trivial | exact ⟨rfl, rfl, rfl⟩), rfl, rfl, by go_num, by omega, by omega, HE⟩, by simp [intOf]; omega⟩
      · have hzp : 0 < z := by omega
        have hzne : ¬ (z : Int) = 0 := by omega
        have HF : ∀ w2, Below w.heap.size w w2 → Hid (k + 1 = cntR l (i + 1) ∧ m + z = cntH l (i + 1) ∧ Below w.heap.size w w2) := fun w2 hw => Lib.hid (by
          have h1 := HSR.out.1
          rw [show decide (0 < z) = true by simpa using hzp] at h1
          rw [HSR.out.2.1, HSR.out.2.2, ← h1, if_pos rfl, ← HO.out.1, ← HO.out.2.1]
          exact ⟨rfl, rfl, hw⟩)
        have HFF := Lib.hid HF
        clear HF HO
        go_wp2_with (go_at_call 23; (with_reducible refine HC.out.mono ?_); rintro e w2 ⟨A3, c3, rfl, -, hb2⟩; have HB2 := Lib.hid (HW.out.trans (hb2.mono HW.out.size)); clear hb2 d0 d1 d2 d3; obtain ⟨b9, o9, e9, _, g0, _⟩ := HBA.out _ HB2.out; injection e9 with e9; injection e9 with e9 e10 _; subst e9; subst e10)
        (with_reducible refine (HDG.out _).mono ?_); rintro e w3 ⟨rfl, hb3⟩
        have HB3 := Lib.hid (HB2.out.trans (hb3.mono HB2.out.size))
        have HE := HFF.out _ HB3.out
        clear hb3 g0
        go_wp2_with fail
        refine wp_loop_rounds 1 ?_
        rw [rounds_succ]
        go_wp2_with fail
        exact ⟨⟨i + 1, k + 1, m + z, by omega, (by first | rfl | trivial | exact ⟨rfl, rfl, rfl⟩), by go_num, by go_num, by go_num, by omega, by omega, HE⟩, by simp [intOf]; omega⟩
    · have hin : i = n := by omega
      subst hin
      have e1 : cntR l l.length = k := by rw [HL.out]; exact HO.out.1.symm
      have e2 : cntH l l.length = m := by rw [HL.out]; exact HO.out.2.1.symm
      have HW := Lib.hid HO.out.2.2
      have HE := Lib.hid (And.intro e1 e2)
      have HDK := Lib.hid fun (w' : World) => dig_nat k (by omega) w'
      have HDM := Lib.hid fun (w' : World) => dig_nat m (by omega) w'
      have z1 := itoaS_size k (by omega)
      have z2 := itoaS_size m (by omega)
      obtain ⟨sk, hsk⟩ : ∃ s, s = itoaS (k : Int) := ⟨_, rfl⟩
      obtain ⟨sm, hsm⟩ : ∃ s, s = itoaS (m : Int) := ⟨_, rfl⟩
      rw [← hsk] at HDK z1
      rw [← hsm] at HDM z2
      have l1 : ¬ 9223372036854775807 < sk.size + 1 := by omega
      have l2 : ¬ 9223372036854775807 < sk.size + 1 + sm.size := by omega
      have HSK := Lib.hid (And.intro hsk hsm)
      clear HO e1 e2 z1 z2 hsk hsm hcl
      rcases fin with _ | _
      · go_wp2_with fail
        go_ret2
        refine ⟨none, 0, rfl, ?_, HW.out⟩
        exact RecW.nil _ _ _ _
      · go_wp2_with fail
        (with_reducible refine (HDK.out _).mono ?_); rintro e w3 ⟨rfl, hb3⟩
        have HB3 := Lib.hid (HW.out.trans (hb3.mono HW.out.size))
        clear hb3
        go_wp2_with fail
        (with_reducible refine (HDM.out _).mono ?_); rintro e w4 ⟨rfl, hb4⟩
        have HB4 := Lib.hid (HB3.out.trans (hb4.mono HB3.out.size))
        clear hb4
        go_wp2_with fail
        go_ret2
        have hl : linesC l true = [sk ++ ⟨#[32]⟩ ++ sm] := by unfold linesC; rw [if_pos rfl, HE.out.1, HE.out.2, HSK.out.1, HSK.out.2]
        rw [hl]
        exact ⟨_, _, rfl, one_str w4 HB4.out.size _, HB4.out.alloc HB4.out.size _⟩
/-- The first row that has hits. -/
def firstR (l : List Rw) (k : Nat) : Option Nat := (List.range k).find? (hitB l)
def lineF (x : Rw) : ByteArray := itoaS x.n ++ ⟨#[58]⟩ ++ x.tx
def linesF (l : List Rw) : List ByteArray × Bool := match firstR l l.length with
  | some i => match l[i]? with | some x => ([lineF x], true) | none => ([], false)
  | none => ([], false)
theorem firstR_hit {l : List Rw} {i n : Nat} (hn : ∀ j, j < i → hitB l j = false) (h : hitB l i = true) (hi : i < n) : firstR l n = some i := by
  unfold firstR
  rw [List.find?_range_eq_some]
  exact ⟨h, List.mem_range.2 hi, fun j hj => by rw [hn j hj]; rfl⟩
theorem firstR_none {l : List Rw} {n : Nat} (hn : ∀ j, j < n → hitB l j = false) : firstR l n = none := by
  unfold firstR
  rw [List.find?_eq_none]
  intro j hj
  rw [hn j (List.mem_range.1 hj)]
  decide
set_option maxHeartbeats 4000000 in
theorem lines1_any (A : Option Addr) (n c : Nat) (l : List Rw) (b a : Int) (fin : Bool) (w : World) (h : RowsAt w A n l) (hn : n ≤ 100) :
    Calls Tryd.prog 10 #[.int .i64 1, .int .i64 b, .int .i64 a, .slice A n c, .bool fin] w fun e w' => ∃ A2 c2, e = .returned (.tuple #[.slice A2 (linesF l).1.length c2, .bool (linesF l).2]) ∧ RecW w' w.heap.size 9 1 (.slice A2 (linesF l).1.length c2) (strs (linesF l).1) ∧ Below w.heap.size w w' := by
  have H := Lib.hid h
  have HL := Lib.hid h.len
  clear h
  have hcl := row_cells
  obtain ⟨ls, hls⟩ : ∃ ls, ls = linesF l := ⟨_, rfl⟩
  rw [← hls]
  have HLS := Lib.hid hls
  clear hls
  go_enter Tryd.func10, Tryd.ntmps10
  go_wp2_with fail
  go_loopw [12, 13, 14, 15] (fun vo vr va vi wr => ∃ (i : Nat), i ≤ n ∧ vo = .slice none 0 0 ∧ vr = .int .i64 0 ∧ va = .int .i64 0 ∧ vi = .int .i64 (i : Int) ∧ Hid ((∀ j, j < i → hitB l j = false) ∧ Below w.heap.size w wr)) (fun _ _ _ vi _ => n - (intOf vi).toNat)
  case atStart => exact ⟨0, Nat.zero_le _, rfl, rfl, rfl, rfl, Lib.hid ⟨fun j hj => absurd hj (Nat.not_lt_zero _), Below.refl _ _⟩⟩
  case round =>
    obtain ⟨i, hi, rfl, rfl, rfl, rfl, HO⟩ := hrel
    by_cases hlt : i < n
    · obtain ⟨x, hx⟩ : ∃ x, l[i]? = some x := ⟨_, List.getElem?_eq_getElem (by rw [HL.out]; exact hlt)⟩
      obtain ⟨bb, o, rfl, hbl, d0, d1, d2, d3⟩ := (H.out.below HO.out.2).at hx
      have hmem := H.out.2 x (List.mem_of_getElem? hx)
      have HC := Lib.hid (hits_any x wr (hmem.1.below HO.out.2) (by omega) (by omega))
      have hq := hitB_dec hx
      obtain ⟨z, hz⟩ : ∃ z, z = (goodH x).length := ⟨_, rfl⟩
      rw [← hz] at HC hq
      unfold Rw.val at HC
      have HQ := Lib.hid hq
      have HW := Lib.hid HO.out.2
      by_cases hz0 : z = 0
      · subst hz0
        have HE : ∀ w2, Below w.heap.size w w2 → Hid ((∀ j, j < i + 1 → hitB l j = false) ∧ Below w.heap.size w w2) := fun w2 hw => Lib.hid ⟨fun j hj => by
          rcases Nat.lt_or_ge j i with h1 | h1
          · exact HO.out.1 j h1
          · have : j = i := by omega
            subst this
            rw [← HQ.out]
            rfl, hw⟩
        have HEE := Lib.hid HE
        clear HE HO hx hmem hq hz
        go_wp2_with (go_at_call 23; (with_reducible refine HC.out.mono ?_); rintro e w2 ⟨A3, c3, rfl, -, hb2⟩; have HB2 := Lib.hid (HW.out.trans (hb2.mono HW.out.size)); clear hb2)
        have HF := HEE.out _ HB2.out
        exact ⟨⟨i + 1, by omega, (by first | rfl | trivial | exact ⟨rfl, rfl, rfl⟩), rfl, rfl, by go_num, HF⟩, by simp [intOf]; omega⟩
      · have hzp : 0 < z := by omega
        have hzne : ¬ (z : Int) = 0 := by omega
        have hhit : hitB l i = true := by rw [← HQ.out]; simpa using hzp
        have hl1 : ls = ([lineF x], true) := by rw [HLS.out]; unfold linesF; rw [firstR_hit HO.out.1 hhit (by rw [HL.out]; exact hlt)]; dsimp only; rw [hx]
        have HDG := Lib.hid fun (w' : World) => dig_any x.n hmem.2.2.2.1 hmem.2.2.2.2 w'
        have HBA := Lib.hid fun (w' : World) (hw : Below w.heap.size w w') => (H.out.below hw).at hx
        have hsz := itoaS_size_any x.n hmem.2.2.2.1 hmem.2.2.2.2
        have htz := hmem.2.2.1
        obtain ⟨s, hs⟩ : ∃ s, s = itoaS x.n := ⟨_, rfl⟩
        rw [← hs] at HDG hsz
        have l1 : ¬ 9223372036854775807 < s.size + 1 := by omega
        have l2 : ¬ 9223372036854775807 < s.size + 1 + x.tx.size := by omega
        have HL1 : Hid (ls = ([s ++ ⟨#[58]⟩ ++ x.tx], true)) := Lib.hid (by rw [hl1, hs]; rfl)
        clear hl1 hs hsz htz hx hmem hq hz HO
        go_wp2_with (go_at_call 23; (with_reducible refine HC.out.mono ?_); rintro e w2 ⟨A3, c3, rfl, -, hb2⟩; have HB2 := Lib.hid (HW.out.trans (hb2.mono HW.out.size)); clear hb2 d0 d1 d2 d3; obtain ⟨b9, o9, e9, _, g0, _⟩ := HBA.out _ HB2.out; injection e9 with e9; injection e9 with e9 e10 _; subst e9; subst e10)
        (with_reducible refine (HDG.out _).mono ?_); rintro e w3 ⟨rfl, hb3⟩
        have HB3 := Lib.hid (HB2.out.trans (hb3.mono HB2.out.size))
        clear hb3 g0
        obtain ⟨b9, o9, e9, _, _, _, g2, _⟩ := HBA.out _ HB3.out
        injection e9 with e9
        injection e9 with e9 e10 _
        subst e9; subst e10
        go_wp2_with fail
        go_ret2
        rw [HL1.out]
        exact ⟨_, _, rfl, one_str w3 HB3.out.size _, HB3.out.alloc HB3.out.size _⟩
    · have hin : i = n := by omega
      subst hin
      have HL1 : Hid (ls = ([], false)) := Lib.hid (by rw [HLS.out]; unfold linesF; rw [firstR_none (by rw [HL.out]; exact HO.out.1)])
      have HW := Lib.hid HO.out.2
      clear HO
      go_wp2_with fail
      go_ret2
      rw [HL1.out]
      exact ⟨none, 0, rfl, RecW.nil _ _ _ _, HW.out⟩
end Go.Proofs.YtebmafghekfllaaDoor
