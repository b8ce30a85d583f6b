/- Texts. -/
import Derived.Test.YtaapbmdojkjphaaGreatZ01
import Derived.Test.YtaapbmdojkjphaaGreatZ02
import Derived.Test.YtaapbmdojkjphaaGreatZ06
import Derived.Test.YtaapbmdojkjphaaGreatZ07
import Derived.Test.YtaapbmdojkjphaaGreatZ08
import Derived.Deep.RegionHeldLaw
import Derived.Shelf.Small.Bits
import Derived.Test.YtaapbmdojkjphaaGreatProg
import Derived.Deep.QuietTactic
import Derived.BigQuiet
import Derived.Laws.BitsAllLaws
namespace Go.Proofs.YtaapbmdojkjphaaGreat
open Go Go.RowKit
set_option linter.unusedVariables false
set_option maxRecDepth 20000
def opCnt (op mn mx : Int) (n S : Nat) : Nat :=
  if op = 1 ∨ op = 2 ∨ op = 3 then 1 else if op = 4 then S else if op = 5 then S + 2 * (n - 1) else if op = 6 then oftC mn.toNat (max mx mn - mn).toNat S mx else 0
def cntW : Wood → Nat
  | .nil => 0
  | .cons op _ mn mx k x => opCnt op mn mx k.len (cntW k) + cntW x
theorem cnt_sum : ∀ (K : Wood), sumC (fun j => cntW (K.nth j)) K.len = cntW K
  | .nil => rfl
  | .cons op s mn mx k x => by
    rw [show (Wood.cons op s mn mx k x).len = x.len + 1 from by simp [Wood.len, Nat.add_comm], sumC_tail]
    have := cnt_sum x
    show cntW (.cons op s mn mx k .nil) + sumC (fun j => cntW (x.nth j)) x.len = _
    rw [this]
    simp only [cntW]
    omega
end Go.Proofs.YtaapbmdojkjphaaGreat
namespace Go.Proofs.YtaapbmdojkjphaaGreat
open Go Go.RowKit
set_option linter.unusedVariables false
set_option maxRecDepth 20000
def bigN : Nat := 1099511627776
set_option maxHeartbeats 4000000 in
theorem together_gen {B : Nat} {w0 : World} {D : Option Addr} {nk ck : Nat} {K : Wood} (hk : KidsAt (fun b => b < B) w0 D nk K) (hnk : nk ≤ 1000) (cf : Nat → Nat)
    (HT : ∀ j, j < nk → ∀ v, NodeIn (fun b => b < B) w0 v (K.nth j) → LenC B w0 v (min (cf j) bigN)) :
    ∀ w, Below B w0 w → B ≤ w.heap.size → Calls Tryz.prog 63 #[.slice D nk ck] w fun e w' => e = .returned (.int .i64 ((min (sumC cf nk) bigN : Nat) : Int)) ∧ Below w.heap.size w w' := by
  intro w hb0 hBw
  have HK := Lib.hid hk
  have HTr := Lib.hid HT
  have HB := Lib.hid (And.intro hb0 hBw)
  clear hk HT hb0 hBw
  go_enter Tryz.func63, Tryz.ntmps63
  go_wp2_with fail
  go_loopw [3, 8] (fun vs vi wr => ∃ (j S : Nat), vs = .int .i64 (S : Int) ∧ vi = .int .i64 (j : Int) ∧ j ≤ nk ∧ S ≤ 1099511627776 ∧ Hid (S = min (sumC cf j) bigN ∧ Below w.heap.size w wr)) (fun _ vi _ => nk - (match vi with | .int _ j => j.toNat | _ => 0))
  case atStart => exact ⟨0, 0, rfl, rfl, Nat.zero_le _, by omega, Lib.hid ⟨by simp [sumC], Below.refl _ _⟩⟩
  case round =>
    obtain ⟨j, S, rfl, rfl, hj, hS, H⟩ := hrel
    by_cases hlt : j < nk
    · have hbr : Below B w0 wr := HB.out.1.trans (H.out.2.mono HB.out.2)
      have hBr : B ≤ wr.heap.size := Nat.le_trans HB.out.2 H.out.2.size
      obtain ⟨b, o, op, mn, mx, A', D', ns, cs, nk', ck', rfl, hbB, hbl, c0, c1, c2, c3, c4, hin⟩ := kid_then HK.out hbr hlt
      obtain ⟨d, hd⟩ : ∃ d, d = min (cf j) bigN := ⟨_, rfl⟩
      have HC := HTr.out j hlt _ hin (wr.alloc (.cells #[.int .i64 op, .slice A' ns cs, .int .i64 mn, .int .i64 mx, .slice D' nk' ck'] 27)) (hbr.alloc hBr _) (by simp; omega)
      rw [← hd] at HC
      have HCH := Lib.hid HC
      have hd1 : d ≤ 1099511627776 := by rw [hd]; exact Nat.min_le_right _ _
      obtain ⟨Z, hZ⟩ : ∃ Z, Z = min (S + d) 1099511627776 := ⟨_, rfl⟩
      have hZ1 : Z ≤ 1099511627776 := by omega
      have hm1 : min ((S : Int) + (d : Int)) 1099511627776 = (Z : Int) := by omega
      have HCM := Lib.hid (show Z = min (sumC cf (j + 1)) bigN by have := H.out.1; unfold bigN at *; rw [sumC]; omega)
      have hw1 : IntKind.i64.wrap ((S : Int) + (d : Int)) = (S : Int) + (d : Int) := by rw [IntKind.wrap_i64]; omega
      clear hin HC hd hBr hbr hZ hbB
      go_wp2_with (go_at_call 39; (with_reducible refine HCH.out.mono ?_); rintro e w2 ⟨rfl, hb⟩; have HV := Lib.hid hb; clear hb)
      exact ⟨⟨j + 1, Z, rfl, rfl, hlt, hZ1, Lib.hid ⟨HCM.out, (H.out.2.alloc H.out.2.size _).trans (HV.out.mono (Nat.le_trans H.out.2.size (by simp)))⟩⟩, by show nk - ((j : Int) + 1).toNat < nk - (j : Int).toNat; omega⟩
    · obtain rfl : nk = j := by omega
      go_wp2
      go_ret
      rw [← H.out.1]
      exact ⟨rfl, H.out.2⟩
theorem over_iff {n L : Nat} (hL : 0 < L) : (1099511627776 / L < n) ↔ 1099511627776 < n * L := by
  rw [Nat.div_lt_iff_lt_mul hL]
theorem times_any (n L : Nat) (hn : n ≤ 2000) (hL : L ≤ 1099511627777) (w : World) : Calls Tryz.prog 65 #[.int .i64 (n : Int), .int .i64 (L : Int)] w fun e w' => e = .returned (.int .i64 ((min (n * L) bigN : Nat) : Int)) ∧ w = w' := by
  obtain ⟨R, hR⟩ : ∃ R, R = min (n * L) bigN := ⟨_, rfl⟩
  rw [← hR]
  by_cases h0 : 0 < L
  · have h0I : (0 : Int) < (L : Int) := by omega
    obtain ⟨Q, hQ⟩ : ∃ Q, Q = 1099511627776 / L := ⟨_, rfl⟩
    have hQI : (1099511627776 : Int).tdiv (L : Int) = (Q : Int) := by rw [hQ]; exact (Int.ofNat_tdiv 1099511627776 L).symm
    have hov := over_iff (n := n) h0
    rw [← hQ] at hov
    have hL0 : ((L : Int) == 0) = false := by simp; omega
    have hQb : (Q : Int) ≤ 1099511627776 := by have : Q ≤ 1099511627776 := by rw [hQ]; exact Nat.div_le_self _ _
                                               omega
    have hLn : (L : Int) ≠ 0 := by omega
    by_cases hgt : Q < n
    · have h1 : (Q : Int) < (n : Int) := by omega
      have hRb : R = 1099511627776 := by have := hov.1 hgt; rw [hR]; unfold bigN; omega
      subst hRb
      clear hR hov hQ hgt
      go_enter Tryz.func65, Tryz.ntmps65
      go_wp2_with fail
      go_ret
      exact ⟨rfl, rfl⟩
    · have h1 : ¬ (Q : Int) < (n : Int) := by omega
      have hnl : n * L ≤ 1099511627776 := by
        rcases Nat.lt_or_ge 1099511627776 (n * L) with h2 | h2
        · exact absurd (hov.2 h2) hgt
        · exact h2
      have hRb : R = n * L := by rw [hR]; unfold bigN; omega
      have hw : IntKind.i64.wrap ((n : Int) * (L : Int)) = (R : Int) := by
        rw [hRb, ← Int.natCast_mul, IntKind.wrap_i64]; omega
      have HRB := Lib.hid hRb
      clear hR hov hQ hgt hnl hRb
      go_enter Tryz.func65, Tryz.ntmps65
      go_wp2_with fail
      go_ret
      exact ⟨rfl, rfl⟩
  · have h0I : ¬ (0 : Int) < (L : Int) := by omega
    obtain rfl : L = 0 := by omega
    have hRb : R = 0 := by rw [hR]; simp
    subst hRb
    clear hR
    go_enter Tryz.func65, Tryz.ntmps65
    go_wp2_with fail
    go_ret
    exact ⟨rfl, rfl⟩
theorem len_op {B : Nat} {w0 : World} {op mn mx : Int} {A D : Option Addr} {ns cs nk ck : Nat} (h : op = 0 ∨ op = 2 ∨ op = 3) : LenC B w0 (.agg #[.int .i64 op, .slice A ns cs, .int .i64 mn, .int .i64 mx, .slice D nk ck]) (if op = 0 then 0 else 1) := by
  intro w hb hBw
  rcases h with rfl | rfl | rfl
  all_goals
    go_enter Tryz.func39, Tryz.ntmps39
    go_wp2
    go_ret
    exact ⟨rfl, (Below.refl _ _).alloc (Nat.le_refl _) _⟩
set_option maxHeartbeats 4000000 in
theorem len_alt {B S : Nat} {w0 : World} {A D : Option Addr} {ns cs nk ck : Nat} {mn mx : Int} (hnk : nk ≤ 1000) (hS : S ≤ 1099511627776) (hT : ∀ w, Below B w0 w → B ≤ w.heap.size → Calls Tryz.prog 63 #[.slice D nk ck] w fun e w' => e = .returned (.int .i64 (S : Int)) ∧ Below w.heap.size w w') : LenC B w0 (.agg #[.int .i64 5, .slice A ns cs, .int .i64 mn, .int .i64 mx, .slice D nk ck]) (min (S + 2 * (nk - 1)) bigN) := by
  intro w hb hBw
  have HT := Lib.hid (fun w2 (h2 : Below (w.alloc (.cells #[.int .i64 5, .slice A ns cs, .int .i64 mn, .int .i64 mx, .slice D nk ck] 27)).heap.size (w.alloc (.cells #[.int .i64 5, .slice A ns cs, .int .i64 mn, .int .i64 mx, .slice D nk ck] 27)) w2) => hT w2 ((hb.alloc hBw _).trans (h2.mono (by simp; omega))) (by have := h2.size; simp at this; omega))
  obtain ⟨R, hR⟩ : ∃ R, R = min (S + 2 * (nk - 1)) bigN := ⟨_, rfl⟩
  rw [← hR]
  obtain ⟨m, hm⟩ : ∃ m, m = nk - 1 := ⟨_, rfl⟩
  have hmm : max ((nk : Int) - 1) 0 = (m : Int) := by omega
  have hm1 : (m : Int) ≤ 1000 := by omega
  have hw0 : IntKind.i64.wrap ((nk : Int) - 1) = (nk : Int) - 1 := by rw [IntKind.wrap_i64]; omega
  have hw1 : IntKind.i64.wrap (2 * (m : Int)) = 2 * (m : Int) := by rw [IntKind.wrap_i64]; omega
  have hw2 : IntKind.i64.wrap ((S : Int) + 2 * (m : Int)) = (S : Int) + 2 * (m : Int) := by rw [IntKind.wrap_i64]; omega
  have hmin : min ((S : Int) + 2 * (m : Int)) 1099511627776 = (R : Int) := by rw [hR, ← hm]; unfold bigN; omega
  clear hT hR hm
  obtain ⟨X, hX⟩ : ∃ X, X = w.alloc (.cells #[.int .i64 5, .slice A ns cs, .int .i64 mn, .int .i64 mx, .slice D nk ck] 27) := ⟨_, rfl⟩
  rw [← hX] at HT
  have HT2 := Lib.hid fun w2 (h2 : Below X.heap.size X w2) => (HT.out w2 h2).mono (R' := fun e w' => e = .returned (.int .i64 (S : Int)) ∧ Below X.heap.size X w') fun e w' h => ⟨h.1, h2.trans (h.2.mono h2.size)⟩
  have hbx : X.heap[w.heap.size]? = some (.cells #[.int .i64 5, .slice A ns cs, .int .i64 mn, .int .i64 mx, .slice D nk ck] 27 (0, 0)) := by rw [hX]; exact heap_alloc_new w _
  have hbX : Below w.heap.size w X := by rw [hX]; exact (Below.refl _ _).alloc (Nat.le_refl _) _
  have HX := Lib.hid (And.intro hbX hX)
  have HY := Lib.hid fun v (h : Below X.heap.size X v) => box_facts ((h.block w.heap.size (Array.getElem?_eq_some_iff.1 hbx).1).trans hbx)
  obtain ⟨y0, y1, y2, y3, y4, -⟩ := box_facts hbx
  clear hbX hbx hX
  go_enter Tryz.func39, Tryz.ntmps39
  go_wp2_with fail
  rw [← HX.out.2]
  clear y0 y1 y2 y3 y4
  have z4 : ∀ v, Below X.heap.size X v → v.cell? ⟨w.heap.size, 4, none⟩ = some (.slice D nk ck) := fun v h => (HY.out v h).2.2.2.2.1
  have hr0 : Below X.heap.size X X.drew := (Below.refl _ _).drew
  go_region_held (fun w' => Below X.heap.size X w') (assumption) (first
    | (go_at_call 63; (with_reducible refine (HT2.out _ (by assumption)).mono ?_); rintro e w5 ⟨rfl, hb5⟩))
  all_goals
    (try go_wp2)
    go_ret
    exact ⟨rfl, HX.out.1.trans (Below.mono (by assumption) HX.out.1.size)⟩
theorem min_rep (C mn mo : Nat) : min (min (mn * min C bigN) bigN + min (mo * (min C bigN + 1)) bigN) bigN = min (mn * C + mo * (C + 1)) bigN := by
  rcases Nat.lt_or_ge bigN C with h | h
  · rw [Nat.min_eq_right (Nat.le_of_lt h)]
    rcases Nat.eq_zero_or_pos mn with rfl | hm
    · rcases Nat.eq_zero_or_pos mo with rfl | ho
      · simp
      · have h1 : 1 * (bigN + 1) ≤ mo * (bigN + 1) := Nat.mul_le_mul_right _ ho
        have h2 : 1 * (C + 1) ≤ mo * (C + 1) := Nat.mul_le_mul_right _ ho
        omega
    · have h1 : 1 * bigN ≤ mn * bigN := Nat.mul_le_mul_right _ hm
      have h2 : 1 * C ≤ mn * C := Nat.mul_le_mul_right _ hm
      omega
  · rw [Nat.min_eq_left h]; omega
theorem min_rep2 (C mn : Nat) : min (min (mn * min C bigN) bigN + min C bigN + 2) bigN = min (mn * C + (C + 2)) bigN := by
  rcases Nat.lt_or_ge bigN C with h | h
  · rw [Nat.min_eq_right (Nat.le_of_lt h)]; omega
  · rw [Nat.min_eq_left h]; omega
theorem castm (a L : Nat) : min (a : Int) (L : Int) = ((min a L : Nat) : Int) := by omega
theorem cast_min (a R : Nat) (h : R = min a 1099511627776) : min (a : Int) 1099511627776 = (R : Int) := by
  subst h
  exact castm a 1099511627776
set_option maxHeartbeats 4000000 in
theorem len_rep {B C mn mo : Nat} {w0 : World} {A D : Option Addr} {ns cs nk ck : Nat} {mx : Int} (hmn : mn ≤ 1000) (hmx : -1 ≤ mx) (hmx2 : mx ≤ 1000) (hmo : (mo : Int) = max mx (mn : Int) - (mn : Int)) (hT : ∀ w, Below B w0 w → B ≤ w.heap.size → Calls Tryz.prog 63 #[.slice D nk ck] w fun e w' => e = .returned (.int .i64 ((min C bigN : Nat) : Int)) ∧ Below w.heap.size w w') : LenC B w0 (.agg #[.int .i64 6, .slice A ns cs, .int .i64 (mn : Int), .int .i64 mx, .slice D nk ck]) (min (oftC mn mo C mx) bigN) := by
  intro w hb hBw
  have HT := Lib.hid (hT (w.alloc (.cells #[.int .i64 6, .slice A ns cs, .int .i64 (mn : Int), .int .i64 mx, .slice D nk ck] 27)) (hb.alloc hBw _) (by simp; omega))
  have HC := Lib.hid fun w' => counts_gen (A := A) (D := D) (ns := ns) (cs := cs) (nk := nk) (ck := ck) (op := 6) (mx := mx) mn mo hmn hmx hmx2 hmo w'
  obtain ⟨S, hS⟩ : ∃ S, S = min C bigN := ⟨_, rfl⟩
  rw [← hS] at HT
  have hS1 : S ≤ 1099511627776 := by rw [hS]; exact Nat.min_le_right _ _
  have hmo1 : mo ≤ 1000 := by omega
  obtain ⟨t1, ht1⟩ : ∃ t1, t1 = min (mn * S) bigN := ⟨_, rfl⟩
  obtain ⟨t2, ht2⟩ : ∃ t2, t2 = min (mo * (S + 1)) bigN := ⟨_, rfl⟩
  have b1 : t1 ≤ 1099511627776 := by rw [ht1]; exact Nat.min_le_right _ _
  have b2 : t2 ≤ 1099511627776 := by rw [ht2]; exact Nat.min_le_right _ _
  have T1 := Lib.hid fun w' => times_any mn S (by omega) (by omega) w'
  have T2 := Lib.hid fun w' => times_any mo (S + 1) (by omega) (by omega) w'
  rw [show ((S + 1 : Nat) : Int) = (S : Int) + 1 from rfl] at T2
  rw [← ht1] at T1
  rw [← ht2] at T2
  obtain ⟨R, hR⟩ : ∃ R, R = min (oftC mn mo C mx) bigN := ⟨_, rfl⟩
  rw [← hR]
  have hw0 : IntKind.i64.wrap ((S : Int) + 1) = (S : Int) + 1 := by rw [IntKind.wrap_i64]; omega
  by_cases hm0 : mx < 0
  · have hw1 : IntKind.i64.wrap ((t1 : Int) + (S : Int)) = (t1 : Int) + (S : Int) := by rw [IntKind.wrap_i64]; omega
    have hw2 : IntKind.i64.wrap ((t1 : Int) + (S : Int) + 2) = (t1 : Int) + (S : Int) + 2 := by rw [IntKind.wrap_i64]; omega
    have hmin : min ((t1 : Int) + (S : Int) + 2) 1099511627776 = (R : Int) := by
      have h7 := min_rep2 C mn
      rw [← hS, ← ht1] at h7
      have h8 : R = min (t1 + S + 2) bigN := by rw [hR, oftC, if_pos hm0]; exact h7.symm
      have h9 : bigN = 1099511627776 := rfl
      rw [h9] at h8
      exact cast_min (t1 + S + 2) R h8
    clear hT hS ht1 ht2 hR hmo hmx hmx2 hmn hw0
    go_enter Tryz.func39, Tryz.ntmps39
    go_wp2_with (first
      | (go_at_call 63; (with_reducible refine HT.out.mono ?_); rintro e w1 ⟨rfl, hb1⟩; have H1 := Lib.hid (((Below.refl w.heap.size w).alloc (Nat.le_refl _) (.cells #[.int .i64 6, .slice A ns cs, .int .i64 (mn : Int), .int .i64 mx, .slice D nk ck] 27)).trans (hb1.mono (by simp))); have HBx := Lib.hid (show w1.heap[w.heap.size]? = some (.cells #[.int .i64 6, .slice A ns cs, .int .i64 (mn : Int), .int .i64 mx, .slice D nk ck] 27 (0, 0)) from (hb1.block _ (by simp)).trans (heap_alloc_new w _)); obtain ⟨y0, y1, y2, y3, y4, yf⟩ := box_facts HBx.out; clear hb1)
      | (go_at_call 64; (with_reducible refine (HC.out _).mono ?_); rintro e w2 ⟨rfl, hb2⟩; have H2 := Lib.hid hb2; have z3 := ((hb2.cell (p := ⟨w.heap.size, 3, none⟩) (Array.getElem?_eq_some_iff.1 HBx.out).1).trans y3); clear hb2)
      | (go_at_call 65; first | ((with_reducible refine (T1.out _).mono ?_); rintro e w3 ⟨rfl, rfl⟩) | ((with_reducible refine (T2.out _).mono ?_); rintro e w3 ⟨rfl, rfl⟩)))
    all_goals
      go_ret
      exact ⟨rfl, H1.out.trans (H2.out.mono H1.out.size)⟩
  · have hw2 : IntKind.i64.wrap ((t1 : Int) + (t2 : Int)) = (t1 : Int) + (t2 : Int) := by rw [IntKind.wrap_i64]; omega
    have hmin : min ((t1 : Int) + (t2 : Int)) 1099511627776 = (R : Int) := by
      have h7 := min_rep C mn mo
      rw [← hS, ← ht1, ← ht2] at h7
      have h8 : R = min (t1 + t2) bigN := by rw [hR, oftC, if_neg hm0]; exact h7.symm
      have h9 : bigN = 1099511627776 := rfl
      rw [h9] at h8
      exact cast_min (t1 + t2) R h8
    clear hT hS ht1 ht2 hR hmo hmx hmx2 hmn
    go_enter Tryz.func39, Tryz.ntmps39
    go_wp2_with (first
      | (go_at_call 63; (with_reducible refine HT.out.mono ?_); rintro e w1 ⟨rfl, hb1⟩; have H1 := Lib.hid (((Below.refl w.heap.size w).alloc (Nat.le_refl _) (.cells #[.int .i64 6, .slice A ns cs, .int .i64 (mn : Int), .int .i64 mx, .slice D nk ck] 27)).trans (hb1.mono (by simp))); have HBx := Lib.hid (show w1.heap[w.heap.size]? = some (.cells #[.int .i64 6, .slice A ns cs, .int .i64 (mn : Int), .int .i64 mx, .slice D nk ck] 27 (0, 0)) from (hb1.block _ (by simp)).trans (heap_alloc_new w _)); obtain ⟨y0, y1, y2, y3, y4, yf⟩ := box_facts HBx.out; clear hb1)
      | (go_at_call 64; (with_reducible refine (HC.out _).mono ?_); rintro e w2 ⟨rfl, hb2⟩; have H2 := Lib.hid hb2; have z3 := ((hb2.cell (p := ⟨w.heap.size, 3, none⟩) (Array.getElem?_eq_some_iff.1 HBx.out).1).trans y3); clear hb2)
      | (go_at_call 65; first | ((with_reducible refine (T1.out _).mono ?_); rintro e w3 ⟨rfl, rfl⟩) | ((with_reducible refine (T2.out _).mono ?_); rintro e w3 ⟨rfl, rfl⟩)))
    all_goals
      go_ret
      exact ⟨rfl, H1.out.trans (H2.out.mono H1.out.size)⟩
theorem len_anyP {B : Nat} {w0 : World} (N : Nat) : ∀ (T : Wood), T.size ≤ N → ∀ v, NodeIn (fun b => b < B) w0 v T → TreeOk T → LenOk T → LenC B w0 v (min (cntW T) bigN) := by
  induction N with
  | zero =>
    intro T hN v hv
    obtain ⟨op, s, mn, mx, k, A, D, ns, cs, nk, ck, rfl, _⟩ := hv
    simp [Wood.size] at hN
  | succ N ih =>
    intro T hN v hv hok hlo
    obtain ⟨op, s, mn, mx, k, A, D, ns, cs, nk, ck, rfl, rfl, hr, hk⟩ := hv
    have hsz : (Wood.cons op s mn mx k .nil).size = 1 + k.size := by simp [Wood.size]
    rw [hsz] at hN
    have hc : cntW (.cons op s mn mx k .nil) = opCnt op mn mx nk (cntW k) := by simp [cntW, hk.1]
    rw [hc]
    have hnk : nk ≤ 1000 := by have := hlo.1; have := hk.1; omega
    have hsum : sumC (fun j => cntW (k.nth j)) nk = cntW k := by rw [← hk.1]; exact cnt_sum k
    have hrow := together_gen (ck := ck) hk hnk (fun j => cntW (k.nth j)) fun j hj v hv => by
      have hjl : j < k.len := by rw [hk.1]; exact hj
      exact ih (k.nth j) (by have := size_nth k j hjl; omega) v hv (treeOk_nth k j hjl hok.2.2.1) (lenOk_nth k j hjl hlo.2.2.2.1)
    rw [hsum] at hrow
    rcases hok.1 with rfl | rfl | rfl | rfl | rfl | rfl | rfl
    · exact len_op (.inl rfl)
    · exact len_char _ _ _ _ _ _ _ _ _ _
    · exact len_op (.inr (.inl rfl))
    · exact len_op (.inr (.inr rfl))
    · exact len_cat hrow
    · have e : min (opCnt 5 mn mx nk (cntW k)) bigN = min (min (cntW k) bigN + 2 * (nk - 1)) bigN := by
        unfold opCnt
        rw [if_neg (by decide), if_neg (by decide), if_pos rfl]
        omega
      rw [e]
      exact len_alt hnk (Nat.min_le_right _ _) hrow
    · obtain ⟨h1, h2, h3⟩ := hlo.2.2.1 rfl
      obtain ⟨m, rfl⟩ : ∃ m : Nat, mn = (m : Int) := ⟨mn.toNat, by omega⟩
      obtain ⟨mo, hmo⟩ : ∃ mo : Nat, (mo : Int) = max mx (m : Int) - (m : Int) := ⟨(max mx (m : Int) - (m : Int)).toNat, by omega⟩
      have e : opCnt 6 (m : Int) mx nk (cntW k) = oftC m mo (cntW k) mx := by
        unfold opCnt
        rw [if_neg (by decide), if_neg (by decide), if_neg (by decide), if_pos rfl, ← hmo]
        rfl
      rw [e]
      exact len_rep (by omega) (by omega) (by omega) hmo hrow
end Go.Proofs.YtaapbmdojkjphaaGreat
namespace Go.Proofs.YtaapbmdojkjphaaGreat
open Go Go.RowKit
set_option linter.unusedVariables false
set_option maxRecDepth 20000
def EngC (n : Nat) (cs : List InstL) (P S : ByteArray) (h j : Bool) (w : World) (x : Nat) : Prop :=
  ∃ A pc l, w.heap[x]? = some (.cells #[.slice A n pc, .string P, .bool h, .string S, .bool j] 62 (0, 0)) ∧ InsF (fun b => b < w.heap.size) w A n l ∧ codes l = cs
theorem EngC.keep {n : Nat} {cs : List InstL} {P S : ByteArray} {k j : Bool} {w w' : World} {x : Nat} (h : EngC n cs P S k j w x) (hb : Below w.heap.size w w') : EngC n cs P S k j w' x := by
  obtain ⟨A, pc, l, h1, h2, h3⟩ := h
  exact ⟨A, pc, l, (hb.block x (Array.getElem?_eq_some_iff.1 h1).1).trans h1, (h2.belowB hb).mono fun b hb' _ => Nat.lt_of_lt_of_le hb' hb.size, h3⟩
theorem eng_facts {w : World} {r : Nat} {v0 v1 v2 v3 v4 : Value} (h : w.heap[r]? = some (.cells #[v0, v1, v2, v3, v4] 62 (0, 0))) :
    w.cell? ⟨r, 0, none⟩ = some v0 ∧ w.cell? ⟨r, 1, none⟩ = some v1 ∧ w.cell? ⟨r, 2, none⟩ = some v2 ∧ w.cell? ⟨r, 3, none⟩ = some v3 ∧ w.cell? ⟨r, 4, none⟩ = some v4 ∧ ∀ j, w.frozen? ⟨r, j, none⟩ = false :=
  ⟨cell_of_row w r 0 _ _ (0, 0) h, cell_of_row w r 1 _ _ (0, 0) h, cell_of_row w r 2 _ _ (0, 0) h, cell_of_row w r 3 _ _ (0, 0) h, cell_of_row w r 4 _ _ (0, 0) h, fun j => by simp [World.frozen?, h]⟩
def MadeV (n : Nat) (cs : List InstL) (P : ByteArray) (wh : Bool) (w : World) (e : Ending) (w' : World) : Prop :=
  ∃ (x : Nat) (S : ByteArray) (j : Bool) (i : Nat), e = .returned (.tuple #[.pointer (some ⟨x, 0, none⟩), .int .i64 0]) ∧ Below w.heap.size w w' ∧ EngC n cs P S wh j w' x ∧ nums S = (nums P).take i ∧ (j = true → S = P) ∧ (j = true → wh = true)
set_option maxHeartbeats 8000000 in
theorem make_any {q : ByteArray} {T : Wood} {n : Nat} {cs : List InstL} {P : ByteArray} {wh : Bool} (hPa : ∀ w : World, Calls Tryz.prog 19 #[.string q] w fun e w' => ∃ x : NV, e = .returned (.tuple #[x.val, .int .i64 0]) ∧ NodesIn (fun b => w.heap.size ≤ b) w' [x] T ∧ Below w.heap.size w w') (hPs : P.size ≤ 1000)
    (hPr : ∀ (F : Nat → Prop) (w1 : World) (x : NV), NodesIn F w1 [x] T → ∀ w2, Below w1.heap.size w1 w2 → Calls Tryz.prog 21 #[x.val] w2 fun e w' => e = .returned (.tuple #[.string P, .bool wh]) ∧ Below w2.heap.size w2 w')
    (HC : ∀ (w1 : World) (x : NV), NodesIn (fun _ => True) w1 [x] T → ∀ w2, Below w1.heap.size w1 w2 → Calls Tryz.prog 20 #[.agg #[.int .i64 x.op, .slice x.A x.ns x.cs, .int .i64 x.mn, .int .i64 x.mx, .slice x.D x.nk x.ck]] w2 fun e w' => ∃ A pc l, e = .returned (.tuple #[.slice A n pc, .int .i64 0]) ∧ InsF (fun b => w2.heap.size ≤ b) w' A n l ∧ codes l = cs ∧ Below w2.heap.size w2 w') (w : World) :
    Calls Tryz.prog 8 #[.string q] w (MadeV n cs P wh w) := by
  have HP := Lib.hid (hPa w)
  have HK := Lib.hid HC
  have HPr := Lib.hid (hPr (fun b => w.heap.size ≤ b))
  have HB := Lib.hid fun w => begin_any P w (Nat.le_trans hPs (by decide))
  clear HC hPa hPr hPs
  go_enter Tryz.func8, Tryz.ntmps8
  go_wp2_with (first
    | (go_at_call 19; (with_reducible refine HP.out.mono ?_); rintro e w1 ⟨y, rfl, hN, hb⟩; have H1 := Lib.hid hb; have HPy := Lib.hid (HPr.out w1 y hN); have HCy := Lib.hid (HK.out w1 y (hN.move (F' := fun _ => True) (Nat.le_refl _) fun b _ _ => ⟨trivial, rfl⟩) (w1.alloc (.cells #[.int .i64 y.op, .slice y.A y.ns y.cs, .int .i64 y.mn, .int .i64 y.mx, .slice y.D y.nk y.ck] 27)) ((Below.refl _ _).alloc (Nat.le_refl _) _)); clear hN hb; simp only [NV.val] at HPy ⊢)
    | (go_at_call 20; (with_reducible refine HCy.out.mono ?_); rintro e w2 ⟨A, pc, l, rfl, hI, hcl, hb⟩; have hbx := (hb.block w1.heap.size (by simp)).trans (heap_alloc_new w1 _); obtain ⟨y0, y1, y2, y3, y4, yf⟩ := box_facts (at_up hbx (.cells #[.slice A n pc, .string ⟨#[]⟩, .bool false, .string ⟨#[]⟩, .bool false] 62)); have HCp := Lib.hid (HPy.out (w2.alloc (.cells #[.slice A n pc, .string ⟨#[]⟩, .bool false, .string ⟨#[]⟩, .bool false] 62)) ((((Below.refl w1.heap.size w1).alloc (Nat.le_refl _) _).trans (hb.mono (by simp))).alloc (Nat.le_trans (by simp) hb.size |> Nat.le_of_succ_le) _)); have H2 := Lib.hid (And.intro hI (And.intro hcl hb)); clear hI hcl hb hbx)
    | (go_at_call 21; (with_reducible refine HCp.out.mono ?_); rintro e w3 ⟨rfl, hb⟩; have H3 := Lib.hid hb; have hbx := (hb.block w2.heap.size (by simp)).trans (heap_alloc_new w2 _); obtain ⟨z0, z1, z2, z3, z4, zf⟩ := eng_facts hbx; have HX3 := Lib.hid hbx; clear hb hbx)
    | (go_at_call 22; (with_reducible refine (HB.out _).mono ?_); rintro e w4 ⟨S, i, rfl, hS, hb⟩; have hbx := (hb.block w2.heap.size (by have := H3.out.size; simp at this ⊢; omega)).trans (heap_setCell_same _ w2.heap.size 2 _ _ (.bool wh) (heap_setCell_same w3 w2.heap.size 1 _ _ (.string P) HX3.out)); have H4 := Lib.hid (And.intro hS (And.intro hb hbx)); obtain ⟨u0, u1, u2, u3, u4, uf⟩ := eng_facts hbx; clear hS hb hbx))
  have bA : Below w2.heap.size w2 w3 := ((Below.refl _ w2).alloc (Nat.le_refl _) _).trans (H3.out.mono (by simp))
  have bB := (bA.setCell (p := ⟨w2.heap.size, 1, none⟩) (Nat.le_refl _) (.string P)).setCell (p := ⟨w2.heap.size, 2, none⟩) (Nat.le_refl _) (.bool wh)
  have bD := (bB.trans (H4.out.2.1.mono bB.size)).setCell (p := ⟨w2.heap.size, 3, none⟩) (Nat.le_refl _) (.string S)
  have hset : (w4.setCell ⟨w2.heap.size, 3, none⟩ (.string S)).heap[w2.heap.size]? = some (.cells #[.slice A n pc, .string P, .bool wh, .string S, .bool false] 62 (0, 0)) := heap_setCell_same w4 w2.heap.size 3 _ _ (.string S) H4.out.2.2
  have hbw : Below w.heap.size w w2 := (H1.out.alloc H1.out.size (.cells #[.int .i64 y.op, .slice y.A y.ns y.cs, .int .i64 y.mn, .int .i64 y.mx, .slice y.D y.nk y.ck] 27)).trans (H2.out.2.2.mono (Nat.le_trans H1.out.size (by simp)))
  have HF := Lib.hid (And.intro (H2.out.1.mono (F' := fun b => b < w2.heap.size) fun b _ h => h) (And.intro H2.out.2.1 (And.intro hbw H4.out.1)))
  clear y0 y1 y2 y3 y4 yf z0 z1 z2 z3 z4 zf u0 u1 u2 u3 u4 uf bA bB hbw
  generalize w4.setCell ⟨w2.heap.size, 3, none⟩ (.string S) = w5 at hset bD ⊢
  have HD := Lib.hid (And.intro hset bD)
  obtain ⟨c0, c1, c2, c3, c4, cf⟩ := eng_facts hset
  clear hset bD H1 H2 H3 H4 HP HK HPr HB HPy HCy HCp HX3
  have hend : ∀ j, (w5.setCell ⟨w2.heap.size, 4, none⟩ (.bool j)).heap[w2.heap.size]? = some (.cells #[.slice A n pc, .string P, .bool wh, .string S, .bool j] 62 (0, 0)) := fun j => heap_setCell_same w5 w2.heap.size 4 _ _ (.bool j) HD.out.1
  have hfin : ∀ j, (j = true → S = P) → (j = true → wh = true) → ∀ w' : World, Below w5.heap.size (w5.setCell ⟨w2.heap.size, 4, none⟩ (.bool j)) w' → MadeV n cs P wh w (.returned (.tuple #[.pointer (some ⟨w2.heap.size, 0, none⟩), .int .i64 0])) w' := by
    intro j hj hw w' hb
    have b1 : Below w2.heap.size w2 w' := (HD.out.2.setCell (p := ⟨w2.heap.size, 4, none⟩) (Nat.le_refl _) (.bool j)).trans (hb.mono HD.out.2.size)
    refine ⟨w2.heap.size, S, j, i, rfl, HF.out.2.2.1.trans (b1.mono HF.out.2.2.1.size), ⟨A, pc, l, (hb.block _ ?_).trans (hend j), (HF.out.1.belowB b1).mono fun b h _ => ?_, HF.out.2.1⟩, HF.out.2.2.2, hj, hw⟩
    · exact (Array.getElem?_eq_some_iff.1 HD.out.1).1
    · exact Nat.lt_of_lt_of_le h b1.size
  have HE := Lib.hid hfin
  clear hend hfin
  cases wh with
  | false =>
    go_region
    go_wp2
    go_ret2
    exact HE.out false (by simp) (by simp) _ (Below.refl _ _).drew
  | true =>
    have hlist : ∀ a b : ByteArray, a.toList = b.toList → a = b := fun a b h => by
      rw [ByteArray.toList_eq, ByteArray.toList_eq] at h
      exact ByteArray.ext (Array.toList_inj.1 h)
    by_cases hSP : S = P
    · subst hSP
      by_cases h0 : S.toList = []
      · have h01 : S.toList.isEmpty = true := by rw [h0]; rfl
        go_region
        go_wp2
        go_ret2
        exact HE.out false (by simp) (by simp) _ (Below.refl _ _).drew
      · have h01 : S.toList.isEmpty = false := by
          cases hc : S.toList with
          | nil => exact absurd hc h0
          | cons _ _ => rfl
        go_region
        go_wp2
        go_ret2
        exact HE.out true (by simp) (by simp) _ (Below.refl _ _).drew
    · have h1 : (S.toList == P.toList) = false := by
        rw [beq_eq_false_iff_ne]
        exact fun h => hSP (hlist _ _ h)
      have h2 : ¬ S.toList = P.toList := fun h => hSP (hlist _ _ h)
      clear hSP
      go_region
      go_wp2
      go_ret2
      exact HE.out false (by simp) (by simp) _ (Below.refl _ _).drew
end Go.Proofs.YtaapbmdojkjphaaGreat
namespace Go.Proofs
open Go.Shelf
def Tryz.lays131_ren : Go.Shelf.Ren := ⟨fun | 131 => 97 | 126 => 122 | n => n, fun | 5 => 5 | 3 => 3 | 9 => 9 | n => n, fun | n => n⟩
theorem Tryz.lays131 : Go.Proofs.Lays.n131 Tryz.prog Tryz.lays131_ren := {
  mixed := by kernel_rfl
  f126 := Tryz.func122.trans (congrArg some (by kernel_rfl))
  f131 := Tryz.func97.trans (congrArg some (by kernel_rfl))
  t3 := Tryz.underlying3
  a3 := Tryz.isAgg3
  z3 := Tryz.sizeOf3
  v3 := Tryz.zeroValue3
  t5 := Tryz.underlying5
  a5 := Tryz.isAgg5
  z5 := Tryz.sizeOf5
  v5 := Tryz.zeroValue5
  t9 := Tryz.underlying9
  a9 := Tryz.isAgg9
  z9 := Tryz.sizeOf9
  v9 := Tryz.zeroValue9 }
theorem Tryz.bits_LeadingZeros8 (x : Int) (w : World) (h0 : 0 ≤ x) (h1 : x ≤ 255) :
    Calls Tryz.prog 97 #[.int .u8 x] w fun e w' => e = .returned (.int .i64 (8 - (Lib.bitLen x.toNat : Int))) ∧ w' = w := Any.bits_LeadingZeros8 Tryz.lays131 x w h0 h1
end Go.Proofs
namespace Go.Proofs.YtaapbmdojkjphaaGreat
open Go Go.RowKit
def lenI (c : Int) : Int := if c < 128 then 1 else if c < 192 then 0 else if c < 224 then 2 else if c < 240 then 3 else if c < 248 then 4 else 0
theorem lz_all : ∀ c : Fin 256, (Lib.bitLen (255 - c.val) : Int) = if c.val < 128 then 8 else if c.val < 192 then 7 else if c.val < 224 then 6 else if c.val < 240 then 5 else if c.val < 248 then 4 else (Lib.bitLen (255 - c.val) : Int) := by decide +kernel
theorem lz_top : ∀ c : Fin 8, Lib.bitLen c.val ≤ 3 := by decide +kernel
theorem xor255 : ∀ c : Fin 256, (255 ^^^ c.val : Nat) = 255 - c.val := by decide +kernel
theorem u8_not {c : Int} (h0 : 0 ≤ c) (h1 : c ≤ 255) : bits BinOp.xor IntKind.u8 IntKind.u8.max c = 255 - c := by
  rw [show IntKind.u8.max = 255 from rfl, u8_xor 255 c (by omega) (by omega) h0 (by omega)]
  have := xor255 ⟨c.toNat, by omega⟩
  simp only at this
  rw [show (255 : Int).toNat = 255 from rfl, this]
  omega
theorem length_lo (c m : Int) (w : World) (h0 : 0 ≤ c) (h1 : c ≤ 255) (hm : m = 0 ∨ m = 2 ∨ m = 3 ∨ m = 4)
    (hb : 8 - (Lib.bitLen (255 - c).toNat : Int) = m) : Calls Tryz.prog 52 #[.int .u8 c] w fun e w' => e = .returned (.int .i64 (if m = 0 then 1 else m)) ∧ w = w' := by
  have hl := fun w => Tryz.bits_LeadingZeros8 (255 - c) w (by omega) (by omega)
  rw [hb] at hl
  clear hb
  have HL := Lib.hid hl; clear hl
  have e1 := u8_not h0 h1
  rcases hm with rfl | rfl | rfl | rfl
  all_goals
    go_enter Tryz.func52, Tryz.ntmps52
    go_wp2_with fail
    refine (HL.out _).mono ?_; rintro e w' ⟨rfl, rfl⟩
    go_wp2_with fail
    go_ret
    exact ⟨by simp, rfl⟩
theorem length_hi (c m : Int) (w : World) (h0 : 0 ≤ c) (h1 : c ≤ 255) (hm : m = 1 ∨ 5 ≤ m)
    (hb : 8 - (Lib.bitLen (255 - c).toNat : Int) = m) : Calls Tryz.prog 52 #[.int .u8 c] w fun e w' => e = .returned (.int .i64 0) ∧ w = w' := by
  have hl := fun w => Tryz.bits_LeadingZeros8 (255 - c) w (by omega) (by omega)
  rw [hb] at hl
  clear hb
  have HL := Lib.hid hl; clear hl
  have e1 := u8_not h0 h1
  have b1 : (m == 0) = false := by simp; omega
  have b2 : (m == 2) = false := by simp; omega
  have b3 : (m == 3) = false := by simp; omega
  have b4 : (m == 4) = false := by simp; omega
  clear hm
  go_enter Tryz.func52, Tryz.ntmps52
  go_wp2_with fail
  refine (HL.out _).mono ?_; rintro e w' ⟨rfl, rfl⟩
  go_wp2_with fail
  go_ret
  exact ⟨rfl, rfl⟩
theorem length_any (c : Int) (w : World) (h0 : 0 ≤ c) (h1 : c < 256) : Calls Tryz.prog 52 #[.int .u8 c] w fun e w' => e = .returned (.int .i64 (lenI c)) ∧ w = w' := by
  have ha := lz_all ⟨c.toNat, by omega⟩
  simp only at ha
  rw [show 255 - c.toNat = (255 - c).toNat by omega] at ha
  have ht : 248 ≤ c → Lib.bitLen (255 - c).toNat ≤ 3 := fun h => lz_top ⟨(255 - c).toNat, by omega⟩
  rcases (show c < 128 ∨ (128 ≤ c ∧ c < 192) ∨ (192 ≤ c ∧ c < 224) ∨ (224 ≤ c ∧ c < 240) ∨ (240 ≤ c ∧ c < 248) ∨ 248 ≤ c by omega) with h | h | h | h | h | h
  · rw [if_pos (by omega)] at ha
    have := length_lo c 0 w h0 (by omega) (by omega) (by omega)
    rw [show lenI c = 1 by unfold lenI; rw [if_pos (by omega)]]
    exact this
  · rw [if_neg (by omega), if_pos (by omega)] at ha
    rw [show lenI c = 0 by unfold lenI; rw [if_neg (by omega), if_pos (by omega)]]
    exact length_hi c 1 w h0 (by omega) (by omega) (by omega)
  · rw [if_neg (by omega), if_neg (by omega), if_pos (by omega)] at ha
    rw [show lenI c = 2 by unfold lenI; rw [if_neg (by omega), if_neg (by omega), if_pos (by omega)]]
    exact length_lo c 2 w h0 (by omega) (by omega) (by omega)
  · rw [if_neg (by omega), if_neg (by omega), if_neg (by omega), if_pos (by omega)] at ha
    rw [show lenI c = 3 by unfold lenI; rw [if_neg (by omega), if_neg (by omega), if_neg (by omega), if_pos (by omega)]]
    exact length_lo c 3 w h0 (by omega) (by omega) (by omega)
  · rw [if_neg (by omega), if_neg (by omega), if_neg (by omega), if_neg (by omega), if_pos (by omega)] at ha
    rw [show lenI c = 4 by unfold lenI; rw [if_neg (by omega), if_neg (by omega), if_neg (by omega), if_neg (by omega), if_pos (by omega)]]
    exact length_lo c 4 w h0 (by omega) (by omega) (by omega)
  · have h3 := ht h
    rw [show lenI c = 0 by unfold lenI; rw [if_neg (by omega), if_neg (by omega), if_neg (by omega), if_neg (by omega), if_neg (by omega)]]
    exact length_hi c (8 - (Lib.bitLen (255 - c).toNat : Int)) w h0 (by omega) (by omega) rfl
end Go.Proofs.YtaapbmdojkjphaaGreat
namespace Go.Proofs.YtaapbmdojkjphaaGreat
open Go Go.RowKit
def gat : Int → List Int → Int × Bool
  | r, [] => (r, true)
  | r, c :: t => if 128 ≤ c ∧ c < 192 then gat (r * 64 + (c - 128)) t else (0, false)
def headI (n c : Int) : Int := if n = 1 then c % 128 else if n = 2 then c % 64 else if n = 3 then c % 32 else c % 16
theorem and127 {c : Int} (h0 : 0 ≤ c) (h1 : c < 256) : bits .and .u8 c 127 = c % 128 := bits_mask .u8 8 (by decide) wraps_u8 7 (by decide) c h0 h1
set_option maxHeartbeats 400000 in
theorem gather_1 (b o cap : Nat) (n x : Int) (w : World) (hn : n = 1 ∨ n = 2 ∨ n = 3 ∨ n = 4) (hcap : 1 ≤ cap) (hcm : cap ≤ maxLen) (hx0 : 0 ≤ x) (hx1 : x < 256)
    (hc : w.cell? ⟨b, o, none⟩ = some (.int .u8 x)) :
    Calls Tryz.prog 53 #[.slice (some ⟨b, o, none⟩) 1 cap, .int .i64 n] w fun e w' => e = .returned (.tuple #[.int .i64 (headI n x), .bool true]) ∧ ∃ q, w' = w.drewN q := by
  have e1 := and127 hx0 hx1
  have e2 := u8_and63 x hx0 hx1
  have e3 := u8_and31 x hx0 hx1
  have e4 := u8_and15 x hx0 hx1
  unfold maxLen at hcm
  by_cases h1 : cap = 1
  · subst h1
    rcases hn with rfl | rfl | rfl | rfl
    all_goals
      go_enter Tryz.func53, Tryz.ntmps53
      go_wp2
      go_quiet (fail)
      go_wp2
      go_rounds 1
      go_ret2
      exact ⟨by simp [headI], _, rfl⟩
  · rcases hn with rfl | rfl | rfl | rfl
    all_goals
      go_enter Tryz.func53, Tryz.ntmps53
      go_wp2
      go_quiet (fail)
      go_wp2
      go_rounds 1
      go_ret2
      exact ⟨by simp [headI], _, rfl⟩
def Room (k : Nat) (r : Int) : Prop := 0 ≤ r ∧ (k = 0 → r < 128) ∧ (k = 1 → r < 8192) ∧ (k = 2 → r < 524288) ∧ (k = 3 → r < 33554432)
theorem Room.lt {k : Nat} {r : Int} (h : Room k r) (hk : k ≤ 3) : 0 ≤ r ∧ r < 33554432 := by unfold Room at h; omega
theorem Room.next {k : Nat} {r c : Int} (h : Room k r) (h0 : 0 ≤ c) (h1 : c < 64) (hk : k < 3) : Room (k + 1) (r * 64 + c) := by unfold Room at *; omega
theorem headI_room (n x : Int) : Room 0 (headI n x) := by
  unfold Room headI
  refine ⟨?_, ?_, ?_, ?_, ?_⟩ <;> (split <;> (try split) <;> (try split) <;> omega)
set_option maxHeartbeats 1000000 in
theorem gather_n (b o m cap : Nat) (n x : Int) (t : List Int) (w : World) (hn : n = 1 ∨ n = 2 ∨ n = 3 ∨ n = 4) (hm : m = t.length) (hm1 : 1 ≤ m) (hm3 : m ≤ 3) (hcap : m + 1 ≤ cap) (hcm : cap ≤ maxLen) (hx0 : 0 ≤ x) (hx1 : x < 256)
    (hc : w.cell? ⟨b, o, none⟩ = some (.int .u8 x)) (hct : ∀ j, j < m → w.cell? ⟨b, o + 1 + j, none⟩ = some (.int .u8 (t.getD j 0))) (hby : ∀ c ∈ t, 0 ≤ c ∧ c < 256) :
    Calls Tryz.prog 53 #[.slice (some ⟨b, o, none⟩) ((m + 1 : Nat) : Nat) cap, .int .i64 n] w fun e w' => e = .returned (.tuple #[.int .i64 (gat (headI n x) t).1, .bool (gat (headI n x) t).2]) ∧ ∃ q, w' = w.drewN q := by
  have e1 := and127 hx0 hx1
  have e2 := u8_and63 x hx0 hx1
  have e3 := u8_and31 x hx0 hx1
  have e4 := u8_and15 x hx0 hx1
  unfold maxLen at hcm
  have hne : ¬ cap = 1 := by omega
  have hroom := headI_room n x
  obtain ⟨h, hh⟩ : ∃ h, h = headI n x := ⟨_, rfl⟩
  rw [← hh] at hroom ⊢
  have HH := Lib.hid hh; clear hh
  have HM := Lib.hid hm; clear hm
  have HR := Lib.hid hroom; clear hroom
  have HT := Lib.hid hct; clear hct
  have HB := Lib.hid hby; clear hby
  rcases hn with rfl | rfl | rfl | rfl
  all_goals
    go_enter Tryz.func53, Tryz.ntmps53
    go_wp2
    go_quiet (fail)
    go_wp2
    go_loop [6, 19] (fun vr vi => ∃ (k : Nat) (r : Int), k ≤ m ∧ vi = .int .i64 k ∧ vr = .int .i64 r ∧ Hid (Room k r) ∧ Hid (gat r (t.drop k) = gat h t)) (fun _ vi => m - (intOf vi).toNat)
    case atStart => exact ⟨0, h, Nat.zero_le _, rfl, by rw [HH.out]; simp [headI], HR, Lib.hid (by simp)⟩
    case round =>
      obtain ⟨k, r, hk, rfl, rfl, HK, HG⟩ := hrel
      by_cases hlt : k < m
      · have c1 := HT.out k hlt
        obtain ⟨c, hc'⟩ : ∃ c, c = t.getD k 0 := ⟨_, rfl⟩
        rw [← hc'] at c1
        have hk' : k < t.length := by have := HM.out; omega
        have hg : t[k] = c := by rw [hc']; simp [List.getD, hk']
        have hcr := HB.out c (by rw [← hg]; exact List.getElem_mem hk')
        have hd : t.drop k = c :: t.drop (k + 1) := by rw [← hg]; exact List.drop_eq_getElem_cons hk'
        obtain ⟨hc0, hc1⟩ := hcr
        have hrm := HK.out.lt (by omega)
        obtain ⟨hr0, hr1⟩ := hrm
        have HD := Lib.hid hd
        clear hd hg hc' hk'
        by_cases hcont : 128 ≤ c ∧ c < 192
        · have hq : (c / 64 != 2) = false := by rw [bne_eq_false_iff_eq]; omega
          have e6 := u8_and63 c hc0 hc1
          have e7 := i64_or6 (x := r * 64) (y := c % 64) (by omega) (by omega) (by omega) (by omega) (by omega)
          have e8 : 0 ≤ c % 64 := by omega
          have e9 : c % 64 < 64 := by omega
          have HN := Lib.hid (HK.out.next e8 e9 (by omega))
          have HC := Lib.hid hcont; clear hcont
          go_wp2
          go_round
          case rel =>
            refine ⟨k + 1, r * 64 + c % 64, by omega, by go_num, rfl, HN, Lib.hid ?_⟩
            rw [← HG.out, HD.out, gat, if_pos HC.out, show c - 128 = c % 64 by have := HC.out; omega]
          case measure => simp [intOf]; omega
        · have hq : (c / 64 != 2) = true := by rw [bne_iff_ne]; omega
          have HC := Lib.hid hcont; clear hcont
          go_wp2
          go_ret2
          exact ⟨by rw [← HG.out, HD.out, gat, if_neg HC.out]; rfl, _, rfl⟩
      · go_wp2
        go_ret2
        exact ⟨by rw [← HG.out, List.drop_eq_nil_of_le (by have := HM.out; omega)]; simp [gat], _, rfl⟩
end Go.Proofs.YtaapbmdojkjphaaGreat
