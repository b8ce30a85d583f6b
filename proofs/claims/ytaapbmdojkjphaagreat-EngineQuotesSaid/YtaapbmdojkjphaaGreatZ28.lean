/- Texts. -/
import Derived.Test.YtaapbmdojkjphaaGreatZ15
import Derived.Test.YtaapbmdojkjphaaGreatZ20
import Derived.Test.YtaapbmdojkjphaaGreatZ21
import Derived.Test.YtaapbmdojkjphaaGreatZ22
import Derived.Test.YtaapbmdojkjphaaGreatZ23
import Derived.Test.YtaapbmdojkjphaaGreatZ27
namespace Go.Proofs.YtaapbmdojkjphaaGreat
open Go Go.RowKit
set_option linter.unusedVariables false
set_option maxRecDepth 20000
set_option maxHeartbeats 4000000 in
theorem alike_any (s t : ByteArray) (w : World) (hs : s.size ≤ 100000) (ht : t.size ≤ 100000) :
    Calls Tryz.prog 74 #[.string s, .string t] w fun e w' => e = .returned (.int .i64 (likeB s t : Nat)) ∧ Below w.heap.size w w' := by
  obtain ⟨m, hm⟩ : ∃ m : Nat, m = min s.size t.size := ⟨_, rfl⟩
  have hmin : min (s.size : Int) (t.size : Int) = (m : Int) := by omega
  have HM := Lib.hid hm
  have hm1 : (m : Int) ≤ 100000 := by omega
  obtain ⟨R, hR⟩ : ∃ R, R = likeB s t := ⟨_, rfl⟩
  rw [← hR]
  have HR := Lib.hid hR
  clear hm hR
  go_enter Tryz.func74, Tryz.ntmps74
  go_wp2_with fail
  go_loopw [5] (fun v5 wr => ∃ k : Nat, v5 = .int .i64 (k : Int) ∧ k ≤ m ∧ Hid ((∀ i, i < k → (nums s)[i]? = (nums t)[i]?) ∧ Below w.heap.size w wr)) (fun v5 _ => m - (intOf v5).toNat)
  case atStart => exact ⟨0, rfl, Nat.zero_le _, Lib.hid ⟨fun i h => absurd h (by omega), Below.refl _ _⟩⟩
  case round =>
    obtain ⟨k, rfl, hkm, H⟩ := hrel
    by_cases hlt : k < m
    · obtain ⟨x, hx, _, _, hix⟩ := nums_some (L := s) (k := k) (by have := HM.out; omega)
      obtain ⟨y, hy, _, _, hiy⟩ := nums_some (L := t) (k := k) (by have := HM.out; omega)
      have hd : decide (k < m) = true := decide_eq_true hlt
      have hki : (k : Int) < (m : Int) := by omega
      have hk0 : (0 : Int) ≤ (k : Int) := by omega
      by_cases hxy : x = y
      · subst hxy
        have HX := Lib.hid (And.intro hx (And.intro hy hlt))
        clear hx hy hlt hkm
        go_wp2_with fail
        go_quiet (fail)
        go_wp2
        refine ⟨⟨k + 1, rfl, HX.out.2.2, Lib.hid ⟨fun i hi => ?_, below_drewN H.out.2 _⟩⟩, by have := HX.out.2.2; simp [intOf]; omega⟩
        rcases Nat.lt_or_ge i k with h1 | h1
        · exact H.out.1 i h1
        · obtain rfl : i = k := by omega
          rw [HX.out.1, HX.out.2.1]
      · have hb1 : (x == y) = false := by simp [hxy]
        have HX := Lib.hid (And.intro hx (And.intro hy hlt))
        clear hx hy hlt hkm
        go_wp2_with fail
        go_quiet (fail)
        go_wp2
        go_ret
        refine ⟨?_, below_drewN H.out.2 _⟩
        have e : R = k := by
          rw [HR.out]
          refine likeL_is _ _ k (by rw [nums_length]; have := HM.out; have := HX.out.2.2; omega) (by rw [nums_length]; have := HM.out; have := HX.out.2.2; omega) H.out.1 (.inr (.inr ?_))
          rw [HX.out.1, HX.out.2.1]
          intro h; injection h with h; exact hxy h
        rw [e]; rfl
    · obtain rfl : k = m := by omega
      have hd : decide (k < k) = false := by simp
      go_wp2_with fail
      go_quiet (fail)
      go_wp2
      go_ret
      refine ⟨?_, below_drewN H.out.2 _⟩
      have e : R = k := by
        rw [HR.out]
        refine likeL_is _ _ k (by rw [nums_length]; have := HM.out; omega) (by rw [nums_length]; have := HM.out; omega) H.out.1 ?_
        rw [nums_length, nums_length]
        have := HM.out
        omega
      rw [e]; rfl
end Go.Proofs.YtaapbmdojkjphaaGreat
namespace Go.Proofs.YtaapbmdojkjphaaGreat
open Go Go.RowKit
set_option linter.unusedVariables false
set_option maxRecDepth 20000
theorem cut_to (x : ByteArray) (n : Nat) (hn : n ≤ x.size) (w : World) : (Instr.slice 9 (.string x) none (some (.int .i64 (n : Int))) none).run Tryz.prog w = .ok (.string (x.extract 0 n)) w := by
  have := run_slice_string_h (P := Tryz.prog) w 9 x Tryz.underlying9 .i64 (n : Int) (by omega) (by omega)
  rwa [Int.toNat_natCast] at this
section
variable {F : Nat → Prop} {w0 : World} {D : Option Addr} {nk ck : Nat} {K : Wood}
set_option maxHeartbeats 8000000 in
theorem alts_any (h : KidsC F w0 D nk K) (hnk : nk ≤ 100000) (hsz : ∀ p ∈ prefs K, p.1.size ≤ 200) (w : World) (hb : Below w0.heap.size w0 w) :
    Calls Tryz.prog 43 #[.slice D nk ck] w fun e w' => e = .returned (.tuple #[.string (altP (prefs K)).1, .bool (altP (prefs K)).2]) ∧ Below w.heap.size w w' := by
  have HK := Lib.hid h
  obtain ⟨P, hP⟩ : ∃ P, P = prefs K := ⟨_, rfl⟩
  have HP := Lib.hid (And.intro hP (And.intro (show P.length = nk by rw [hP, prefs_len, h.1.1]) (show ∀ p ∈ P, p.1.size ≤ 200 by rw [hP]; exact hsz)))
  obtain ⟨R, hR⟩ : ∃ R, R = altP P := ⟨_, rfl⟩
  rw [← hP, ← hR]
  have HR := Lib.hid hR
  have HB := Lib.hid hb
  have hnki : (nk : Int) ≤ 100000 := by omega
  clear h hsz hb hP hR
  go_enter Tryz.func43, Tryz.ntmps43
  go_wp2_with fail
  go_loopw [4, 5, 13] (fun v4 v5 v13 wr => ∃ (k : Nat) (x : ByteArray) (b : Bool), v4 = .string x ∧ v5 = .bool b ∧ v13 = .int .i64 (k : Int) ∧ k ≤ nk ∧ Hid (x.size ≤ 200 ∧ (k = 0 → x = ByteArray.empty ∧ b = true) ∧ (0 < k → altG (x, b) (P.drop k) = R) ∧ Below w.heap.size w wr)) (fun _ _ v13 _ => nk - (intOf v13).toNat)
  case atStart => exact ⟨0, ByteArray.empty, true, rfl, rfl, rfl, Nat.zero_le _, Lib.hid ⟨by simp, fun _ => ⟨rfl, rfl⟩, fun h => absurd h (by omega), Below.refl _ _⟩⟩
  case round =>
    obtain ⟨k, x, b, rfl, rfl, rfl, hkn, H⟩ := hrel
    by_cases hlt : k < nk
    · obtain ⟨⟨s, just⟩, hp⟩ : ∃ p, P[k]? = some p := ⟨_, List.getElem?_eq_getElem (by rw [HP.out.2.1]; exact hlt)⟩
      have hdr : P.drop k = (s, just) :: P.drop (k + 1) := by
        rw [List.drop_eq_getElem_cons (by rw [HP.out.2.1]; exact hlt)]
        congr 1
        exact Option.some.inj ((List.getElem?_eq_getElem _).symm.trans hp)
      have hs2 : s.size ≤ 200 := HP.out.2.2 _ (List.mem_of_getElem? hp)
      have hbr : Below w0.heap.size w0 wr := HB.out.trans (H.out.2.2.2.mono HB.out.size)
      obtain ⟨bk, o, op, st, mn, mx, k', A', D', ns, cs, nk', ck', rfl, hbl, e, c0, c1, c2, c3, c4, hin⟩ := HK.out.1.kid hlt
      have hpr := HK.out.2 k hlt _ hin (wr.alloc (.cells #[.int .i64 op, .slice A' ns cs, .int .i64 mn, .int .i64 mx, .slice D' nk' ck'] 27)) (hbr.alloc hbr.size _)
      rw [← HP.out.1, hp, Option.getD_some] at hpr
      have HPr := Lib.hid hpr
      have up : ∀ i v, w0.cell? ⟨bk, i, none⟩ = some v → wr.cell? ⟨bk, i, none⟩ = some v := fun i v hv => (hbr.cell (p := ⟨bk, i, none⟩) hbl).trans hv
      have d0 := up _ _ c0
      have d1 := up _ _ c1
      have d2 := up _ _ c2
      have d3 := up _ _ c3
      have d4 := up _ _ c4
      have hki : (k : Int) < (nk : Int) := by omega
      have hk0 : (0 : Int) ≤ (k : Int) := by omega
      obtain ⟨y, hy⟩ : ∃ y : ByteArray, y = if k = 0 then s else x := ⟨_, rfl⟩
      have hstep : altG (y, b) ((s, just) :: P.drop (k + 1)) = R := by
        rw [← hdr]
        rcases Nat.eq_zero_or_pos k with h0 | h0
        · subst h0
          obtain ⟨_, rfl⟩ := H.out.2.1 rfl
          rw [if_pos rfl] at hy
          subst hy
          rw [HR.out, List.drop_zero]
          rw [List.drop_zero] at hdr
          rw [hdr]
          rfl
        · rw [if_neg (by omega)] at hy
          subst hy
          exact H.out.2.2.1 h0
      rw [altG] at hstep
      obtain ⟨n, hn⟩ : ∃ n, n = likeB y s := ⟨_, rfl⟩
      have hy2 : y.size ≤ 200 := by rw [hy]; by_cases h0 : k = 0 <;> simp [h0, hs2, H.out.1]
      have hle := likeB_le y s
      have hA := fun W => alike_any y s W (by omega) (by omega)
      dsimp only at hstep
      rw [← hn] at hstep hle hA
      obtain ⟨q1, hq1⟩ : ∃ q, q = (n == y.size) := ⟨_, rfl⟩
      obtain ⟨q2, hq2⟩ : ∃ q, q = (n == s.size) := ⟨_, rfl⟩
      have hc1 : ((n : Int) == (y.size : Int)) = q1 := by rw [hq1, Bool.eq_iff_iff]; simp; omega
      have hc2 : ((n : Int) == (s.size : Int)) = q2 := by rw [hq2, Bool.eq_iff_iff]; simp; omega
      rw [← hq1, ← hq2] at hstep
      have hcut := cut_to y n hle.1
      obtain ⟨z, hz⟩ : ∃ z, z = y.extract 0 n := ⟨_, rfl⟩
      rw [← hz] at hstep hcut
      have hz2 : z.size ≤ 200 := by rw [hz]; simp only [ByteArray.size_extract]; omega
      have HA := Lib.hid hA
      have HX := Lib.hid (And.intro hstep (And.intro hz2 hlt))
      have hni : (n : Int) ≤ 200 := by omega
      have hcs : (b = false) ∨ (b = true ∧ just = false) ∨ (b = true ∧ just = true ∧ q1 = false) ∨ (b = true ∧ just = true ∧ q1 = true ∧ q2 = false) ∨ (b = true ∧ just = true ∧ q1 = true ∧ q2 = true) := by
        cases b <;> cases just <;> cases q1 <;> cases q2 <;> simp
      clear hdr hp hs2 e c0 c1 c2 c3 c4 hin up hpr hstep hn hle hA hq1 hq2 hz hz2 hkn hlt
      rcases Nat.eq_zero_or_pos k with h0 | h0
      · have hkz : ((k : Int) == 0) = true := by simp; omega
        rw [if_pos h0] at hy
        subst hy
        obtain ⟨_, rfl⟩ := H.out.2.1 h0
        have H0 := Lib.hid h0
        have hqq := hc1.symm.trans hc2
        subst hqq
        clear h0 hc2 hcs
        rcases (show just = false ∨ (just = true ∧ q1 = false) ∨ (just = true ∧ q1 = true) by cases just <;> cases q1 <;> simp) with rfl | ⟨rfl, rfl⟩ | ⟨rfl, rfl⟩
        all_goals
          go_wp2_with (first
            | (go_at_call 21; (with_reducible refine HPr.out.mono ?_); rintro e w1 ⟨rfl, hb1⟩; have H1 := Lib.hid hb1; clear hb1)
            | (go_at_call 74; (with_reducible refine (HA.out _).mono ?_); rintro e w2 ⟨rfl, hb2⟩; have H2 := Lib.hid hb2; clear hb2))
          refine ⟨⟨k + 1, z, _, rfl, rfl, rfl, HX.out.2.2, Lib.hid ⟨HX.out.2.1, fun h => absurd h (by omega), fun _ => ?_, ?_⟩⟩, by have := HX.out.2.2; simp [intOf]; omega⟩
          · have := HX.out.1
            simpa using this
          · exact (H.out.2.2.2.alloc H.out.2.2.2.size _).trans ((H1.out.mono (Nat.le_trans H.out.2.2.2.size (by simp))).trans (H2.out.mono (Nat.le_trans (Nat.le_trans H.out.2.2.2.size (by simp)) H1.out.size)))
      · have hkz : ((k : Int) == 0) = false := by simp; omega
        rw [if_neg (by omega)] at hy
        subst hy
        clear h0
        rcases hcs with rfl | ⟨rfl, rfl⟩ | ⟨rfl, rfl, rfl⟩ | ⟨rfl, rfl, rfl, rfl⟩ | ⟨rfl, rfl, rfl, rfl⟩
        all_goals
          go_wp2_with (first
            | (go_at_call 21; (with_reducible refine HPr.out.mono ?_); rintro e w1 ⟨rfl, hb1⟩; have H1 := Lib.hid hb1; clear hb1)
            | (go_at_call 74; (with_reducible refine (HA.out _).mono ?_); rintro e w2 ⟨rfl, hb2⟩; have H2 := Lib.hid hb2; clear hb2))
          refine ⟨⟨k + 1, z, _, rfl, rfl, rfl, HX.out.2.2, Lib.hid ⟨HX.out.2.1, fun h => absurd h (by omega), fun _ => ?_, ?_⟩⟩, by have := HX.out.2.2; simp [intOf]; omega⟩
          · have := HX.out.1
            simpa using this
          · exact (H.out.2.2.2.alloc H.out.2.2.2.size _).trans ((H1.out.mono (Nat.le_trans H.out.2.2.2.size (by simp))).trans (H2.out.mono (Nat.le_trans (Nat.le_trans H.out.2.2.2.size (by simp)) H1.out.size)))
    · obtain rfl : k = nk := by omega
      have hRe : R = (x, b) := by
        rcases Nat.eq_zero_or_pos k with h0 | h0
        · obtain ⟨rfl, rfl⟩ := H.out.2.1 h0
          have := HP.out.2.1
          have hn : P = [] := List.eq_nil_of_length_eq_zero (by omega)
          rw [HR.out, hn]
          rfl
        · have := H.out.2.2.1 h0
          rw [List.drop_of_length_le (by rw [HP.out.2.1]; exact Nat.le_refl _)] at this
          exact this.symm
      have HRe := Lib.hid hRe
      clear hRe
      go_wp2
      go_ret2
      exact ⟨by rw [HRe.out]; rfl, H.out.2.2.2⟩
end
end Go.Proofs.YtaapbmdojkjphaaGreat
namespace Go.Proofs.YtaapbmdojkjphaaGreat
open Go Go.RowKit
set_option linter.unusedVariables false
set_option maxRecDepth 20000
theorem ofs1_any (g h : Nat) (s : ByteArray) (b : Bool) (j : Int) (w : World) (hg : w.cell? ⟨g, 0, none⟩ = some (.string s)) (hh : w.cell? ⟨h, 0, none⟩ = some (.bool b)) :
    Calls Tryz.prog 75 #[.int .i64 j, .pointer (some ⟨g, 0, none⟩), .pointer (some ⟨h, 0, none⟩)] w fun e w' => e = .returned (.tuple #[.string s, .bool b]) ∧ Below w.heap.size w w' := by
  go_enter Tryz.func75, Tryz.ntmps75
  go_wp2_with fail
  go_quiet (fail)
  go_wp2
  go_ret2
  exact ⟨rfl, below_drewN (Below.refl _ _) _⟩
section
variable {F : Nat → Prop} {w0 : World} {D : Option Addr} {nk ck : Nat} {K : Wood}
set_option maxHeartbeats 8000000 in
theorem poften_any (h : KidsC F w0 D nk K) (hnk : nk ≤ 100000) (hsz : ∀ p ∈ prefs K, p.1.size ≤ 200) (op : Int) (A : Option Addr) (ns cs : Nat) (mn mx : Int) (hm : 0 ≤ mn) (hm2 : mn ≤ 1000000) (w : World) (hb : Below w0.heap.size w0 w) :
    Calls Tryz.prog 44 #[.agg #[.int .i64 op, .slice A ns cs, .int .i64 mn, .int .i64 mx, .slice D nk ck]] w fun e w' => e = .returned (.tuple #[.string (repP mn mx (prefs K)).1, .bool (repP mn mx (prefs K)).2]) ∧ Below w.heap.size w w' := by
  have hb1 : Below w.heap.size w (w.alloc (.cells #[.int .i64 op, .slice A ns cs, .int .i64 mn, .int .i64 mx, .slice D nk ck] 27)) := (Below.refl _ _).alloc (Nat.le_refl _) _
  have hT := ptogether_any (ck := ck) h hnk hsz (w.alloc (.cells #[.int .i64 op, .slice A ns cs, .int .i64 mn, .int .i64 mx, .slice D nk ck] 27)) (hb.trans (hb1.mono hb.size))
  unfold repP
  have hk2 : (rowP ByteArray.empty (prefs K)).1.size ≤ 200 := rowP_size _ _ (by simp)
  obtain ⟨⟨s, b⟩, hkp⟩ : ∃ p, p = rowP ByteArray.empty (prefs K) := ⟨_, rfl⟩
  rw [← hkp] at hT hk2 ⊢
  obtain ⟨n, hn⟩ : ∃ n : Nat, min mn 201 = (n : Int) := Int.eq_ofNat_of_zero_le (by omega)
  rw [hn, Int.toNat_natCast]
  have hn2 : n ≤ 201 := by omega
  obtain ⟨⟨r, q⟩, hR⟩ : ∃ p, p = rowP ByteArray.empty (List.replicate n ((s, b) : Pre)) := ⟨_, rfl⟩
  rw [← hR]
  dsimp only at hT hk2 ⊢
  have HR := Lib.hid (fun (g h : Nat) (w : World) (hc : ∀ w', Below w.heap.size w w' → w'.cell? ⟨g, 0, none⟩ = some (.string s) ∧ w'.cell? ⟨h, 0, none⟩ = some (.bool b)) => row_times g h n (List.replicate n ((s, b) : Pre)) (by simp) (fun p hp => by rw [List.eq_of_mem_replicate hp]; exact hk2) (by omega) w (fun j p hp w' hw' => by
    have := List.eq_of_mem_replicate (List.mem_of_getElem? hp)
    subst this
    exact ofs1_any g h s b _ w' (hc w' hw').1 (hc w' hw').2))
  rw [← hR] at HR
  dsimp only at HR
  have HT := Lib.hid hT
  have HB := Lib.hid hb1
  obtain ⟨v, hv⟩ : ∃ v, v = (mx == max mn 0) := ⟨_, rfl⟩
  have hmax : max mn 0 = mn := by omega
  have hv2 : (mx == mn) = v := by rw [hv, hmax]
  rw [← hv]
  have HMn := Lib.hid (And.intro hm hm2)
  clear hT hb1 h hsz hb hkp hk2 hR hv hm hm2
  go_enter Tryz.func44, Tryz.ntmps44
  go_wp2_with (go_at_call 42; (with_reducible refine HT.out.mono ?_); rintro e w1 ⟨rfl, hb1⟩; have hbx := (hb1.block w.heap.size (by simp)).trans (heap_alloc_new w _); obtain ⟨y0, y1, y2, y3, y4, yf⟩ := box_facts hbx; have hw1 : w.heap.size < w1.heap.size := Nat.lt_of_lt_of_le (by simp) hb1.size; have H1 := Lib.hid (And.intro hb1 hbx); clear hb1 hbx)
  obtain ⟨W2, hW2⟩ : ∃ W2, W2 = (w1.alloc (.cells #[.string s] 9)).alloc (.cells #[.bool b] 4) := ⟨_, rfl⟩
  have hb2 : Below w1.heap.size w1 W2 := by rw [hW2]; exact ((Below.refl _ w1).alloc (Nat.le_refl _) _).alloc (by simp) _
  have z2 : W2.heap.size = w1.heap.size + 2 := by rw [hW2]; simp
  have e4 : W2.heap[w1.heap.size]? = some (.cells #[.string s] 9 (0, 0)) := by rw [hW2]; exact at_up (at_new w1 _ rfl) _
  have e5 : W2.heap[w1.heap.size + 1]? = some (.cells #[.bool b] 4 (0, 0)) := by rw [hW2]; exact at_new _ _ (by simp)
  rw [← hW2]
  refine (HR.out w1.heap.size (w1.heap.size + 1) W2 (fun w' hw' => ⟨cell_of_row w' w1.heap.size 0 _ _ (0, 0) ((hw'.block _ (by omega)).trans e4), cell_of_row w' (w1.heap.size + 1) 0 _ _ (0, 0) ((hw'.block _ (by omega)).trans e5)⟩)).mono ?_
  rintro e w3 ⟨rfl, hb3⟩
  have hbx3 := (hb3.block w.heap.size (by omega)).trans ((hb2.block w.heap.size hw1).trans H1.out.2)
  have g5 := cell_of_row w3 (w1.heap.size + 1) 0 _ _ (0, 0) ((hb3.block _ (by omega)).trans e5)
  obtain ⟨y0, y1, y2, y3, y4, yf⟩ := box_facts hbx3
  have HZ := Lib.hid (And.intro hb2 (And.intro hb3 z2))
  clear e4 e5 hbx3 hb2 hb3 z2 hW2 hw1
  rcases b with _ | _ <;> rcases q with _ | _
  all_goals
    go_wp2_with fail
    go_quiet (fail)
    go_wp2
    go_ret2
    refine ⟨by simp, below_drewN ?_ _⟩
    exact (HB.out.trans (H1.out.1.mono (by simp))).trans ((HZ.out.1.mono (Nat.le_trans (by simp) H1.out.1.size |> Nat.le_of_succ_le)).trans (HZ.out.2.1.mono (by have := HZ.out.2.2; have := H1.out.1.size; simp at this; omega)))
end
end Go.Proofs.YtaapbmdojkjphaaGreat
namespace Go.Proofs.YtaapbmdojkjphaaGreat
open Go Go.RowKit
set_option linter.unusedVariables false
set_option maxRecDepth 20000
def PreOk : Wood → Prop
  | .nil => True
  | .cons op s mn mx k x => (Canon s ∧ s.length ≤ 2000000 ∧ 0 ≤ mn ∧ mn ≤ 1000000 ∧ k.len ≤ 100000) ∧ PreOk k ∧ PreOk x
theorem PreOk.nth : ∀ {T : Wood} {j : Nat}, PreOk T → PreOk (T.nth j)
  | .nil, _, _ => trivial
  | .cons op s mn mx k x, 0, h => ⟨h.1, h.2.1, trivial⟩
  | .cons op s mn mx k x, j + 1, h => PreOk.nth (T := x) h.2.2
set_option maxHeartbeats 8000000 in
theorem prefix_any : ∀ (N : Nat) (T : Wood), heavy T ≤ N → PreOk T → ∀ (F : Nat → Prop) (v : Value) (w0 : World), NodeIn F w0 v T → PreC w0 v ((prefs T)[0]?.getD (ByteArray.empty, false)) := by
  intro N
  induction N with
  | zero =>
    intro T hT _ F v w0 hin
    obtain ⟨op, s, mn, mx, k, A, D, ns, cs, nk, ck, rfl, _⟩ := hin
    simp only [heavy] at hT
    omega
  | succ N ih =>
    intro T hT hok F v w0 hin w hb
    obtain ⟨op, s, mn, mx, k, A, D, ns, cs, nk, ck, rfl, rfl, hr, hk⟩ := hin
    obtain ⟨⟨hcan, hsl, hm0, hm1, hkl⟩, hkok, _⟩ := hok
    have hKC : KidsC F w0 D nk k := ⟨hk, fun j hj v hv => by
      have hj2 : j < k.len := by rw [hk.1]; exact hj
      have h1 := ih (k.nth j) (by have := heavy_nth k j hj2; simp only [heavy] at hT; omega) hkok.nth F v w0 hv
      rw [prefs_nth k j hj2] at h1
      simpa using h1⟩
    have hnk : nk ≤ 100000 := by have := hk.1; omega
    have hsz := prefs_size k
    have hb1 : Below w.heap.size w (w.alloc (.cells #[.int .i64 op, .slice A ns cs, .int .i64 mn, .int .i64 mx, .slice D nk ck] 27)) := (Below.refl _ _).alloc (Nat.le_refl _) _
    have hb2 := hb.trans (hb1.mono hb.size)
    have HB := Lib.hid hb1
    have hns : ns ≤ 2000000 := by have := hr.1.1.1; omega
    show Calls _ _ _ _ _
    simp only [prefs, List.getElem?_cons_zero, Option.getD_some]
    unfold nodeP
    by_cases h0 : op = 0
    · subst h0
      rw [if_pos rfl]
      go_enter Tryz.func21, Tryz.ntmps21
      go_wp2
      go_ret2
      exact ⟨rfl, HB.out⟩
    by_cases h1 : op = 1
    · subst h1
      rw [if_neg h0, if_pos rfl]
      have HC := Lib.hid (pchar_any s A ns cs _ (hr.1.1.below hb2 (Nat.le_refl _)) hcan hns)
      clear hKC hr hk hcan hsl hm0 hm1 hkl hkok ih hT
      go_enter Tryz.func21, Tryz.ntmps21
      go_wp2_with (go_at_call 41; (with_reducible refine HC.out.mono ?_); rintro e w1 ⟨rfl, hbc⟩; have H1 := Lib.hid hbc; clear hbc)
      go_ret2
      exact ⟨rfl, HB.out.trans (H1.out.mono HB.out.size)⟩
    by_cases h4 : op = 4
    · subst h4
      rw [if_neg h0, if_neg h1, if_pos rfl]
      have HC := Lib.hid (ptogether_any (ck := ck) hKC hnk hsz _ hb2)
      clear hKC hr hk hcan hsl hm0 hm1 hkl hkok ih hT
      go_enter Tryz.func21, Tryz.ntmps21
      go_wp2_with (go_at_call 42; (with_reducible refine HC.out.mono ?_); rintro e w1 ⟨rfl, hbc⟩; have H1 := Lib.hid hbc; clear hbc)
      go_ret2
      exact ⟨rfl, HB.out.trans (H1.out.mono HB.out.size)⟩
    by_cases h5 : op = 5
    · subst h5
      rw [if_neg h0, if_neg h1, if_neg h4, if_pos rfl]
      have HC := Lib.hid (alts_any (ck := ck) hKC hnk hsz _ hb2)
      clear hKC hr hk hcan hsl hm0 hm1 hkl hkok ih hT
      go_enter Tryz.func21, Tryz.ntmps21
      go_wp2_with (go_at_call 43; (with_reducible refine HC.out.mono ?_); rintro e w1 ⟨rfl, hbc⟩; have H1 := Lib.hid hbc; clear hbc)
      go_ret2
      exact ⟨rfl, HB.out.trans (H1.out.mono HB.out.size)⟩
    by_cases h6 : op = 6
    · subst h6
      rw [if_neg h0, if_neg h1, if_neg h4, if_neg h5, if_pos rfl]
      have HC := Lib.hid (poften_any (ck := ck) hKC hnk hsz 6 A ns cs mn mx hm0 hm1 _ hb2)
      clear hKC hr hk hcan hsl hm0 hm1 hkl hkok ih hT
      go_enter Tryz.func21, Tryz.ntmps21
      go_wp2_with (go_at_call 44; (with_reducible refine HC.out.mono ?_); rintro e w1 ⟨rfl, hbc⟩; have H1 := Lib.hid hbc; clear hbc)
      go_ret2
      exact ⟨rfl, HB.out.trans (H1.out.mono HB.out.size)⟩
    · rw [if_neg h0, if_neg h1, if_neg h4, if_neg h5, if_neg h6]
      clear hKC hr hk hcan hsl hm0 hm1 hkl hkok ih hT
      go_enter Tryz.func21, Tryz.ntmps21
      go_wp2
      go_ret2
      exact ⟨rfl, HB.out⟩
end Go.Proofs.YtaapbmdojkjphaaGreat
namespace Go.Proofs.YtaapbmdojkjphaaGreat
open Go Go.RowKit
set_option linter.unusedVariables false
set_option maxRecDepth 20000
theorem plus_pre : (prefs plusT)[0]?.getD (ByteArray.empty, false) = (⟨#[98]⟩, false) := by kernel_rfl
theorem plus_preok : PreOk plusT := by
  simp [plusT, leaf, PreOk, Canon, CanonF, Wood.len]
theorem plus_make (w : World) : Calls Tryz.prog 8 #[.string ⟨#[98, 43]⟩] w fun e w' => ∃ (x : Nat) (S : ByteArray) (i : Nat), e = .returned (.tuple #[.pointer (some ⟨x, 0, none⟩), .int .i64 0]) ∧ Below w.heap.size w w' ∧ EngC 5 plusP ⟨#[98]⟩ S false false w' x ∧ nums S = (nums ⟨#[98]⟩).take i := by
  have hPr : ∀ (F : Nat → Prop) (w1 : World) (x : NV), NodesIn F w1 [x] plusT → PreC w1 x.val (⟨#[98]⟩, false) := fun F w1 x hN => by
    have := prefix_any _ plusT (Nat.le_refl _) plus_preok _ _ _ hN.one
    rwa [plus_pre] at this
  refine (make_any (fun w => pparse_one plus_parse (by decide) w) (by decide) hPr (fun w1 x hN => plus_compile hN) w).mono ?_
  rintro e w' ⟨x, S, j, i, rfl, hb, hE, hS, hj, hw⟩
  cases j with
  | true => exact absurd (hw rfl) (by decide)
  | false => exact ⟨x, S, i, rfl, hb, hE, hS⟩
theorem ind_some {S : ByteArray} {i : Nat} (hS : nums S = (nums ⟨#[98]⟩).take i) (w : World) : Calls Tryz.prog 23 #[.string ⟨#[97, 98, 98, 97]⟩, .string S, .int .i64 0] w fun e w' => ∃ q : Nat, e = .returned (.int .i64 (q : Int)) ∧ Below w.heap.size w w' := by
  have hs : S.size ≤ 1 := by
    have h := congrArg List.length hS
    rw [nums_length, List.length_take] at h
    have : (nums ⟨#[98]⟩).length = 1 := rfl
    omega
  have p1 : Pl (nums ⟨#[97, 98, 98, 97]⟩) (nums ⟨#[98]⟩) 0 1 := by decide
  refine (index_any ⟨#[97, 98, 98, 97]⟩ S 0 0 rfl w (by decide) (by omega) (by omega)).mono ?_
  rintro e w' ⟨hb, ⟨q, _, _, rfl⟩ | ⟨h1, rfl⟩⟩
  · exact ⟨q, rfl, hb⟩
  · exact absurd (p1.begin hS) (h1 1)
set_option maxHeartbeats 4000000 in
theorem plus_found {w : World} {x : Nat} {S : ByteArray} {i : Nat} (h : EngC 5 plusP ⟨#[98]⟩ S false false w x) (hS : nums S = (nums ⟨#[98]⟩).take i) :
    Calls Tryz.prog 10 #[.pointer (some ⟨x, 0, none⟩), .string ⟨#[97, 98, 98, 97]⟩] w fun e w' => ∃ Q qc, e = .returned (.slice Q 1 qc) ∧ RowH w' Q 1 [(1, 3)] ∧ Below w.heap.size w w' := by
  have HI := Lib.hid (ind_some hS w)
  obtain ⟨A, pc0, l0, hx, hF, hc⟩ := h
  have HA := Lib.hid fun (w' : World) (hb : Below w.heap.size w w') => all_plus (pc := pc0) (hF.belowB hb) hc
  obtain ⟨z0, z1, z2, z3, z4, zf⟩ := eng_facts hx
  have HX := Lib.hid hx
  clear hx hF hc hS
  go_enter Tryz.func10, Tryz.ntmps10
  go_wp2_with (first
    | (go_at_call 23; (with_reducible refine HI.out.mono ?_); rintro e w1 ⟨k, rfl, hb⟩; have hk0 : (0 : Int) ≤ (k : Int) := Int.natCast_nonneg _; have H1 := Lib.hid hb; obtain ⟨y0, y1, y2, y3, y4, yf⟩ := eng_facts ((hb.block x (Array.getElem?_eq_some_iff.1 HX.out).1).trans HX.out); clear hb)
    | (go_at_call 26; (with_reducible refine (HA.out _ H1.out).mono ?_); rintro e w2 ⟨Q, qc, rfl, hR, hb⟩; have H2 := Lib.hid (And.intro hR (H1.out.trans (hb.mono H1.out.size))); clear hR hb))
  go_ret
  exact ⟨Q, qc, rfl, H2.out⟩
theorem quote_ex : quoteS ⟨#[97, 46, 98]⟩ = ⟨#[97, 92, 46, 98]⟩ := by kernel_rfl
set_option maxHeartbeats 8000000 in
theorem awake13_any (w : World) : Calls Tryz.prog 4 #[] w fun e w' => e = .returned (.bool true) ∧ Below w.heap.size w w' := by
  have HC := Lib.hid (plus_make w)
  have HQ := Lib.hid fun w => engQuote_any ⟨#[97, 46, 98]⟩ w (by decide)
  rw [quote_ex] at HQ
  go_enter Tryz.func4, Tryz.ntmps4
  go_wp2_with (first
    | (go_at_call 8; (with_reducible refine HC.out.mono ?_); rintro e w1 ⟨x, S, i, rfl, hb, hE, hS⟩; have H1 := Lib.hid hb; have HA := Lib.hid (plus_found hE hS); clear hb hE hS)
    | (go_at_call 10; (with_reducible refine HA.out.mono ?_); rintro e w2 ⟨Q, qc, rfl, hR, hb⟩; have H2 := Lib.hid (H1.out.trans (hb.mono H1.out.size)); have HS := Lib.hid (hsame_any [(1, 3)] Q (some ⟨w2.heap.size, 0, none⟩) 1 qc 1 (w2.alloc (.cells #[.int .i64 1, .int .i64 3] 38)) (hR.below ((Below.refl _ _).alloc (Nat.le_refl _) _)) (rowH_made rfl (heap_alloc_new w2 _)) (by decide)); clear hR hb)
    | (go_at_call 11; (with_reducible refine HS.out.mono ?_); rintro e w3 ⟨rfl, k, rfl⟩; have H3 := Lib.hid (below_drewN (H2.out.alloc H2.out.size (.cells #[.int .i64 1, .int .i64 3] 38)) k))
    | (go_at_call 5; (with_reducible refine (HQ.out _).mono ?_); rintro e w4 ⟨rfl, hb⟩; have H4 := Lib.hid (H3.out.trans (hb.mono H3.out.size)); clear hb))
  go_ret
  exact ⟨rfl, H4.out⟩
end Go.Proofs.YtaapbmdojkjphaaGreat
namespace Go.Proofs.YtaapbmdojkjphaaGreat
open Go Go.RowKit
set_option linter.unusedVariables false
set_option maxRecDepth 20000
structure EngF where
  Eng : List Int → World → Nat → Prop
  keep : ∀ {rs w w' x}, Eng rs w x → Below w.heap.size w w' → Eng rs w' x
  quote : ∀ (s : ByteArray) (w : World), s.size ≤ 90 → Calls Tryz.prog 5 #[.string s] w fun e w' => e = .returned (.string (quoteS s)) ∧ Below w.heap.size w w'
  comp : ∀ (q : ByteArray) (rs : List Int) (w : World), q.size ≤ 180 → nums q = putAll (quoteL rs) → Points rs → rs ≠ [] → rs.length ≤ 90 → Calls Tryz.prog 8 #[.string q] w fun e w' => ∃ x : Nat, e = .returned (.tuple #[.pointer (some ⟨x, 0, none⟩), .int .i64 0]) ∧ Below w.heap.size w w' ∧ Eng rs w' x
  is_ : ∀ (rs os : List Int) (t : ByteArray) (w : World) (x : Nat), Eng rs w x → Points rs → rs ≠ [] → t.size ≤ 90 → nums t = putAll os → Points os → Calls Tryz.prog 9 #[.pointer (some ⟨x, 0, none⟩), .string t] w fun e w' => ∃ b : Bool, e = .returned (.bool b) ∧ (b = true ↔ ∃ k, (os.drop k).take rs.length = rs) ∧ Below w.heap.size w w'
  all : ∀ (rs : List Int) (t : ByteArray) (w : World) (x : Nat), Eng rs w x → Points rs → rs ≠ [] → t.size ≤ 90 → nums t = putAll rs → Calls Tryz.prog 10 #[.pointer (some ⟨x, 0, none⟩), .string t] w fun e w' => ∃ P q pc l, e = .returned (.slice P q pc) ∧ RowH w' P q ((0, t.size) :: l) ∧ Below w.heap.size w w'
  wake : ∀ w : World, Calls Tryz.prog 4 #[] w fun e w' => e = .returned (.bool true) ∧ Below w.heap.size w w'
theorem op_leafs {rs : List Int} (h : rs ≠ []) : ∃ op s mn mx k, finN .nil (leafs rs) = .cons op s mn mx k .nil ∧ op ≠ 0 := by
  rw [fin_letters rs h]
  by_cases h1 : rs.length = 1
  · match rs, h1 with
    | [c], _ => exact ⟨1, _, _, _, _, rfl, by decide⟩
  · rw [if_neg h1]
    exact ⟨4, _, _, _, _, rfl, by decide⟩
theorem quote_some {s : ByteArray} (h : ¬ quoteS s = ByteArray.empty) : ∃ rs, pointsL (nums s) = some rs ∧ nums s = putAll rs ∧ Points rs ∧ rs ≠ [] ∧ rs.length ≤ s.size ∧ nums (quoteS s) = putAll (quoteL rs) ∧ (quoteS s).size ≤ 2 * s.size := by
  cases hp : pointsL (nums s) with
  | none => exact absurd (by unfold quoteS; rw [hp]) h
  | some rs =>
    obtain ⟨h1, h2⟩ := points_back _ _ rs (Nat.le_refl _) (nums_byte s) hp
    have hq : quoteS s = strOfNums (putAll (quoteL rs)) := by unfold quoteS; rw [hp]
    have hl := putAll_len rs
    have hn := nums_length s
    rw [h1] at hn
    refine ⟨rs, rfl, h1, h2, fun e => h (by rw [hq, e]; rfl), by omega, ?_, ?_⟩
    · rw [hq, nums_strOfNums _ (putAll_byte _ (quoteL_points h2))]
    · rw [hq, strN_size]
      have := quoteL_oct rs
      omega
theorem rparse_q {Q : ByteArray} {rs : List Int} (hP : Points rs) (h0 : rs ≠ []) (hq : nums Q = putAll (quoteL rs)) (hs : Q.size ≤ 200) (w : World) : Calls Tryz.prog 7 #[.string Q] w fun e w' => ∃ x : NV, e = .returned (.tuple #[x.val, .int .i64 0]) ∧ (x.op == 0) = false ∧ Below w.heap.size w w' := by
  have hp := parse_quote hP hq
  obtain ⟨op, st, mn, mx, k, e1, e2⟩ := op_leafs h0
  rw [e1] at hp
  refine (rparse_any Q w).mono fun e w' hv => ?_
  obtain ⟨hb, ⟨h1, _⟩ | ⟨_, h2, _⟩ | ⟨x, n, h1, h2, he, hN⟩⟩ := hv
  · omega
  · rw [hp] at h2; cases h2
  · rw [hp] at h2
    injection h2 with h2
    subst h2
    exact ⟨x, he, by have := hN.1.1; simp [this, e2], hb⟩
set_option maxHeartbeats 8000000 in
theorem quotes_any (E : EngF) (hQ : ∀ (s : ByteArray) (w : World), s.size ≤ 1000 → Calls Tryz.prog 6 #[.string s] w fun e w' => e = .returned (.string (quoteS s)) ∧ Below w.heap.size w w') (s t : ByteArray) (w : World) :
    Calls Tryz.prog 3 #[.string s, .string t] w fun e w' => e = .returned (.bool true) ∧ Below w.heap.size w w' := by
  have HA := Lib.hid E.wake
  by_cases hs : (s.size : Int) > 90
  · go_enter Tryz.func3, Tryz.ntmps3
    go_wp2_with (first
      | (go_at_call 4; (with_reducible refine (HA.out w1).mono ?_); rintro e w2 ⟨rfl, hb⟩; have H2 := Lib.hid (H1.out.trans (hb.mono H1.out.size)); clear hb)
      | (go_at_call 4; (with_reducible refine (HA.out w).mono ?_); rintro e w1 ⟨rfl, hb⟩; have H1 := Lib.hid hb; clear hb))
    go_ret
    exact ⟨rfl, H2.out⟩
  by_cases ht : (t.size : Int) > 90
  · go_enter Tryz.func3, Tryz.ntmps3
    go_wp2_with (first
      | (go_at_call 4; (with_reducible refine (HA.out w1).mono ?_); rintro e w2 ⟨rfl, hb⟩; have H2 := Lib.hid (H1.out.trans (hb.mono H1.out.size)); clear hb)
      | (go_at_call 4; (with_reducible refine (HA.out w).mono ?_); rintro e w1 ⟨rfl, hb⟩; have H1 := Lib.hid hb; clear hb))
    go_ret
    exact ⟨rfl, H2.out⟩
  have hs9 : s.size ≤ 90 := by omega
  have ht9 : t.size ≤ 90 := by omega
  have HQs := Lib.hid (fun w => E.quote s w hs9)
  have HRs := Lib.hid (fun w => hQ s w (by omega))
  have HRt := Lib.hid (fun w => hQ t w (by omega))
  obtain ⟨Q, hQe⟩ : ∃ Q, Q = quoteS s := ⟨_, rfl⟩
  rw [← hQe] at HQs HRs
  by_cases h0 : Q = ByteArray.empty
  · have hl : Q.toList = [] := by rw [h0, ByteArray.toList_eq]; rfl
    have hl2 : Q.toList.isEmpty = true := by rw [hl]; rfl
    clear hQ hQe h0 hs9 ht9
    go_enter Tryz.func3, Tryz.ntmps3
    go_wp2_with (first
      | (go_at_call 4; (with_reducible refine (HA.out w).mono ?_); rintro e w1 ⟨rfl, hb⟩; have H1 := Lib.hid hb; clear hb)
      | (go_at_call 5; (with_reducible refine (HQs.out w1).mono ?_); rintro e w2 ⟨rfl, hb⟩; have H2 := Lib.hid (H1.out.trans (hb.mono H1.out.size)); clear hb)
      | (go_at_call 6; (with_reducible refine (HRs.out w2).mono ?_); rintro e w3 ⟨rfl, hb⟩; have H3 := Lib.hid (H2.out.trans (hb.mono H2.out.size)); clear hb))
    go_ret
    exact ⟨rfl, H3.out⟩
  · have hqs : ∃ rs, nums s = putAll rs ∧ Points rs ∧ rs ≠ [] ∧ rs.length ≤ 90 ∧ nums Q = putAll (quoteL rs) ∧ Q.size ≤ 180 := by
      rw [hQe] at h0
      obtain ⟨rs, _, h1, h2, h3, h4, h5, h6⟩ := quote_some h0
      rw [← hQe] at h5 h6
      exact ⟨rs, h1, h2, h3, by omega, h5, by omega⟩
    obtain ⟨rs, hnum, hP, hne, hrl, hqn, hq180⟩ := hqs
    have hl : ¬ Q.toList = [] := fun e => h0 (by
      rw [ByteArray.toList_eq] at e
      exact ByteArray.ext (Array.toList_inj.1 e))
    have hl2 : Q.toList.isEmpty = false := by
      cases hc : Q.toList with
      | nil => exact absurd hc hl
      | cons _ _ => rfl
    have hs0 : 0 < s.size := by
      have h1 := putAll_len rs
      have h2 := nums_length s
      rw [hnum] at h2
      have h3 : 0 < rs.length := List.length_pos_iff.2 hne
      omega
    have HPa := Lib.hid (fun w => rparse_q hP hne hqn (by omega) w)
    have HC := Lib.hid (fun w => E.comp Q rs w hq180 hqn hP hne hrl)
    have HAl := Lib.hid (fun w x h => E.all rs s w x h hP hne hs9 hnum)
    obtain ⟨U, hU⟩ : ∃ U, U = quoteS t := ⟨_, rfl⟩
    rw [← hU] at HRt
    have HIs : Hid (¬ U = ByteArray.empty → t.size = s.size → ∀ (w : World) (x : Nat), E.Eng rs w x → Calls Tryz.prog 9 #[.pointer (some ⟨x, 0, none⟩), .string t] w fun e w' => e = .returned (.bool (t.toList == s.toList)) ∧ Below w.heap.size w w') := Lib.hid fun hu hts w x hE => by
      rw [hU] at hu
      obtain ⟨os, _, h1, h2, h3, _⟩ := quote_some hu
      refine (E.is_ rs os t w x hE hP hne ht9 h1 h2).mono ?_
      rintro e w' ⟨b, rfl, hb, hbl⟩
      refine ⟨?_, hbl⟩
      congr 2
      rw [eq_nums, Bool.eq_iff_iff, hb, decide_eq_true_iff, h1, hnum]
      have hl1 := nums_length t
      have hl2 := nums_length s
      rw [h1] at hl1
      rw [hnum] at hl2
      constructor
      · rintro ⟨k, hk⟩
        rw [inside_all (by omega) hk]
      · intro he
        refine ⟨0, ?_⟩
        have h4 := points_put os h2
        rw [he, points_put rs hP] at h4
        injection h4 with h4
        rw [← h4, List.drop_zero, List.take_length]
    have HE := Lib.hid (fun (w w' : World) (x : Nat) (h : E.Eng rs w x) (hb : Below w.heap.size w w') => E.keep h hb)
    have hsi : (0 : Int) < (s.size : Int) := by omega
    clear hQ hQe h0 hs9 ht9 hnum hP hne hrl hqn hq180 hU hs0
    rcases (show (t.size ≠ s.size) ∨ (t.size = s.size ∧ U = ByteArray.empty) ∨ (t.size = s.size ∧ ¬ U = ByteArray.empty) by by_cases h1 : t.size = s.size <;> by_cases h2 : U = ByteArray.empty <;> simp [h1, h2]) with hc | ⟨hc, hu⟩ | ⟨hc, hu⟩
    · have hsz : ((t.size : Int) == (s.size : Int)) = false := by simp; omega
      clear hc HIs HRt
      go_enter Tryz.func3, Tryz.ntmps3
      go_wp2_with (first
        | (go_at_call 4; (with_reducible refine (HA.out w).mono ?_); rintro e w1 ⟨rfl, hb⟩; have H1 := Lib.hid hb; clear hb)
        | (go_at_call 5; (with_reducible refine (HQs.out w1).mono ?_); rintro e w2 ⟨rfl, hb⟩; have H2 := Lib.hid (H1.out.trans (hb.mono H1.out.size)); clear hb)
        | (go_at_call 7; (with_reducible refine (HPa.out w3).mono ?_); rintro e w4 ⟨y, rfl, hyo, hb⟩; have H4 := Lib.hid (H3.out.trans (hb.mono H3.out.size)); have HYO := Lib.hid hyo; have hyo2 : (y.op == 0) = false := HYO.out; clear hb hyo; simp only [NV.val])
        | (go_at_call 8; (with_reducible refine (HC.out (w4.alloc (.cells #[.int .i64 y.op, .slice y.A y.ns y.cs, .int .i64 y.mn, .int .i64 y.mx, .slice y.D y.nk y.ck] 27))).mono ?_); rintro e w5 ⟨x, rfl, hb, hE⟩; have H5 := Lib.hid ((H4.out.alloc H4.out.size (.cells #[.int .i64 y.op, .slice y.A y.ns y.cs, .int .i64 y.mn, .int .i64 y.mx, .slice y.D y.nk y.ck] 27)).trans (hb.mono (Nat.le_trans H4.out.size (by simp)))); have hbx := (hb.block w4.heap.size (by simp)).trans (heap_alloc_new w4 _); obtain ⟨y0, y1, y2, y3, y4, yf⟩ := box_facts hbx; have HX := Lib.hid hE; clear hb hE hbx)
        | (go_at_call 6; (with_reducible refine (HRs.out w2).mono ?_); rintro e w3 ⟨rfl, hb⟩; have H3 := Lib.hid (H2.out.trans (hb.mono H2.out.size)); clear hb)
        | (go_at_call 10; (with_reducible refine (HAl.out _ _ (HX.out)).mono ?_); rintro e w9 ⟨P, q, pc, l, rfl, hR, hb⟩; have H9 := Lib.hid (H5.out.trans (hb.mono H5.out.size)); obtain ⟨g, rfl, _, hcl⟩ := hR.2 (by have := hR.1; simp at this; omega); obtain ⟨l0, l1⟩ := hcl 0 _ rfl; have hq : (0 : Int) < (q : Int) := (by have := hR.1; simp at this; omega); simp only [Nat.zero_mul, Nat.zero_add] at l0 l1; clear hR hb hcl))
      go_ret
      exact ⟨rfl, H9.out⟩
    · have hsz : ((t.size : Int) == (s.size : Int)) = true := by simp; omega
      have hu1 : U.toList = [] := by rw [hu, ByteArray.toList_eq]; rfl
      have hu2 : U.toList.isEmpty = true := by rw [hu1]; rfl
      clear hc hu HIs
      go_enter Tryz.func3, Tryz.ntmps3
      go_wp2_with (first
        | (go_at_call 4; (with_reducible refine (HA.out w).mono ?_); rintro e w1 ⟨rfl, hb⟩; have H1 := Lib.hid hb; clear hb)
        | (go_at_call 5; (with_reducible refine (HQs.out w1).mono ?_); rintro e w2 ⟨rfl, hb⟩; have H2 := Lib.hid (H1.out.trans (hb.mono H1.out.size)); clear hb)
        | (go_at_call 7; (with_reducible refine (HPa.out w3).mono ?_); rintro e w4 ⟨y, rfl, hyo, hb⟩; have H4 := Lib.hid (H3.out.trans (hb.mono H3.out.size)); have HYO := Lib.hid hyo; have hyo2 : (y.op == 0) = false := HYO.out; clear hb hyo; simp only [NV.val])
        | (go_at_call 8; (with_reducible refine (HC.out (w4.alloc (.cells #[.int .i64 y.op, .slice y.A y.ns y.cs, .int .i64 y.mn, .int .i64 y.mx, .slice y.D y.nk y.ck] 27))).mono ?_); rintro e w5 ⟨x, rfl, hb, hE⟩; have H5 := Lib.hid ((H4.out.alloc H4.out.size (.cells #[.int .i64 y.op, .slice y.A y.ns y.cs, .int .i64 y.mn, .int .i64 y.mx, .slice y.D y.nk y.ck] 27)).trans (hb.mono (Nat.le_trans H4.out.size (by simp)))); have hbx := (hb.block w4.heap.size (by simp)).trans (heap_alloc_new w4 _); obtain ⟨y0, y1, y2, y3, y4, yf⟩ := box_facts hbx; have HX := Lib.hid hE; clear hb hE hbx)
        | (go_at_call 6; (with_reducible refine (HRs.out w2).mono ?_); rintro e w3 ⟨rfl, hb⟩; have H3 := Lib.hid (H2.out.trans (hb.mono H2.out.size)); clear hb)
        | (go_at_call 6; (with_reducible refine (HRt.out w5).mono ?_); rintro e w6 ⟨rfl, hb⟩; have H6 := Lib.hid (H5.out.trans (hb.mono H5.out.size)); have HX6 := Lib.hid (HE.out _ _ _ HX.out hb); clear hb)
        | (go_at_call 10; (with_reducible refine (HAl.out _ _ (HX6.out)).mono ?_); rintro e w9 ⟨P, q, pc, l, rfl, hR, hb⟩; have H9 := Lib.hid (H6.out.trans (hb.mono H6.out.size)); obtain ⟨g, rfl, _, hcl⟩ := hR.2 (by have := hR.1; simp at this; omega); obtain ⟨l0, l1⟩ := hcl 0 _ rfl; have hq : (0 : Int) < (q : Int) := (by have := hR.1; simp at this; omega); simp only [Nat.zero_mul, Nat.zero_add] at l0 l1; clear hR hb hcl))
      go_ret
      exact ⟨rfl, H9.out⟩
    · have hsz : ((t.size : Int) == (s.size : Int)) = true := by simp; omega
      have hu1 : ¬ U.toList = [] := fun e => hu (by
        rw [ByteArray.toList_eq] at e
        exact ByteArray.ext (Array.toList_inj.1 e))
      have hu2 : U.toList.isEmpty = false := by
        cases hc : U.toList with
        | nil => exact absurd hc hu1
        | cons _ _ => rfl
      have HI := Lib.hid (HIs.out hu hc)
      clear hc hu HIs
      go_enter Tryz.func3, Tryz.ntmps3
      go_wp2_with (first
        | (go_at_call 4; (with_reducible refine (HA.out w).mono ?_); rintro e w1 ⟨rfl, hb⟩; have H1 := Lib.hid hb; clear hb)
        | (go_at_call 5; (with_reducible refine (HQs.out w1).mono ?_); rintro e w2 ⟨rfl, hb⟩; have H2 := Lib.hid (H1.out.trans (hb.mono H1.out.size)); clear hb)
        | (go_at_call 7; (with_reducible refine (HPa.out w3).mono ?_); rintro e w4 ⟨y, rfl, hyo, hb⟩; have H4 := Lib.hid (H3.out.trans (hb.mono H3.out.size)); have HYO := Lib.hid hyo; have hyo2 : (y.op == 0) = false := HYO.out; clear hb hyo; simp only [NV.val])
        | (go_at_call 8; (with_reducible refine (HC.out (w4.alloc (.cells #[.int .i64 y.op, .slice y.A y.ns y.cs, .int .i64 y.mn, .int .i64 y.mx, .slice y.D y.nk y.ck] 27))).mono ?_); rintro e w5 ⟨x, rfl, hb, hE⟩; have H5 := Lib.hid ((H4.out.alloc H4.out.size (.cells #[.int .i64 y.op, .slice y.A y.ns y.cs, .int .i64 y.mn, .int .i64 y.mx, .slice y.D y.nk y.ck] 27)).trans (hb.mono (Nat.le_trans H4.out.size (by simp)))); have hbx := (hb.block w4.heap.size (by simp)).trans (heap_alloc_new w4 _); obtain ⟨y0, y1, y2, y3, y4, yf⟩ := box_facts hbx; have HX := Lib.hid hE; clear hb hE hbx)
        | (go_at_call 6; (with_reducible refine (HRs.out w2).mono ?_); rintro e w3 ⟨rfl, hb⟩; have H3 := Lib.hid (H2.out.trans (hb.mono H2.out.size)); clear hb)
        | (go_at_call 6; (with_reducible refine (HRt.out w5).mono ?_); rintro e w6 ⟨rfl, hb⟩; have H6 := Lib.hid (H5.out.trans (hb.mono H5.out.size)); have HX6 := Lib.hid (HE.out _ _ _ HX.out hb); clear hb)
        | (go_at_call 9; (with_reducible refine (HI.out w6 _ HX6.out).mono ?_); rintro e w7 ⟨rfl, hb⟩; have H7 := Lib.hid (H6.out.trans (hb.mono H6.out.size)); have HX7 := Lib.hid (HE.out _ _ _ HX6.out hb); clear hb)
        | (go_at_call 10; (with_reducible refine (HAl.out _ _ (HX7.out)).mono ?_); rintro e w9 ⟨P, q, pc, l, rfl, hR, hb⟩; have H9 := Lib.hid (H7.out.trans (hb.mono H7.out.size)); obtain ⟨g, rfl, _, hcl⟩ := hR.2 (by have := hR.1; simp at this; omega); obtain ⟨l0, l1⟩ := hcl 0 _ rfl; have hq : (0 : Int) < (q : Int) := (by have := hR.1; simp at this; omega); simp only [Nat.zero_mul, Nat.zero_add] at l0 l1; clear hR hb hcl))
      go_ret
      exact ⟨rfl, H9.out⟩
end Go.Proofs.YtaapbmdojkjphaaGreat
