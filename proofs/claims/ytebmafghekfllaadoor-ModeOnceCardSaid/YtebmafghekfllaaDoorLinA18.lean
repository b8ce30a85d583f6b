/- The document's Lines: of all hits. -/
import Derived.Test.YtebmafghekfllaaDoorLin18
namespace Go.Proofs.YtebmafghekfllaaDoor
open Go Go.RowKit
set_option linter.unusedVariables false
set_option maxRecDepth 20000
/-- One text is appended; blocks of other types stay. -/
theorem app_strK {w W5 Y : World} {A : Option Addr} {k c : Nat} {out : List ByteArray} (h : RecW W5 w.heap.size 9 1 (.slice A k c) (strs out)) (hb : Below w.heap.size w W5) (hY : Below W5.heap.size W5 Y) (s : ByteArray) (hk : k ≤ 100000) :
    ∃ A' c' w2, (Builtin.append_ #[29, 29] 29 #[.slice A k c, .slice (some ⟨Y.heap.size, 0, none⟩) 1 1]).run Tryd.prog (Y.alloc (.cells #[.string s] 9)) = .ok (.slice A' (k + 1) c') w2 ∧
      RecW w2 w.heap.size 9 1 (.slice A' (k + 1) c') (strs (out ++ [s])) ∧ Below w.heap.size w w2 ∧ ∀ (g : Nat) (cs : Array Value) (t : TypeId) (f : Nat × Nat), Y.heap[g]? = some (Obj.cells cs t f) → 9 ≠ t → w2.heap[g]? = Y.heap[g]? := by
  have hlen := rec_len h
  have hYr : RecW Y w.heap.size 9 1 (.slice A k c) (strs out) := h.keep fun k hk _ => hY.block k hk
  have hb1 : Below Y.heap.size Y (Y.alloc (.cells #[.string s] 9)) := (Below.refl _ _).alloc (Nat.le_refl _) _
  have hd1 : (Y.alloc (.cells #[.string s] 9)).heap[Y.heap.size]? = some (.cells ([.string s] : List Value).toArray 9 (0, 0)) := heap_alloc_new _ _
  have hr := hYr.keep (w' := Y.alloc (.cells #[.string s] 9)) fun k hk _ => hb1.block k hk
  have hbY := hb.trans (hY.mono hb.size)
  have hbw := hbY.trans (hb1.mono hbY.size)
  obtain ⟨V', w2, happ, hr2, hg2, -, -⟩ := hr.app 29 9 _ 1 16 Tryd.underlying29 info_str rfl (by decide) (read_one hd1 (swide _)) (c := 1) (fun h => by cases h) (by rw [hlen]; unfold maxLen; omega) (by rw [hlen]; omega) hbw.size
  obtain ⟨A', c', hV', -⟩ := hr2.slice
  rw [List.length_append, hlen, List.length_singleton] at hV'
  subst hV'
  refine ⟨A', c', w2, happ, by rw [strs_append]; exact hr2, hbw.grown hg2 hbw.size (fun k hk => (row_lt hr.1 hk).1), fun g cs t f hg hne => ?_⟩
  have h1 := at_up hg (.cells #[.string s] 9)
  rw [hg, ← h1]
  exact hg2.block g (Array.getElem?_eq_some_iff.1 h1).1 (fun e => row_ne_blk hr.1 h1 hne e.symm)
/-- A hit's line. -/
def lineH (x : Rw) (h : Int × Int) : ByteArray := itoaS x.n ++ ⟨#[58]⟩ ++ itoaS h.1 ++ ⟨#[45]⟩ ++ itoaS h.2 ++ ⟨#[58]⟩ ++ x.tx.extract h.1.toNat h.2.toNat
def linesX (x : Rw) : List ByteArray := (goodH x).map (lineH x)
def linesA (l : List Rw) : List ByteArray := l.flatMap linesX
theorem linesA_snoc {l : List Rw} {k : Nat} {x : Rw} (h : l[k]? = some x) : linesA (l.take (k + 1)) = linesA (l.take k) ++ linesX x := by
  obtain ⟨h1, h2⟩ := List.getElem?_eq_some_iff.1 h
  unfold linesA
  rw [List.take_succ_eq_append_getElem h1, h2, List.flatMap_append]
  simp
theorem good_ok {x : Rw} {h : Int × Int} (hm : h ∈ goodH x) : 0 ≤ h.1 ∧ h.1 ≤ h.2 ∧ h.2 ≤ (x.tx.size : Int) := by
  have := (List.mem_filter.1 hm).2
  unfold okH at this
  simpa [and_assoc] using this
theorem take_snocL {α : Type} {l : List α} {k : Nat} {x : α} (h : l[k]? = some x) : l.take (k + 1) = l.take k ++ [x] := by
  obtain ⟨h1, h2⟩ := List.getElem?_eq_some_iff.1 h
  rw [List.take_succ_eq_append_getElem h1, h2]
set_option maxHeartbeats 16000000 in
theorem lines0_any (A : Option Addr) (n c : Nat) (l : List Rw) (b a : Int) (fin : Bool) (w : World) (h : RowsAt w A n l) (hn : n ≤ 100) :
    Calls Tryd.prog 10 #[.int .i64 0, .int .i64 b, .int .i64 a, .slice A n c, .bool fin] w fun e w' => ∃ A2 c2, e = .returned (.tuple #[.slice A2 (linesA l).length c2, .bool false]) ∧ RecW w' w.heap.size 9 1 (.slice A2 (linesA l).length c2) (strs (linesA l)) ∧ Below w.heap.size w w' := by
  have H := Lib.hid h
  have HL := Lib.hid h.len
  clear h
  go_enter Tryd.func10, Tryd.ntmps10
  go_wp2_with fail
  go_loopw [12, 13, 14, 15] (fun vo vr va vi wr => ∃ (i k c2 r m : Nat) (A2 : Option Addr), i ≤ n ∧ k ≤ 10 * i ∧ r ≤ i ∧ m ≤ 10 * i ∧ vo = .slice A2 k c2 ∧ vr = .int .i64 (r : Int) ∧ va = .int .i64 (m : Int) ∧ vi = .int .i64 (i : Int) ∧ Hid (RecW wr w.heap.size 9 1 (.slice A2 k c2) (strs (linesA (l.take i))) ∧ Below w.heap.size w wr)) (fun _ _ _ vi _ => n - (intOf vi).toNat)
  case atStart => exact ⟨0, 0, 0, 0, 0, none, Nat.zero_le _, Nat.le_refl _, Nat.le_refl _, Nat.le_refl _, rfl, rfl, rfl, rfl, Lib.hid ⟨RecW.nil _ _ _ _, Below.refl _ _⟩⟩
  case round =>
    obtain ⟨i, k, c2, r, m, A2, hi, hk, hr, hm, rfl, rfl, rfl, rfl, HO⟩ := hrel
    have hcl := row_cells
    by_cases hlt : i < n
    · obtain ⟨x, hx⟩ : ∃ x, l[i]? = some x := ⟨_, List.getElem?_eq_getElem (by rw [HL.out]; exact hlt)⟩
      obtain ⟨bb, o, rfl, hbl, d0, d1, d2, d3⟩ := (H.out.below HO.out.2).at hx
      have hmem := H.out.2 x (List.mem_of_getElem? hx)
      have HC := Lib.hid (hits_any x wr (hmem.1.below HO.out.2) (by omega) (by omega))
      have hle : (goodH x).length ≤ 10 := by
        have h1 : (goodH x).length ≤ x.hs.length := List.length_filter_le _ _
        rw [hmem.1.len] at h1
        omega
      obtain ⟨z, hz⟩ : ∃ z, z = (goodH x).length := ⟨_, rfl⟩
      have HZ := Lib.hid hz
      have hsn := linesA_snoc hx
      rw [← hz] at HC hle
      unfold Rw.val at HC
      have HDG := Lib.hid fun (w' : World) => dig_any x.n hmem.2.2.2.1 hmem.2.2.2.2 w'
      have HBA := Lib.hid fun (w' : World) (hw : Below w.heap.size w w') => (H.out.below hw).at hx
      have hzn := itoaS_size_any x.n hmem.2.2.2.1 hmem.2.2.2.2
      have hzt := hmem.2.2.1
      have HSN := Lib.hid hsn
      have HW := Lib.hid HO.out.2
      clear hx hmem hz hsn
      by_cases hz0 : z = 0
      · subst hz0
        have HF : Hid (∀ w2, Below wr.heap.size wr w2 → RecW w2 w.heap.size 9 1 (.slice A2 k c2) (strs (linesA (l.take (i + 1)))) ∧ Below w.heap.size w w2) := Lib.hid fun w2 hw => by
          have h0 : goodH x = [] := List.eq_nil_of_length_eq_zero HZ.out.symm
          rw [HSN.out, show linesX x = [] by unfold linesX; rw [h0]; rfl, List.append_nil]
          exact ⟨HO.out.1.keep fun k hk _ => hw.block k hk, HW.out.trans (hw.mono HW.out.size)⟩
        clear HO HDG HBA hzn hzt
        go_wp2_with (go_at_call 23; (with_reducible refine HC.out.mono ?_); rintro e w2 ⟨A3, c3, rfl, -, hb2⟩; have HE := Lib.hid (HF.out w2 hb2); clear hb2)
        exact ⟨⟨i + 1, k, c2, r, m, A2, by omega, by omega, by omega, by omega, (by first | rfl | exact ⟨rfl, rfl, rfl⟩), rfl, rfl, by go_num, HE⟩, by simp [intOf]; omega⟩
      · have hzp : 0 < z := by omega
        have hzne : ¬ (z : Int) = 0 := by omega
        obtain ⟨s, hs⟩ : ∃ s, s = itoaS x.n := ⟨_, rfl⟩
        have HS := Lib.hid hs
        rw [← hs] at HDG hzn
        clear hs
        go_wp2_with (go_at_call 23; (with_reducible refine HC.out.mono ?_); rintro e w2 ⟨A3, c3, rfl, hr3, hb2⟩; have HB2 := Lib.hid hb2; have HR3 := Lib.hid hr3; clear hb2 hr3 d0 d1 d2 d3; obtain ⟨b9, o9, e9, _, g0, _⟩ := HBA.out _ (HW.out.trans (HB2.out.mono HW.out.size)); injection e9 with e9; injection e9 with e9 e10 _; subst e9; subst e10)
        (with_reducible refine (HDG.out _).mono ?_); rintro e w3 ⟨rfl, hb3⟩
        have hb23 : Below w2.heap.size w2 w3 := hb3
        have HB3 := Lib.hid hb23
        clear hb3 hb23 g0
        have HI : Hid (∃ hbk, A3 = some ⟨hbk, 0, none⟩ ∧ hbk < w2.heap.size ∧ (∀ (w' : World), w'.heap[hbk]? = w2.heap[hbk]? → ∀ j p, (goodH x)[j]? = some p → w'.cell? ⟨hbk, j * 2, none⟩ = some (.int .i64 p.1) ∧ w'.cell? ⟨hbk, j * 2 + 1, none⟩ = some (.int .i64 p.2)) ∧ (∃ cs f, w2.heap[hbk]? = some (.cells cs 42 f)) ∧ RecW w3 w.heap.size 9 1 (.slice A2 k c2) (strs (linesA (l.take i))) ∧ Below w.heap.size w w3 ∧ w3.heap[hbk]? = w2.heap[hbk]?) := Lib.hid (by
          rcases HR3.out.1.2 with ⟨_, h0⟩ | ⟨hbk, cap, cur, e1, hB, hg, _⟩
          · rw [List.length_map, ← HZ.out] at h0; omega
          · injection e1 with e1 _ _
            subst e1
            have hlt2 : hbk < w2.heap.size := (Array.getElem?_eq_some_iff.1 hg).1
            have hw2 := HW.out.trans (HB2.out.mono HW.out.size)
            refine ⟨hbk, rfl, hlt2, fun w' hw' j p hp => ?_, ⟨cur, _, hg⟩, ?_, hw2.trans (HB3.out.mono hw2.size), HB3.out.block hbk hlt2⟩
            · have hr' : RecW w' wr.heap.size 42 2 (.slice (some ⟨hbk, 0, none⟩) z c3) ((goodH x).map hcells) := HR3.out.keep fun q _ e => by injection e with e; rw [← e]; exact hw'
              obtain ⟨b', c', e2, _, _, hc⟩ := hr'.at (j := j) (x := hcells p) (by simp [hp])
              injection e2 with e2
              injection e2 with e2
              injection e2 with e2
              subst e2
              exact ⟨hc 0 _ rfl, hc 1 _ rfl⟩
            · exact (HO.out.1.keep fun q hq _ => HB2.out.block q hq).keep fun q hq _ => HB3.out.block q hq)
        obtain ⟨hbk, hA3, hbl2, hcells', ⟨cs, fz, hcs⟩, hrec, hbel, hkp⟩ := HI.out
        subst hA3
        have HCE := Lib.hid hcells'
        have HCS := Lib.hid hcs
        have HST := Lib.hid (And.intro hrec (And.intro hbel hkp))
        have HBL2 := Lib.hid hbl2
        clear HI hcells' hcs hrec hbel hkp HO HB2 HB3 HR3 hbl hbl2
        have HWS := Lib.hid fun (w' : World) (hw : Below w.heap.size w w') => (by
          obtain ⟨b9, o9, e9, _, _, _, q2, _⟩ := HBA.out w' hw
          injection e9 with e9
          injection e9 with e9 e10 _
          subst e9; subst e10
          exact q2 : w'.cell? ⟨bb, o + i * 4 + 2, none⟩ = some (.string x.tx))
        have HDX := Lib.hid fun (p : Int) (h0 : 0 ≤ p) (h1 : p ≤ 60) (w' : World) => dig_any p (by omega) (by omega) w'
        go_wp2_with fail
        go_loopw [12, 18] (fun vo vj wt => ∃ (j k2 c4 : Nat) (A4 : Option Addr), j ≤ z ∧ k2 = k + j ∧ vo = .slice A4 k2 c4 ∧ vj = .int .i64 (j : Int) ∧ Hid (RecW wt w.heap.size 9 1 (.slice A4 k2 c4) (strs (linesA (l.take i) ++ (linesX x).take j)) ∧ Below w.heap.size w wt ∧ wt.heap[hbk]? = w2.heap[hbk]?)) (fun _ vj _ => z - (intOf vj).toNat)
        case atStart => exact ⟨0, k, c2, A2, Nat.zero_le _, rfl, rfl, rfl, Lib.hid (by simpa using HST.out)⟩
        case round =>
          obtain ⟨j, k2, c4, A4, hj, hk2, rfl, rfl, HI⟩ := hrel
          have HK2 := Lib.hid hk2
          have hk2b : k2 ≤ 2000 := by omega
          clear hk2
          by_cases hjl : j < z
          · obtain ⟨p, hp⟩ : ∃ p, (goodH x)[j]? = some p := ⟨_, List.getElem?_eq_getElem (by rw [← HZ.out]; exact hjl)⟩
            obtain ⟨ok0, ok1, ok2⟩ := good_ok (List.mem_of_getElem? hp)
            obtain ⟨pf, pt⟩ := p
            dsimp only at ok0 ok1 ok2
            obtain ⟨f, rfl⟩ : ∃ f : Nat, pf = (f : Int) := ⟨pf.toNat, by omega⟩
            obtain ⟨t, rfl⟩ : ∃ t : Nat, pt = (t : Int) := ⟨pt.toNat, by omega⟩
            have hf60 : f ≤ 60 := by omega
            have ht60 : t ≤ 60 := by omega
            have HDF := Lib.hid (HDX.out (f : Int) ok0 (by omega))
            have HDT := Lib.hid (HDX.out (t : Int) (by omega) (by omega))
            have hlx : (linesX x)[j]? = some (lineH x ((f : Int), (t : Int))) := by unfold linesX; simp [hp]
            have htk := take_snocL hlx
            have hla : lineH x ((f : Int), (t : Int)) = s ++ ⟨#[58]⟩ ++ itoaS (f : Int) ++ ⟨#[45]⟩ ++ itoaS (t : Int) ++ ⟨#[58]⟩ ++ x.tx.extract f t := by rw [HS.out]; rfl
            rw [hla] at htk
            obtain ⟨q, hq⟩ : ∃ q, q = x.tx.extract f t := ⟨_, rfl⟩
            have hqs : q.size ≤ 60 := by rw [hq, ByteArray.size_extract]; omega
            have hcut : ∀ w : World, (Instr.slice 9 (.string x.tx) (some (.int .i64 (f : Int))) (some (.int .i64 (t : Int))) none).run Tryd.prog w = .ok (.string q) w := fun w => by
              rw [hq]
              have hr := run_slice_string (P := Tryd.prog) w 9 x.tx .i64 .i64 (f : Int) (t : Int) Tryd.underlying9 (by omega) (by omega) (by omega)
              rw [Int.toNat_natCast, Int.toNat_natCast] at hr
              exact hr
            rw [← hq] at htk
            have zf := itoaS_size f (by omega)
            have zt := itoaS_size t (by omega)
            obtain ⟨sf, hsf⟩ : ∃ s, s = itoaS (f : Int) := ⟨_, rfl⟩
            obtain ⟨st, hst⟩ : ∃ s, s = itoaS (t : Int) := ⟨_, rfl⟩
            rw [← hsf] at HDF zf htk
            rw [← hst] at HDT zt htk
            have l1 : ¬ 9223372036854775807 < s.size + 1 := by omega
            have l2 : ¬ 9223372036854775807 < s.size + 1 + sf.size := by omega
            have l3 : ¬ 9223372036854775807 < s.size + 1 + sf.size + 1 := by omega
            have l4 : ¬ 9223372036854775807 < s.size + 1 + sf.size + 1 + st.size := by omega
            have l5 : ¬ 9223372036854775807 < s.size + 1 + sf.size + 1 + st.size + 1 := by omega
            have l6 : ¬ 9223372036854775807 < s.size + 1 + sf.size + 1 + st.size + 1 + q.size := by omega
            have hS0 : Below w.heap.size w wr.drew ∧ wr.drew.heap[hbk]? = w2.heap[hbk]? := ⟨below_drewN HI.out.2.1 1, HI.out.2.2⟩
            have g2 : ∀ w', (Below w.heap.size w w' ∧ w'.heap[hbk]? = w2.heap[hbk]?) → w'.cell? ⟨bb, o + i * 4 + 2, none⟩ = some (.string x.tx) := fun w' hw => HWS.out w' hw.1
            have gf : ∀ w', (Below w.heap.size w w' ∧ w'.heap[hbk]? = w2.heap[hbk]?) → w'.cell? ⟨hbk, j * 2, none⟩ = some (.int .i64 (f : Int)) := fun w' hw => (HCE.out w' hw.2 j _ hp).1
            have gt : ∀ w', (Below w.heap.size w w' ∧ w'.heap[hbk]? = w2.heap[hbk]?) → w'.cell? ⟨hbk, j * 2 + 1, none⟩ = some (.int .i64 (t : Int)) := fun w' hw => (HCE.out w' hw.2 j _ hp).2
            have HTK := Lib.hid htk
            have hhc := hit_cells
            have hrc := row_cells
            have HPK := Lib.hid fun (w' w'' : World) (h1 : Below w.heap.size w w' ∧ w'.heap[hbk]? = w2.heap[hbk]?) (h2 : Below w'.heap.size w' w'') => ((⟨h1.1.trans (h2.mono h1.1.size), (h2.block hbk (by have h3 := h1.2; rw [HCS.out] at h3; exact (Array.getElem?_eq_some_iff.1 h3).1)).trans h1.2⟩ : Below w.heap.size w w'' ∧ w''.heap[hbk]? = w2.heap[hbk]?))
            clear hp ok0 hlx htk hla hq hqs zf zt hsf hst hf60 ht60 hzn hzt
            go_wp2_with fail
            go_region_held_law (fun w' => Below w.heap.size w w' ∧ w'.heap[hbk]? = w2.heap[hbk]?) (first | assumption | (exact HSA.out)) (first
              | (go_at_call 16; (with_reducible refine (HDT.out wE).mono ?_); rintro e wF ⟨rfl, hF⟩; have hS2 := HPK.out wE wF hS1 hF; have HBF := Lib.hid (HBE.out.trans (hF.mono HBE.out.size)); obtain ⟨A6, c6, w6, ha1, ha2, ha3, ha4⟩ := app_strK HI.out.1 HI.out.2.1 HBF.out (s ++ (⟨#[58]⟩ : ByteArray) ++ sf ++ (⟨#[45]⟩ : ByteArray) ++ st ++ (⟨#[58]⟩ : ByteArray) ++ q) (by omega); have HAP := Lib.hid ha1; have H6 := Lib.hid (And.intro ha2 ha3); have hS3 : Below w.heap.size w w6 ∧ w6.heap[hbk]? = w2.heap[hbk]? := ⟨ha3, (ha4 hbk cs _ fz (hS2.2.trans HCS.out) (by decide)).trans hS2.2⟩; have HSA := Lib.hid (HPK.out wF _ hS2 ((Below.refl wF.heap.size wF).alloc (Nat.le_refl _) (.cells #[.string (s ++ (⟨#[58]⟩ : ByteArray) ++ sf ++ (⟨#[45]⟩ : ByteArray) ++ st ++ (⟨#[58]⟩ : ByteArray) ++ q)] 9))); clear hF ha1 ha2 ha3 ha4)
              | (go_at_call 16; (with_reducible refine (HDF.out wr.drew).mono ?_); rintro e wE ⟨rfl, hE⟩; have hS1 := HPK.out wr.drew wE hS0 hE; have HBE : Hid (Below wr.heap.size wr wE) := Lib.hid ⟨hE.os, hE.tape, hE.output, hE.size, hE.block⟩; clear hE)
              | (refine step_append_run rfl (.tmp 72) (.tmp 109) 29 rfl rfl _ _ _ _ rfl rfl HAP.out ?_))
            have HF : Hid (RecW w6 w.heap.size 9 1 (.slice A6 (k2 + 1) c6) (strs (linesA (l.take i) ++ (linesX x).take (j + 1))) ∧ Below w.heap.size w w6 ∧ w6.heap[hbk]? = w2.heap[hbk]?) := Lib.hid ⟨by rw [HTK.out, ← List.append_assoc]; exact H6.out.1, hS3.1, hS3.2⟩
            clear hS0 hS1 hS2 hS3 HSA HAP H6 HBF HBE g2 gf gt hcut l1 l2 l3 l4 l5 l6
            simp only [Exit.inBlock, Exit.then]
            go_wp2_with fail
            exact ⟨⟨j + 1, k2 + 1, c6, A6, by omega, by have := HK2.out; omega, (by first | rfl | exact ⟨rfl, rfl, rfl⟩), by go_num, HF⟩, by simp [intOf]; omega⟩
          · have hjz : j = z := by omega
            subst hjz
            have hfull : (linesX x).take j = linesX x := List.take_of_length_le (by unfold linesX; rw [List.length_map, ← HZ.out]; exact Nat.le_refl _)
            rw [hfull, ← HSN.out] at HI
            have HE := Lib.hid (And.intro HI.out.1 HI.out.2.1)
            have hkj : k2 ≤ 10 * (i + 1) := by have := HK2.out; omega
            clear HI hfull
            go_wp2_with fail
            exact ⟨⟨i + 1, k2, c4, r + 1, m + j, A4, by omega, hkj, by omega, by omega, (by first | rfl | exact ⟨rfl, rfl, rfl⟩), by go_num, by go_num, by go_num, HE⟩, by simp [intOf]; omega⟩
    · have hin : i = n := by omega
      subst hin
      have e1 : l.take i = l := List.take_of_length_le (by rw [HL.out]; exact Nat.le_refl _)
      rw [e1] at HO
      have e2 := rec_len HO.out.1
      rw [strs_length] at e2
      have HE := Lib.hid (And.intro e2 HO.out)
      clear HO e1 e2 hcl
      go_wp2_with fail
      go_ret2
      rw [HE.out.1]
      exact ⟨A2, c2, rfl, HE.out.2.1, HE.out.2.2⟩
end Go.Proofs.YtebmafghekfllaaDoor
