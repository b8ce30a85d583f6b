/- PoolRound: the walk. -/
import Derived.Test.YtgjmgbpphfccaaaPQueue
import Derived.Deep.RegionHeldLaw
namespace Go.Proofs.Ytgjmgbpphfccaaa
open Go Go.RowKit
set_option linter.unusedVariables false

theorem lawRound_many (h : Int) (A : Option Addr) (n c : Nat) (w : World) (hl : 60 < n) (hn : n ≤ maxLen) :
    Calls Try.prog 7 #[.int .u8 h, .slice A n c] w fun e w' => e = .returned (.bool true) ∧ Below w.heap.size w w' := by
  unfold maxLen at hn
  have hd : decide ((60 : Int) < (n : Int)) = true := by simp; omega
  go_enter Try.func7, Try.ntmps7
  go_wp2_with fail
  refine (awake6_any _).mono ?_; rintro e w1 ⟨rfl, hbel⟩
  go_wp2_with fail
  refine (awake6_any _).mono ?_; rintro e w2 ⟨rfl, hbel2⟩
  go_wp2_with fail
  go_ret
  exact ⟨rfl, hbel.trans (Below.mono hbel2 hbel.size)⟩

/-- b[:64]. -/
theorem slice_64 (A : Option Addr) (n c : Nat) (hh : 64 ≤ c) (w : World) :
    (Instr.slice 31 (.slice A n c) none (some (.int .i64 64)) none).run Try.prog w = .ok (.slice A 64 c) w := by
  have hr := run_slice_h (P := Try.prog) (w := w) (t := 31) (a := A) (len := n) (cap := c) (ht := u8_slice) (kh := .i64) (h := 64) (h0 := by omega) (h2 := by omega)
  rw [hr, u8_elem, u8_size]
  have ha : (if c = 0 then A else A.map fun x => x.add (0 * 1)) = A := by
    split
    · rfl
    · cases A <;> simp [Addr.add]
  simp [Result.andThen, sliced]
  simpa using ha
theorem RowI.to {k : IntKind} {w : World} {A : Option Addr} {n : Nat} {xs : List Int} (h : RowI k w A n xs) {m : Nat} (hm : m ≤ n) : RowI k w A m (xs.take m) := by
  refine ⟨by rw [List.length_take, h.1]; omega, fun h0 => ?_⟩
  obtain ⟨b, o, hA, hlt, hc⟩ := h.2 (by omega)
  refine ⟨b, o, hA, hlt, fun j hj => ?_⟩
  rw [hc j (by omega)]
  simp [List.getD, hj]

set_option maxHeartbeats 16000000 in
set_option maxRecDepth 20000 in
theorem lawRound_short (h : Int) (A : Option Addr) (n c : Nat) (ps : List (List Int)) (W : World) (hn : n ≤ 60) (hr : RowC W A n ps) (hh : 0 ≤ h ∧ h ≤ 255) :
    Calls Try.prog 7 #[.int .u8 h, .slice A n c] W fun e w' => e = .returned (.bool true) ∧ Below W.heap.size W w' := by
  have hd : decide ((60 : Int) < (n : Int)) = false := by simp; omega
  obtain ⟨h0, h1⟩ := hh
  obtain ⟨k, hk⟩ : ∃ k : Nat, 1 + h % 8 = (k : Int) := Int.eq_ofNat_of_zero_le (by omega)
  have hk1 : 1 ≤ k ∧ k ≤ 8 := by omega
  obtain ⟨hk1, hk2⟩ := hk1
  have HR := Lib.hid hr
  have hnew : ∀ w, Calls Try.prog 9 #[.int .i64 (k : Int), .int .i64 64] w fun e w' => ∃ F g, e = .returned (.tuple #[.pointer (some ⟨g, 0, none⟩), .int .i64 0]) ∧ PoolS w' w.heap.size F g 64 ⟨List.replicate k [], List.replicate k 0, List.range k⟩ ∧ Below w.heap.size w w' := fun w => newAny k 64 (by omega) (by decide) w
  have HNEW := Lib.hid hnew
  have G0 := Lib.hid ((good_new k 64).more (show 0 ≤ 1 by omega))
  clear hr hnew
  go_enter Try.func7, Try.ntmps7
  go_wp2_with fail
  refine (awake6_any _).mono ?_; rintro e w1 ⟨rfl, hb1⟩
  go_wp2_with fail
  refine (HNEW.out _).mono ?_; rintro e w2 ⟨F2, g, rfl, hp2, hb2⟩
  have HK := Lib.hid hk
  clear hk
  have hWB := hb1.size
  have hb02 : Below W.heap.size W w2 := hb1.trans (Below.mono hb2 hWB)
  obtain ⟨B, hB⟩ : ∃ B, B = w1.heap.size := ⟨_, rfl⟩
  rw [← hB] at hp2 hWB
  clear hB hb1 hb2
  have HP2 := Lib.hid hp2; clear hp2
  have HB2 := Lib.hid hb02; clear hb02
  have HI0 : Hid (Inv k ⟨List.replicate k [], List.replicate k 0, List.range k⟩ []) := Lib.hid ⟨by simp, by simp, by simp⟩
  go_wp2_with fail
  go_loopw [8, 9] (fun v8 v9 wr => ∃ (i : Nat) (F : Nat → Prop) (s : St) (H : List Nat) (P : Option Addr) (m pc : Nat), i ≤ n ∧ v9 = .int .i64 (i : Int) ∧ v8 = .slice P m pc ∧ m ≤ k ∧ Hid (PoolS wr B F g 64 s) ∧ Hid (Good k 64 1 s) ∧ Hid (Inv k s H) ∧
    Hid (QRow wr B (.slice P m pc) m H) ∧ Hid (Out F (.slice P m pc)) ∧ Hid (Below W.heap.size W wr)) (fun _ v9 _ => n - (intOf v9).toNat)
  case atStart => exact ⟨0, F2, _, [], none, 0, 0, by omega, rfl, rfl, by omega, HP2, G0, HI0, Lib.hid (QRow.nil_ _ _), Lib.hid (fun k h => by cases h), HB2⟩
  case round =>
    clear HP2 HB2 G0 HI0
    obtain ⟨i, F, s, H, P, m, pc, hi, rfl, rfl, hmk, HP, HG, HI, HQ, HU, HB⟩ := hrel
    by_cases hlt : i < n
    · obtain ⟨b, o, rfl, hbl, hc⟩ := HR.out.2 (by omega)
      obtain ⟨D, d, hcell, hrow, hnil, hLd, hdm⟩ := hc i hlt
      have hcell : wr.cell? ⟨b, o + i, none⟩ = some (.slice D (ps.getD i []).length d) := (HB.out.cell (p := ⟨b, o + i, none⟩) hbl).trans hcell
      obtain ⟨p, hp⟩ : ∃ p, p = ps.getD i [] := ⟨_, rfl⟩
      rw [← hp] at hcell hrow hnil hLd
      clear hp hc
      unfold maxLen at hdm
      by_cases h64 : 64 < p.length
      · by_cases hmk2 : m = k
        · have d64 : decide ((64 : Int) < (p.length : Int)) = true := by simp; omega
          have hsl64 := slice_64 D p.length d (by omega)
          have HY := Lib.hid (hrow.to (m := 64) (by omega))
          have HYN : Hid (D = none → 64 = 0 ∧ d = 0) := Lib.hid (fun h => by have := hnil h; omega)
          have HYL : Hid ((p.take 64).length = 64) := Lib.hid (by rw [List.length_take]; omega)
          clear hrow hnil
          subst hmk2
          obtain ⟨h0, H', rfl⟩ : ∃ h0 H', H = h0 :: H' := by
            rcases H with _ | ⟨h0, H'⟩
            · have := HQ.out.1
              simp at this
              omega
            · exact ⟨h0, H', rfl⟩
          obtain ⟨m', hm'⟩ : ∃ m', m = m' + 1 := ⟨m - 1, by omega⟩
          obtain ⟨hd1, hd2⟩ := HI.out.drop HG.out
          have hdr := dropAny HP.out HG.out (by omega) (by omega) (h0 : Int)
          rw [hd1] at hdr
          have HDR := Lib.hid hdr
          have HI' := Lib.hid hd2
          have HG' := Lib.hid (good_drop HG.out (h0 : Int))
          obtain ⟨s', hs'⟩ : ∃ s', s' = dropS s (h0 : Int) := ⟨_, rfl⟩
          rw [← hs'] at HDR HI' HG'
          obtain ⟨Ah, ch, hAh, hch1, hch2, hcells⟩ := HQ.out.form
          injection hAh with e1 _ e3
          subst e1; subst e3
          obtain ⟨bh, oh, rfl, hcellh⟩ := hcells (by omega)
          have hch0 : wr.cell? ⟨bh, oh, none⟩ = some (.int .i64 (h0 : Int)) := by simpa using hcellh 0 (by omega)
          have hmk' : m' < m := by omega
          have hmk3 : m ≤ m' + 1 := by omega
          have HM' := Lib.hid hm'
          clear hdr hd1 hd2 hs' hcellh HI hm'
          go_wp2_with fail
          refine HDR.out.mono ?_; rintro e w3 ⟨rfl, F3, hp3, hs3⟩
          have hb3 : Below W.heap.size W w3 := HB.out.trans (Below.mono (hs3.below HP.out) hWB)
          have hq3 := HQ.out.moved hs3.1 HU.out
          have hu3 := HQ.out.step HU.out hs3
          have hq3a : QRow w3 B (.slice (some ⟨bh, oh, none⟩) (m' + 1) pc) (m' + 1) (h0 :: H') := by have := hq3; rw [HM'.out] at this; exact this
          obtain ⟨v3, hsl3a, hq3', hvb⟩ := hq3a.cut1
          have hsl3 : ∀ w : World, (Instr.slice 41 (.slice (some ⟨bh, oh, none⟩) m pc) (some (.int .i64 1)) none none).run Try.prog w = .ok v3 w := by rw [HM'.out]; exact hsl3a
          have hu3' : Out F3 v3 := fun k hk => hu3 k (by have : v3.ownBlock = some k := hk; rw [hvb] at this; exact this)
          obtain ⟨P3, c3, rfl, _⟩ := hq3'.form
          have HQ3 := Lib.hid hq3'
          have HU3 := Lib.hid hu3'
          have HP3 := Lib.hid hp3
          have HB3 := Lib.hid hb3
          clear hp3 hs3 hb3 hq3 hu3 hq3' hu3' hvb hch0 HQ HU hq3a hsl3a
          have hne : s'.ln ≠ [] := by
            intro e
            have h1 := HI'.out.all
            have h2 := HQ3.out.1
            rw [e] at h1
            simp at h1
            omega
          obtain ⟨x, r, hln⟩ : ∃ x r, s'.ln = x :: r := by
            rcases hs : s'.ln with _ | ⟨x, r⟩
            · exact absurd hs hne
            · exact ⟨x, r, rfl⟩
          obtain ⟨hi1, hx1, hx2, hx3, hx4⟩ := HI'.out.take HG'.out hln
          have ht := takeAny HP3.out HG'.out (by omega)
          rw [hx3, hx4] at ht
          have HG1 := Lib.hid (good_take1 HG'.out (by omega))
          obtain ⟨s1, hs1⟩ : ∃ s1, s1 = takeS s' := ⟨_, rfl⟩
          rw [← hs1] at hi1 hx1 hx2 ht HG1
          have HI1 := Lib.hid hi1
          have HX1 := Lib.hid hx1
          have HX2 := Lib.hid hx2
          have HTK := Lib.hid ht
          clear hln ht hi1 hx1 hx2 hx3 hx4 hs1 hne
          go_wp2_with fail
          refine HTK.out.mono ?_; rintro e w4 ⟨rfl, F4, hp4, hs4⟩
          have hb4 : Below W.heap.size W w4 := HB3.out.trans (Below.mono (hs4.below HP3.out) hWB)
          have HQ4 := Lib.hid (HQ3.out.moved hs4.1 HU3.out)
          have HU4 := Lib.hid (HQ3.out.step HU3.out hs4)
          have HP4 := Lib.hid hp4
          have HB4 := Lib.hid hb4
          have HO1 : Hid (Calls Try.prog 15 #[.pointer (some ⟨g, 0, none⟩), .int .i64 (x : Int)] w4.drew fun e w' => e = .returned (.string ⟨#[]⟩) ∧ w4.drew = w') := Lib.hid (by
            have := octetsAny (w := w4.drew) (hp4.drewN 1) HG1.out (by omega) (x : Int)
            rw [HX2.out] at this
            exact this)
          obtain ⟨hf1, hf2, hf3⟩ := HI1.out.fill HG1.out HX1.out (p.take 64) (by have := HYL.out; omega)
          have hfill : Calls Try.prog 13 #[.pointer (some ⟨g, 0, none⟩), .int .i64 (x : Int), .slice D 64 d] w4.drew fun e w' => e = .returned (.int .i64 0) ∧ ∃ F', PoolS w' B F' g 64 (fillS 64 s1 (x : Int) (p.take 64)) ∧ Step F4 F' w4 w' := by
            have := fillAny (w := w4.drew) (hp4.drewN 1) HG1.out (by omega) (x : Int) D 64 d (p.take 64) ((HY.out.below hb4 (Nat.le_refl _)).drewN 1) HYN.out (by have := HYL.out; omega)
            rw [HYL.out] at hf1
            rw [hf1] at this
            refine this.mono ?_
            rintro e w' ⟨he, F', h1, h2⟩
            exact ⟨he, F', h1, ⟨h2.1.os, h2.1.tape, h2.1.output, h2.1.size, h2.1.block⟩, h2.2⟩
          have HFL := Lib.hid hfill
          have HG2 := Lib.hid (good_fill HG1.out (x : Int) (p.take 64))
          obtain ⟨s2, hs2⟩ : ∃ s2, s2 = fillS 64 s1 (x : Int) (p.take 64) := ⟨_, rfl⟩
          rw [← hs2] at hf2 hf3 HG2 HFL
          have HI2 := Lib.hid hf2
          have HX3 := Lib.hid hf3
          clear hp4 hs4 hb4 hf1 hf2 hf3 hfill hs2
          go_wp2_with fail
          have hcb : ∀ w, Below W.heap.size W w → (convert 31 9 (.slice D 64 d)).run Try.prog w = .ok (.string (strOfNums (p.take 64))) w := fun w h => strRow w D 64 d (p.take 64) (HY.out.below h (Nat.le_refl _))
          have hr0 : Below W.heap.size W w4.drew := HB4.out.drew
          go_region_held (fun w' => Below W.heap.size W w') (assumption) (first
            | (go_at_call 15; (with_reducible refine HO1.out.mono ?_); rintro e w5 ⟨rfl, rfl⟩)
            | (go_at_call 13; refine HFL.out.mono ?_; rintro e w6 ⟨rfl, F6, hp6, hs6⟩; have hb6 : Below W.heap.size W w6 := HB4.out.trans (Below.mono (hs6.below HP4.out) hWB); have HQ6 := Lib.hid (HQ4.out.moved hs6.1 HU4.out); have HU6 := Lib.hid (HQ4.out.step HU4.out hs6); have HP6 := Lib.hid hp6; have HB6 := Lib.hid hb6; have ho2 := octetsAny hp6 HG2.out (by omega) (x : Int); rw [HX3.out] at ho2; have HO2 := Lib.hid ho2; clear ho2 hp6 hs6)
            | (go_at_call 15; refine HO2.out.mono ?_; rintro e w7 ⟨rfl, rfl⟩))
          clear hcb hr0
          all_goals (
            have hpsh := HQ6.out.push x (by omega) (by have := HP6.out.low HP6.out.fg; omega)
            obtain ⟨v8, w8, happ, hq8, hgr8, hat8⟩ := hpsh
            have hb8 : Below W.heap.size W w8 := HB6.out.grown hgr8 HB6.out.size (fun j hj => by have := (HQ6.out.lt hj).1; omega)
            have hp8 := HP6.out.grown hgr8 HU6.out
            have hu8 := Out.pushed HP6.out HU6.out hat8
            obtain ⟨P8, c8, rfl, hc81, hc82, _⟩ := hq8.form
            have HAPP := Lib.hid happ
            have HQ8 := Lib.hid hq8
            have HU8 := Lib.hid hu8
            have HP8 := Lib.hid hp8
            have HB8 := Lib.hid hb8
            have HFR := Lib.hid (freeAny hp8 HG2.out (by omega))
            clear happ hq8 hu8 hp8 hb8 hgr8 hat8 hb6
            go_wp2_with (at_builtin; refine wpList_append_run rfl _ _ 41 rfl rfl _ _ _ _ rfl rfl HAPP.out ?_)
            refine HFR.out.mono ?_; rintro e w9 ⟨v9, rfl, ho9, hb9⟩
            obtain ⟨A9, c9, rfl, _⟩ := own_cells ho9
            obtain ⟨l, hl⟩ : ∃ l, l = s2.ln.length := ⟨_, rfl⟩
            have hall := HI2.out.all
            have hql := HQ8.out.1
            have hsum : m' + 1 + l = m := by omega
            have hsI : ((m' : Nat) : Int) + 1 + (l : Int) = (m : Int) := by omega
            rw [← hl]
            have hl64 : l ≤ 64 := by omega
            clear hl hall hql
            have HQ9 := Lib.hid (HQ8.out.below hb9)
            have HP9 := Lib.hid (HP8.out.below hb9)
            have hb09 : Below W.heap.size W w9 := HB8.out.trans (Below.mono hb9 HB8.out.size)
            have HB9 := Lib.hid hb09
            have HU9 := HU8
            clear ho9 hb9 hb09
            go_wp2_with fail
            have HSUM := Lib.hid hsI; clear hsI
            refine ⟨⟨i + 1, F6, s2, H' ++ [x], P8, m' + 1, c8, by omega, by go_num, rfl, by omega, HP9, HG2, HI2, HQ9, HU9, HB9⟩, by simp [intOf]; omega⟩)
        · have d64 : decide ((64 : Int) < (p.length : Int)) = true := by simp; omega
          have hsl64 := slice_64 D p.length d (by omega)
          have HY := Lib.hid (hrow.to (m := 64) (by omega))
          have HYN : Hid (D = none → 64 = 0 ∧ d = 0) := Lib.hid (fun h => by have := hnil h; omega)
          have HYL : Hid ((p.take 64).length = 64) := Lib.hid (by rw [List.length_take]; omega)
          clear hrow hnil
          have hlk : ((m : Int) == (k : Int)) = false := by simp; omega
          have hmk' : m < k := by omega
          have hne : s.ln ≠ [] := by
            intro e
            have h1 := HI.out.all
            have h2 := HQ.out.1
            rw [e] at h1
            simp at h1
            omega
          obtain ⟨x, r, hln⟩ : ∃ x r, s.ln = x :: r := by
            rcases hs : s.ln with _ | ⟨x, r⟩
            · exact absurd hs hne
            · exact ⟨x, r, rfl⟩
          obtain ⟨hi1, hx1, hx2, hx3, hx4⟩ := HI.out.take HG.out hln
          have ht := takeAny HP.out HG.out (by omega)
          rw [hx3, hx4] at ht
          have HG1 := Lib.hid (good_take1 HG.out (by omega))
          obtain ⟨s1, hs1⟩ : ∃ s1, s1 = takeS s := ⟨_, rfl⟩
          rw [← hs1] at hi1 hx1 hx2 ht HG1
          have HI1 := Lib.hid hi1
          have HX1 := Lib.hid hx1
          have HX2 := Lib.hid hx2
          have HTK := Lib.hid ht
          clear hln ht hi1 hx1 hx2 hx3 hx4 hs1 hne
          go_wp2_with fail
          refine HTK.out.mono ?_; rintro e w4 ⟨rfl, F4, hp4, hs4⟩
          have hb4 : Below W.heap.size W w4 := HB.out.trans (Below.mono (hs4.below HP.out) hWB)
          have HQ4 := Lib.hid (HQ.out.moved hs4.1 HU.out)
          have HU4 := Lib.hid (HQ.out.step HU.out hs4)
          have HP4 := Lib.hid hp4
          have HB4 := Lib.hid hb4
          have HO1 : Hid (Calls Try.prog 15 #[.pointer (some ⟨g, 0, none⟩), .int .i64 (x : Int)] w4.drew fun e w' => e = .returned (.string ⟨#[]⟩) ∧ w4.drew = w') := Lib.hid (by
            have := octetsAny (w := w4.drew) (hp4.drewN 1) HG1.out (by omega) (x : Int)
            rw [HX2.out] at this
            exact this)
          obtain ⟨hf1, hf2, hf3⟩ := HI1.out.fill HG1.out HX1.out (p.take 64) (by have := HYL.out; omega)
          have hfill : Calls Try.prog 13 #[.pointer (some ⟨g, 0, none⟩), .int .i64 (x : Int), .slice D 64 d] w4.drew fun e w' => e = .returned (.int .i64 0) ∧ ∃ F', PoolS w' B F' g 64 (fillS 64 s1 (x : Int) (p.take 64)) ∧ Step F4 F' w4 w' := by
            have := fillAny (w := w4.drew) (hp4.drewN 1) HG1.out (by omega) (x : Int) D 64 d (p.take 64) ((HY.out.below hb4 (Nat.le_refl _)).drewN 1) HYN.out (by have := HYL.out; omega)
            rw [HYL.out] at hf1
            rw [hf1] at this
            refine this.mono ?_
            rintro e w' ⟨he, F', h1, h2⟩
            exact ⟨he, F', h1, ⟨h2.1.os, h2.1.tape, h2.1.output, h2.1.size, h2.1.block⟩, h2.2⟩
          have HFL := Lib.hid hfill
          have HG2 := Lib.hid (good_fill HG1.out (x : Int) (p.take 64))
          obtain ⟨s2, hs2⟩ : ∃ s2, s2 = fillS 64 s1 (x : Int) (p.take 64) := ⟨_, rfl⟩
          rw [← hs2] at hf2 hf3 HG2 HFL
          have HI2 := Lib.hid hf2
          have HX3 := Lib.hid hf3
          clear hp4 hs4 hb4 hf1 hf2 hf3 hfill hs2
          go_wp2_with fail
          have hcb : ∀ w, Below W.heap.size W w → (convert 31 9 (.slice D 64 d)).run Try.prog w = .ok (.string (strOfNums (p.take 64))) w := fun w h => strRow w D 64 d (p.take 64) (HY.out.below h (Nat.le_refl _))
          have hr0 : Below W.heap.size W w4.drew := HB4.out.drew
          go_region_held (fun w' => Below W.heap.size W w') (assumption) (first
            | (go_at_call 15; (with_reducible refine HO1.out.mono ?_); rintro e w5 ⟨rfl, rfl⟩)
            | (go_at_call 13; refine HFL.out.mono ?_; rintro e w6 ⟨rfl, F6, hp6, hs6⟩; have hb6 : Below W.heap.size W w6 := HB4.out.trans (Below.mono (hs6.below HP4.out) hWB); have HQ6 := Lib.hid (HQ4.out.moved hs6.1 HU4.out); have HU6 := Lib.hid (HQ4.out.step HU4.out hs6); have HP6 := Lib.hid hp6; have HB6 := Lib.hid hb6; have ho2 := octetsAny hp6 HG2.out (by omega) (x : Int); rw [HX3.out] at ho2; have HO2 := Lib.hid ho2; clear ho2 hp6 hs6)
            | (go_at_call 15; refine HO2.out.mono ?_; rintro e w7 ⟨rfl, rfl⟩))
          clear hcb hr0
          all_goals (
            have hpsh := HQ6.out.push x (by omega) (by have := HP6.out.low HP6.out.fg; omega)
            obtain ⟨v8, w8, happ, hq8, hgr8, hat8⟩ := hpsh
            have hb8 : Below W.heap.size W w8 := HB6.out.grown hgr8 HB6.out.size (fun j hj => by have := (HQ6.out.lt hj).1; omega)
            have hp8 := HP6.out.grown hgr8 HU6.out
            have hu8 := Out.pushed HP6.out HU6.out hat8
            obtain ⟨P8, c8, rfl, hc81, hc82, _⟩ := hq8.form
            have HAPP := Lib.hid happ
            have HQ8 := Lib.hid hq8
            have HU8 := Lib.hid hu8
            have HP8 := Lib.hid hp8
            have HB8 := Lib.hid hb8
            have HFR := Lib.hid (freeAny hp8 HG2.out (by omega))
            clear happ hq8 hu8 hp8 hb8 hgr8 hat8 hb6
            go_wp2_with (at_builtin; refine wpList_append_run rfl _ _ 41 rfl rfl _ _ _ _ rfl rfl HAPP.out ?_)
            refine HFR.out.mono ?_; rintro e w9 ⟨v9, rfl, ho9, hb9⟩
            obtain ⟨A9, c9, rfl, _⟩ := own_cells ho9
            obtain ⟨l, hl⟩ : ∃ l, l = s2.ln.length := ⟨_, rfl⟩
            have hall := HI2.out.all
            have hql := HQ8.out.1
            have hsum : m + 1 + l = k := by omega
            have hsI : ((m : Nat) : Int) + 1 + (l : Int) = (k : Int) := by omega
            rw [← hl]
            have hl64 : l ≤ 64 := by omega
            clear hl hall hql
            have HQ9 := Lib.hid (HQ8.out.below hb9)
            have HP9 := Lib.hid (HP8.out.below hb9)
            have hb09 : Below W.heap.size W w9 := HB8.out.trans (Below.mono hb9 HB8.out.size)
            have HB9 := Lib.hid hb09
            have HU9 := HU8
            clear ho9 hb9 hb09
            go_wp2_with fail
            have HSUM := Lib.hid hsI; clear hsI
            refine ⟨⟨i + 1, F6, s2, H ++ [x], P8, m + 1, c8, by omega, by go_num, rfl, by omega, HP9, HG2, HI2, HQ9, HU9, HB9⟩, by simp [intOf]; omega⟩)
      · by_cases hmk2 : m = k
        · have d64 : decide ((64 : Int) < (p.length : Int)) = false := by simp; omega
          have HY := Lib.hid hrow
          have HYN := Lib.hid hnil
          have HYL : Hid (p.length = p.length) := Lib.hid rfl
          clear hrow hnil
          subst hmk2
          obtain ⟨h0, H', rfl⟩ : ∃ h0 H', H = h0 :: H' := by
            rcases H with _ | ⟨h0, H'⟩
            · have := HQ.out.1
              simp at this
              omega
            · exact ⟨h0, H', rfl⟩
          obtain ⟨m', hm'⟩ : ∃ m', m = m' + 1 := ⟨m - 1, by omega⟩
          obtain ⟨hd1, hd2⟩ := HI.out.drop HG.out
          have hdr := dropAny HP.out HG.out (by omega) (by omega) (h0 : Int)
          rw [hd1] at hdr
          have HDR := Lib.hid hdr
          have HI' := Lib.hid hd2
          have HG' := Lib.hid (good_drop HG.out (h0 : Int))
          obtain ⟨s', hs'⟩ : ∃ s', s' = dropS s (h0 : Int) := ⟨_, rfl⟩
          rw [← hs'] at HDR HI' HG'
          obtain ⟨Ah, ch, hAh, hch1, hch2, hcells⟩ := HQ.out.form
          injection hAh with e1 _ e3
          subst e1; subst e3
          obtain ⟨bh, oh, rfl, hcellh⟩ := hcells (by omega)
          have hch0 : wr.cell? ⟨bh, oh, none⟩ = some (.int .i64 (h0 : Int)) := by simpa using hcellh 0 (by omega)
          have hmk' : m' < m := by omega
          have hmk3 : m ≤ m' + 1 := by omega
          have HM' := Lib.hid hm'
          clear hdr hd1 hd2 hs' hcellh HI hm'
          go_wp2_with fail
          refine HDR.out.mono ?_; rintro e w3 ⟨rfl, F3, hp3, hs3⟩
          have hb3 : Below W.heap.size W w3 := HB.out.trans (Below.mono (hs3.below HP.out) hWB)
          have hq3 := HQ.out.moved hs3.1 HU.out
          have hu3 := HQ.out.step HU.out hs3
          have hq3a : QRow w3 B (.slice (some ⟨bh, oh, none⟩) (m' + 1) pc) (m' + 1) (h0 :: H') := by have := hq3; rw [HM'.out] at this; exact this
          obtain ⟨v3, hsl3a, hq3', hvb⟩ := hq3a.cut1
          have hsl3 : ∀ w : World, (Instr.slice 41 (.slice (some ⟨bh, oh, none⟩) m pc) (some (.int .i64 1)) none none).run Try.prog w = .ok v3 w := by rw [HM'.out]; exact hsl3a
          have hu3' : Out F3 v3 := fun k hk => hu3 k (by have : v3.ownBlock = some k := hk; rw [hvb] at this; exact this)
          obtain ⟨P3, c3, rfl, _⟩ := hq3'.form
          have HQ3 := Lib.hid hq3'
          have HU3 := Lib.hid hu3'
          have HP3 := Lib.hid hp3
          have HB3 := Lib.hid hb3
          clear hp3 hs3 hb3 hq3 hu3 hq3' hu3' hvb hch0 HQ HU hq3a hsl3a
          have hne : s'.ln ≠ [] := by
            intro e
            have h1 := HI'.out.all
            have h2 := HQ3.out.1
            rw [e] at h1
            simp at h1
            omega
          obtain ⟨x, r, hln⟩ : ∃ x r, s'.ln = x :: r := by
            rcases hs : s'.ln with _ | ⟨x, r⟩
            · exact absurd hs hne
            · exact ⟨x, r, rfl⟩
          obtain ⟨hi1, hx1, hx2, hx3, hx4⟩ := HI'.out.take HG'.out hln
          have ht := takeAny HP3.out HG'.out (by omega)
          rw [hx3, hx4] at ht
          have HG1 := Lib.hid (good_take1 HG'.out (by omega))
          obtain ⟨s1, hs1⟩ : ∃ s1, s1 = takeS s' := ⟨_, rfl⟩
          rw [← hs1] at hi1 hx1 hx2 ht HG1
          have HI1 := Lib.hid hi1
          have HX1 := Lib.hid hx1
          have HX2 := Lib.hid hx2
          have HTK := Lib.hid ht
          clear hln ht hi1 hx1 hx2 hx3 hx4 hs1 hne
          go_wp2_with fail
          refine HTK.out.mono ?_; rintro e w4 ⟨rfl, F4, hp4, hs4⟩
          have hb4 : Below W.heap.size W w4 := HB3.out.trans (Below.mono (hs4.below HP3.out) hWB)
          have HQ4 := Lib.hid (HQ3.out.moved hs4.1 HU3.out)
          have HU4 := Lib.hid (HQ3.out.step HU3.out hs4)
          have HP4 := Lib.hid hp4
          have HB4 := Lib.hid hb4
          have HO1 : Hid (Calls Try.prog 15 #[.pointer (some ⟨g, 0, none⟩), .int .i64 (x : Int)] w4.drew fun e w' => e = .returned (.string ⟨#[]⟩) ∧ w4.drew = w') := Lib.hid (by
            have := octetsAny (w := w4.drew) (hp4.drewN 1) HG1.out (by omega) (x : Int)
            rw [HX2.out] at this
            exact this)
          obtain ⟨hf1, hf2, hf3⟩ := HI1.out.fill HG1.out HX1.out p (by have := HYL.out; omega)
          have hfill : Calls Try.prog 13 #[.pointer (some ⟨g, 0, none⟩), .int .i64 (x : Int), .slice D p.length d] w4.drew fun e w' => e = .returned (.int .i64 0) ∧ ∃ F', PoolS w' B F' g 64 (fillS 64 s1 (x : Int) p) ∧ Step F4 F' w4 w' := by
            have := fillAny (w := w4.drew) (hp4.drewN 1) HG1.out (by omega) (x : Int) D p.length d p ((HY.out.below hb4 (Nat.le_refl _)).drewN 1) HYN.out (by have := HYL.out; omega)
            rw [hf1] at this
            refine this.mono ?_
            rintro e w' ⟨he, F', h1, h2⟩
            exact ⟨he, F', h1, ⟨h2.1.os, h2.1.tape, h2.1.output, h2.1.size, h2.1.block⟩, h2.2⟩
          have HFL := Lib.hid hfill
          have HG2 := Lib.hid (good_fill HG1.out (x : Int) p)
          obtain ⟨s2, hs2⟩ : ∃ s2, s2 = fillS 64 s1 (x : Int) p := ⟨_, rfl⟩
          rw [← hs2] at hf2 hf3 HG2 HFL
          have HI2 := Lib.hid hf2
          have HX3 := Lib.hid hf3
          clear hp4 hs4 hb4 hf1 hf2 hf3 hfill hs2
          go_wp2_with fail
          have hcb : ∀ w, Below W.heap.size W w → (convert 31 9 (.slice D p.length d)).run Try.prog w = .ok (.string (strOfNums p)) w := fun w h => strRow w D p.length d p (HY.out.below h (Nat.le_refl _))
          have hr0 : Below W.heap.size W w4.drew := HB4.out.drew
          go_region_held (fun w' => Below W.heap.size W w') (assumption) (first
            | (go_at_call 15; (with_reducible refine HO1.out.mono ?_); rintro e w5 ⟨rfl, rfl⟩)
            | (go_at_call 13; refine HFL.out.mono ?_; rintro e w6 ⟨rfl, F6, hp6, hs6⟩; have hb6 : Below W.heap.size W w6 := HB4.out.trans (Below.mono (hs6.below HP4.out) hWB); have HQ6 := Lib.hid (HQ4.out.moved hs6.1 HU4.out); have HU6 := Lib.hid (HQ4.out.step HU4.out hs6); have HP6 := Lib.hid hp6; have HB6 := Lib.hid hb6; have ho2 := octetsAny hp6 HG2.out (by omega) (x : Int); rw [HX3.out] at ho2; have HO2 := Lib.hid ho2; clear ho2 hp6 hs6)
            | (go_at_call 15; refine HO2.out.mono ?_; rintro e w7 ⟨rfl, rfl⟩))
          clear hcb hr0
          all_goals (
            have hpsh := HQ6.out.push x (by omega) (by have := HP6.out.low HP6.out.fg; omega)
            obtain ⟨v8, w8, happ, hq8, hgr8, hat8⟩ := hpsh
            have hb8 : Below W.heap.size W w8 := HB6.out.grown hgr8 HB6.out.size (fun j hj => by have := (HQ6.out.lt hj).1; omega)
            have hp8 := HP6.out.grown hgr8 HU6.out
            have hu8 := Out.pushed HP6.out HU6.out hat8
            obtain ⟨P8, c8, rfl, hc81, hc82, _⟩ := hq8.form
            have HAPP := Lib.hid happ
            have HQ8 := Lib.hid hq8
            have HU8 := Lib.hid hu8
            have HP8 := Lib.hid hp8
            have HB8 := Lib.hid hb8
            have HFR := Lib.hid (freeAny hp8 HG2.out (by omega))
            clear happ hq8 hu8 hp8 hb8 hgr8 hat8 hb6
            go_wp2_with (at_builtin; refine wpList_append_run rfl _ _ 41 rfl rfl _ _ _ _ rfl rfl HAPP.out ?_)
            refine HFR.out.mono ?_; rintro e w9 ⟨v9, rfl, ho9, hb9⟩
            obtain ⟨A9, c9, rfl, _⟩ := own_cells ho9
            obtain ⟨l, hl⟩ : ∃ l, l = s2.ln.length := ⟨_, rfl⟩
            have hall := HI2.out.all
            have hql := HQ8.out.1
            have hsum : m' + 1 + l = m := by omega
            have hsI : ((m' : Nat) : Int) + 1 + (l : Int) = (m : Int) := by omega
            rw [← hl]
            have hl64 : l ≤ 64 := by omega
            clear hl hall hql
            have HQ9 := Lib.hid (HQ8.out.below hb9)
            have HP9 := Lib.hid (HP8.out.below hb9)
            have hb09 : Below W.heap.size W w9 := HB8.out.trans (Below.mono hb9 HB8.out.size)
            have HB9 := Lib.hid hb09
            have HU9 := HU8
            clear ho9 hb9 hb09
            go_wp2_with fail
            have HSUM := Lib.hid hsI; clear hsI
            refine ⟨⟨i + 1, F6, s2, H' ++ [x], P8, m' + 1, c8, by omega, by go_num, rfl, by omega, HP9, HG2, HI2, HQ9, HU9, HB9⟩, by simp [intOf]; omega⟩)
        · have d64 : decide ((64 : Int) < (p.length : Int)) = false := by simp; omega
          have HY := Lib.hid hrow
          have HYN := Lib.hid hnil
          have HYL : Hid (p.length = p.length) := Lib.hid rfl
          clear hrow hnil
          have hlk : ((m : Int) == (k : Int)) = false := by simp; omega
          have hmk' : m < k := by omega
          have hne : s.ln ≠ [] := by
            intro e
            have h1 := HI.out.all
            have h2 := HQ.out.1
            rw [e] at h1
            simp at h1
            omega
          obtain ⟨x, r, hln⟩ : ∃ x r, s.ln = x :: r := by
            rcases hs : s.ln with _ | ⟨x, r⟩
            · exact absurd hs hne
            · exact ⟨x, r, rfl⟩
          obtain ⟨hi1, hx1, hx2, hx3, hx4⟩ := HI.out.take HG.out hln
          have ht := takeAny HP.out HG.out (by omega)
          rw [hx3, hx4] at ht
          have HG1 := Lib.hid (good_take1 HG.out (by omega))
          obtain ⟨s1, hs1⟩ : ∃ s1, s1 = takeS s := ⟨_, rfl⟩
          rw [← hs1] at hi1 hx1 hx2 ht HG1
          have HI1 := Lib.hid hi1
          have HX1 := Lib.hid hx1
          have HX2 := Lib.hid hx2
          have HTK := Lib.hid ht
          clear hln ht hi1 hx1 hx2 hx3 hx4 hs1 hne
          go_wp2_with fail
          refine HTK.out.mono ?_; rintro e w4 ⟨rfl, F4, hp4, hs4⟩
          have hb4 : Below W.heap.size W w4 := HB.out.trans (Below.mono (hs4.below HP.out) hWB)
          have HQ4 := Lib.hid (HQ.out.moved hs4.1 HU.out)
          have HU4 := Lib.hid (HQ.out.step HU.out hs4)
          have HP4 := Lib.hid hp4
          have HB4 := Lib.hid hb4
          have HO1 : Hid (Calls Try.prog 15 #[.pointer (some ⟨g, 0, none⟩), .int .i64 (x : Int)] w4.drew fun e w' => e = .returned (.string ⟨#[]⟩) ∧ w4.drew = w') := Lib.hid (by
            have := octetsAny (w := w4.drew) (hp4.drewN 1) HG1.out (by omega) (x : Int)
            rw [HX2.out] at this
            exact this)
          obtain ⟨hf1, hf2, hf3⟩ := HI1.out.fill HG1.out HX1.out p (by have := HYL.out; omega)
          have hfill : Calls Try.prog 13 #[.pointer (some ⟨g, 0, none⟩), .int .i64 (x : Int), .slice D p.length d] w4.drew fun e w' => e = .returned (.int .i64 0) ∧ ∃ F', PoolS w' B F' g 64 (fillS 64 s1 (x : Int) p) ∧ Step F4 F' w4 w' := by
            have := fillAny (w := w4.drew) (hp4.drewN 1) HG1.out (by omega) (x : Int) D p.length d p ((HY.out.below hb4 (Nat.le_refl _)).drewN 1) HYN.out (by have := HYL.out; omega)
            rw [hf1] at this
            refine this.mono ?_
            rintro e w' ⟨he, F', h1, h2⟩
            exact ⟨he, F', h1, ⟨h2.1.os, h2.1.tape, h2.1.output, h2.1.size, h2.1.block⟩, h2.2⟩
          have HFL := Lib.hid hfill
          have HG2 := Lib.hid (good_fill HG1.out (x : Int) p)
          obtain ⟨s2, hs2⟩ : ∃ s2, s2 = fillS 64 s1 (x : Int) p := ⟨_, rfl⟩
          rw [← hs2] at hf2 hf3 HG2 HFL
          have HI2 := Lib.hid hf2
          have HX3 := Lib.hid hf3
          clear hp4 hs4 hb4 hf1 hf2 hf3 hfill hs2
          go_wp2_with fail
          have hcb : ∀ w, Below W.heap.size W w → (convert 31 9 (.slice D p.length d)).run Try.prog w = .ok (.string (strOfNums p)) w := fun w h => strRow w D p.length d p (HY.out.below h (Nat.le_refl _))
          have hr0 : Below W.heap.size W w4.drew := HB4.out.drew
          go_region_held (fun w' => Below W.heap.size W w') (assumption) (first
            | (go_at_call 15; (with_reducible refine HO1.out.mono ?_); rintro e w5 ⟨rfl, rfl⟩)
            | (go_at_call 13; refine HFL.out.mono ?_; rintro e w6 ⟨rfl, F6, hp6, hs6⟩; have hb6 : Below W.heap.size W w6 := HB4.out.trans (Below.mono (hs6.below HP4.out) hWB); have HQ6 := Lib.hid (HQ4.out.moved hs6.1 HU4.out); have HU6 := Lib.hid (HQ4.out.step HU4.out hs6); have HP6 := Lib.hid hp6; have HB6 := Lib.hid hb6; have ho2 := octetsAny hp6 HG2.out (by omega) (x : Int); rw [HX3.out] at ho2; have HO2 := Lib.hid ho2; clear ho2 hp6 hs6)
            | (go_at_call 15; refine HO2.out.mono ?_; rintro e w7 ⟨rfl, rfl⟩))
          clear hcb hr0
          all_goals (
            have hpsh := HQ6.out.push x (by omega) (by have := HP6.out.low HP6.out.fg; omega)
            obtain ⟨v8, w8, happ, hq8, hgr8, hat8⟩ := hpsh
            have hb8 : Below W.heap.size W w8 := HB6.out.grown hgr8 HB6.out.size (fun j hj => by have := (HQ6.out.lt hj).1; omega)
            have hp8 := HP6.out.grown hgr8 HU6.out
            have hu8 := Out.pushed HP6.out HU6.out hat8
            obtain ⟨P8, c8, rfl, hc81, hc82, _⟩ := hq8.form
            have HAPP := Lib.hid happ
            have HQ8 := Lib.hid hq8
            have HU8 := Lib.hid hu8
            have HP8 := Lib.hid hp8
            have HB8 := Lib.hid hb8
            have HFR := Lib.hid (freeAny hp8 HG2.out (by omega))
            clear happ hq8 hu8 hp8 hb8 hgr8 hat8 hb6
            go_wp2_with (at_builtin; refine wpList_append_run rfl _ _ 41 rfl rfl _ _ _ _ rfl rfl HAPP.out ?_)
            refine HFR.out.mono ?_; rintro e w9 ⟨v9, rfl, ho9, hb9⟩
            obtain ⟨A9, c9, rfl, _⟩ := own_cells ho9
            obtain ⟨l, hl⟩ : ∃ l, l = s2.ln.length := ⟨_, rfl⟩
            have hall := HI2.out.all
            have hql := HQ8.out.1
            have hsum : m + 1 + l = k := by omega
            have hsI : ((m : Nat) : Int) + 1 + (l : Int) = (k : Int) := by omega
            rw [← hl]
            have hl64 : l ≤ 64 := by omega
            clear hl hall hql
            have HQ9 := Lib.hid (HQ8.out.below hb9)
            have HP9 := Lib.hid (HP8.out.below hb9)
            have hb09 : Below W.heap.size W w9 := HB8.out.trans (Below.mono hb9 HB8.out.size)
            have HB9 := Lib.hid hb09
            have HU9 := HU8
            clear ho9 hb9 hb09
            go_wp2_with fail
            have HSUM := Lib.hid hsI; clear hsI
            refine ⟨⟨i + 1, F6, s2, H ++ [x], P8, m + 1, c8, by omega, by go_num, rfl, by omega, HP9, HG2, HI2, HQ9, HU9, HB9⟩, by simp [intOf]; omega⟩)
    · have hie : i = n := by omega
      clear hie
      have hmm := HQ.out.1
      go_wp2_with fail
      clear hlt hi
      have HMM := Lib.hid hmm; clear hmm
      have HI' : Hid (Inv k s (H.drop 0)) := Lib.hid (by simpa using HI.out)
      go_loopw [13] (fun v13 wr => ∃ (i : Nat) (F : Nat → Prop) (s : St), i ≤ m ∧ v13 = .int .i64 (i : Int) ∧ Hid (PoolS wr B F g 64 s) ∧ Hid (Good k 64 1 s) ∧ Hid (Inv k s (H.drop i)) ∧
        Hid (QRow wr B (.slice P m pc) m H) ∧ Hid (Out F (.slice P m pc)) ∧ Hid (Below W.heap.size W wr)) (fun v13 _ => m - (intOf v13).toNat)
      case atStart => exact ⟨0, F, s, by omega, rfl, HP, HG, HI', HQ, HU, HB⟩
      case round =>
        clear HP HG HI HI' HQ HU HB
        obtain ⟨i, F, s, hi, rfl, HP, HG, HI, HQ, HU, HB⟩ := hrel
        by_cases hlt : i < m
        · have hlt' : i < H.length := by rw [HMM.out]; exact hlt
          obtain ⟨y, hy⟩ : ∃ y, H[i]? = some y := ⟨_, List.getElem?_eq_getElem hlt'⟩
          have hdrop : H.drop i = y :: H.drop (i + 1) := by
            obtain ⟨h1, h2⟩ := List.getElem?_eq_some_iff.1 hy
            rw [List.drop_eq_getElem_cons h1, h2]
          have hinv := HI.out
          rw [hdrop] at hinv
          obtain ⟨hd1, hd2⟩ := hinv.drop HG.out
          have hdr := dropAny HP.out HG.out (by omega) (by omega) (y : Int)
          rw [hd1] at hdr
          have HDR := Lib.hid hdr
          have HI' := Lib.hid hd2
          have HG' := Lib.hid (good_drop HG.out (y : Int))
          obtain ⟨s', hs'⟩ : ∃ s', s' = dropS s (y : Int) := ⟨_, rfl⟩
          rw [← hs'] at HDR HI' HG'
          obtain ⟨Ah, ch, hAh, hch1, hch2, hcells⟩ := HQ.out.form
          injection hAh with e1 _ e3
          subst e1; subst e3
          obtain ⟨bh, oh, rfl, hcellh⟩ := hcells (by omega)
          have hch0 : wr.cell? ⟨bh, oh + i, none⟩ = some (.int .i64 (y : Int)) := by rw [hcellh i hlt]; simp [List.getD, hy]
          clear hdr hd1 hd2 hs' hcellh HI hinv hdrop hy
          go_wp2_with fail
          refine HDR.out.mono ?_; rintro e w3 ⟨rfl, F3, hp3, hs3⟩
          have hb3 : Below W.heap.size W w3 := HB.out.trans (Below.mono (hs3.below HP.out) hWB)
          have HQ3 := Lib.hid (HQ.out.moved hs3.1 HU.out)
          have HU3 := Lib.hid (HQ.out.step HU.out hs3)
          have HP3 := Lib.hid hp3
          have HB3 := Lib.hid hb3
          clear hp3 hs3 hb3 hch0
          go_wp2_with fail
          refine ⟨⟨i + 1, F3, s', by omega, by go_num, HP3, HG', HI', HQ3, HU3, HB3⟩, by simp [intOf]; omega⟩
        · have hln : s.ln.length = k := by
            have := HI.out.all
            rw [List.drop_of_length_le (by rw [HMM.out]; omega)] at this
            simpa using this
          have hal := all_free HG.out hln
          have hfr := freeAny HP.out HG.out (by omega)
          rw [hln] at hfr
          have HFR := Lib.hid hfr
          have HAL := Lib.hid hal
          clear hln hal hfr
          go_wp2_with fail
          refine HFR.out.mono ?_; rintro e w3 ⟨v3, rfl, ho3, hb3⟩
          obtain ⟨A3, c3, rfl, _⟩ := own_cells ho3
          have hby := bytesAny (HP.out.below hb3) HG.out (by omega) (by omega)
          rw [HAL.out] at hby
          have HBY : Hid (Calls Try.prog 23 #[.pointer (some ⟨g, 0, none⟩)] w3 fun e w' => e = .returned (.int .i64 0) ∧ Below w3.heap.size w3 w') := Lib.hid hby
          have hb03 : Below W.heap.size W w3 := HB.out.trans (Below.mono hb3 HB.out.size)
          have HB3 := Lib.hid hb03
          clear hby hb3 ho3 hb03
          go_wp2_with fail
          refine HBY.out.mono ?_; rintro e w5 ⟨rfl, hb5⟩
          have HB5 := Lib.hid (HB3.out.trans (Below.mono hb5 HB3.out.size)); clear hb5
          go_wp2_with fail
          go_ret
          exact ⟨rfl, HB5.out⟩

theorem lawRound (h : Int) (A : Option Addr) (n c : Nat) (ps : List (List Int)) (W : World) (h0 : (Lit.int .u8 h).wf = true) (hr : RowC W A n ps) (hm : n ≤ maxLen) :
    Calls Try.prog 7 #[.int .u8 h, .slice A n c] W fun e w' => e = .returned (.bool true) ∧ Below W.heap.size W w' := by
  have hb := byte_of_wf h0
  by_cases hl : 60 < n
  · exact lawRound_many h A n c W hl hm
  · exact lawRound_short h A n c ps W (by omega) hr (by omega)
end Go.Proofs.Ytgjmgbpphfccaaa
