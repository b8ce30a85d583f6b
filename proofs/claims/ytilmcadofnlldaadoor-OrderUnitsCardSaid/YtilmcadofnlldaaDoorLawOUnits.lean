/- OrderUnits: octets' units, and units' octets, are the document's; there and back they are themselves: the walk. -/
import Derived.Test.YtilmcadofnlldaaDoorAwake2
import Derived.Test.YtilmcadofnlldaaDoorRUnits
import Derived.Test.YtilmcadofnlldaaDoorROctets
import Derived.Test.YtilmcadofnlldaaDoorMarkAny
import Derived.Deep.RegionHeld
namespace Go.Proofs.YtilmcadofnlldaaDoor
open Go Go.RowKit
set_option linter.unusedVariables false

theorem units_room {k : Int} {l : List Int} (hb : ∀ c ∈ l, 0 ≤ c ∧ c < 256) : ∀ u ∈ unitsL k l, 0 ≤ u ∧ u < 65536 := by
  intro u hu
  unfold unitsL at hu
  split at hu
  · unfold unitsAt at hu
    obtain ⟨i, _, rfl⟩ := List.mem_map.1 hu
    have h1 : ∀ j, 0 ≤ l.getD j 0 ∧ l.getD j 0 < 256 := fun j => by
      rcases Nat.lt_or_ge j l.length with h | h
      · exact hb _ (getD_mem h)
      · simp [List.getD, List.getElem?_eq_none h]
    have a := h1 (2 * i)
    have b := h1 (2 * i + 1)
    unfold unit2
    split <;> omega
  · simp at hu
theorem i64_of_wf {c : Int} (h : (Lit.int .i64 c).wf = true) : -9223372036854775808 ≤ c ∧ c ≤ 9223372036854775807 := by
  simp [Lit.wf, IntKind.min, IntKind.max, IntKind.signed, IntKind.bits] at h
  exact ⟨by omega, by omega⟩

theorem slice_to (A : Option Addr) (len cap h : Nat) (hh : h ≤ cap) (w : World) :
    (Instr.slice 22 (.slice A len cap) none (some (.int .i64 (h : Int))) none).run Tryd.prog w = .ok (.slice A h cap) w := by
  have he : Tryd.prog.elem 22 = 5 := by kernel_rfl
  have hs : (sizeOf 5).run Tryd.prog w = .ok 1 w := by kernel_rfl
  have ht : Tryd.prog.underlying 22 = some (.slice (Tryd.prog.elem 22)) := by rw [he]; exact Tryd.underlying22
  have hr := run_slice_h (P := Tryd.prog) (w := w) (t := 22) (a := A) (len := len) (cap := cap) (ht := ht) (kh := .i64) (h := (h : Int)) (h0 := by omega) (h2 := by omega)
  rw [hr, he, hs]
  have ha : (if cap = 0 then A else A.map fun x => x.add (0 * 1)) = A := by
    split
    · rfl
    · cases A <;> simp [Addr.add]
  simp [Result.andThen, sliced]
  simpa using ha

theorem lawOUnits_long (k : Int) (A B : Option Addr) (len cap len2 cap2 : Nat) (w : World) (hM : Marks w) (hl : 100 < len) (hm : len ≤ maxLen) :
    Calls Tryd.prog 4 #[.int .i64 k, .slice A len cap, .slice B len2 cap2] w fun e w' => e = .returned (.bool true) ∧ Below w.heap.size w w' := by
  unfold maxLen at hm
  have hd : decide ((100 : Int) < (len : Int)) = true := by simp; omega
  go_enter Tryd.func4, Tryd.ntmps4
  go_wp2_with fail
  refine (awake2_any _ hM).mono ?_; rintro e w1 ⟨rfl, hbel⟩
  have hM1 := hM.below hbel (Nat.le_refl _)
  go_wp2_with fail
  refine (awake2_any _ hM1).mono ?_; rintro e w2 ⟨rfl, hbel2⟩
  go_wp2_with fail
  go_ret
  exact ⟨rfl, hbel.trans (Below.mono hbel2 hbel.size)⟩

theorem lawOUnits_long2 (k : Int) (A B : Option Addr) (len cap len2 cap2 : Nat) (w : World) (hM : Marks w) (hl1 : len ≤ 100) (hl : 60 < len2) (hm : len2 ≤ maxLen) :
    Calls Tryd.prog 4 #[.int .i64 k, .slice A len cap, .slice B len2 cap2] w fun e w' => e = .returned (.bool true) ∧ Below w.heap.size w w' := by
  unfold maxLen at hm
  have hd : decide ((100 : Int) < (len : Int)) = false := by simp; omega
  have hd2 : decide ((60 : Int) < (len2 : Int)) = true := by simp; omega
  go_enter Tryd.func4, Tryd.ntmps4
  go_wp2_with fail
  refine (awake2_any _ hM).mono ?_; rintro e w1 ⟨rfl, hbel⟩
  have hM1 := hM.below hbel (Nat.le_refl _)
  go_wp2_with fail
  refine (awake2_any _ hM1).mono ?_; rintro e w2 ⟨rfl, hbel2⟩
  go_wp2_with fail
  go_ret
  exact ⟨rfl, hbel.trans (Below.mono hbel2 hbel.size)⟩

set_option maxHeartbeats 4000000 in
theorem lawOUnits_other (k : Int) (h2 : k ≠ 2) (h3 : k ≠ 3) (A B : Option Addr) (len cap len2 cap2 : Nat) (l xs : List Int) (W : World) (hM : Marks W) (hl : len ≤ 100) (hl2 : len2 ≤ 60)
    (hr : RowI .u8 W A len l) (hcap : len ≤ cap) (hcm : cap ≤ maxLen) (hby : ∀ c ∈ l, 0 ≤ c ∧ c < 256)
    (hrr : RowI .i64 W B len2 xs) (hby2 : ∀ c ∈ xs, -9223372036854775808 ≤ c ∧ c ≤ 9223372036854775807) :
    Calls Tryd.prog 4 #[.int .i64 k, .slice A len cap, .slice B len2 cap2] W fun e w' => e = .returned (.bool true) ∧ Below W.heap.size W w' := by
  have hd : decide ((100 : Int) < (len : Int)) = false := by simp; omega
  have hd2 : decide ((60 : Int) < (len2 : Int)) = false := by simp; omega
  have hcm2 : cap ≤ 9223372036854775807 := by unfold maxLen at hcm; omega
  have hll := hr.1
  have hll2 := hrr.1
  obtain ⟨S, hS⟩ : ∃ S, S = strOfNums l := ⟨_, rfl⟩
  have hnS : nums S = l := by rw [hS]; exact nums_strOfNums l hby
  have hSz : S.size ≤ 1000 := by rw [hS, strOfNums_size, hll]; omega
  have hu := fun w (h : RowI .u8 w A len l) => ounits_any k A len cap l w h hby (by omega)
  have hru := fun w => runits_any k S w hSz
  rw [hnS] at hru
  have ho := fun w (h : RowI .i64 w B len2 xs) => ooctets_any k B len2 cap2 xs w h hby2 (by omega)
  have hro := fun w (h : RowI .i64 w B len2 xs) => roctets_any k B len2 cap2 xs w h hby2 (by omega)
  have hur := units_room (k := k) hby
  have hulen : (unitsL k l).length ≤ 100 := by
    unfold unitsL
    split
    · rw [unitsAt_length]; omega
    · simp
  have hobyte := octL_byte k xs
  have holen := octL_le k xs
  have hno1 : (unitsL k l).length = 0 := by rw [unitsL_no (fun h => h.elim h2 h3)]; rfl
  have hno2 : (octL k xs).length = 0 := by rw [octL_no (fun h => h.elim h2 h3)]; rfl
  have e2 : (k != 2) = true := by simpa using h2
  have e3 : (k != 3) = true := by simpa using h3
  clear h2 h3
  obtain ⟨us, hus⟩ : ∃ us, us = unitsL k l := ⟨_, rfl⟩
  obtain ⟨oc, hoc⟩ : ∃ oc, oc = octL k xs := ⟨_, rfl⟩
  rw [← hus] at hu hru hur hulen
  rw [← hoc] at ho hro hobyte holen
  obtain ⟨m, hm⟩ : ∃ m, m = us.length := ⟨_, rfl⟩
  rw [← hm] at hu hru hulen
  obtain ⟨n, hn⟩ : ∃ n, n = oc.length := ⟨_, rfl⟩
  rw [← hn] at ho holen
  obtain ⟨T, hT⟩ : ∃ T, T = strOfNums oc := ⟨_, rfl⟩
  rw [← hT] at hro
  have hcvb : ∀ (w : World), RowI .u8 w A len l → (convert 22 9 (.slice A len cap)).run Tryd.prog w = .ok (.string S) w := fun w h => by rw [hS]; exact strRow w A len cap l h
  have hcvo : ∀ (A : Option Addr) (c : Nat) (w : World), RowI .u8 w A n oc → (convert 22 9 (.slice A n c)).run Tryd.prog w = .ok (.string T) w := fun A c w h => by rw [hT]; exact strRow w A n c oc h
  have hm0 : ((m : Int) == 0) = true := by rw [hm, hus, hno1]; rfl
  have hn0 : ((n : Int) == 0) = true := by rw [hn, hoc, hno2]; rfl
  clear hno1 hno2
  have HU := Lib.hid hu; clear hu
  have HRU := Lib.hid hru; clear hru
  have HO := Lib.hid ho; clear ho
  have HRO := Lib.hid hro; clear hro
  have HUR := Lib.hid hur; clear hur
  have HOB := Lib.hid hobyte; clear hobyte
  have HCVB := Lib.hid hcvb; clear hcvb
  have HCVO := Lib.hid hcvo; clear hcvo
  have HR := Lib.hid hr; clear hr
  have HRR := Lib.hid hrr; clear hrr
  have HM := Lib.hid hM; clear hM
  have HLL := Lib.hid hll; clear hll
  have HLL2 := Lib.hid hll2; clear hll2
  have Hm := Lib.hid hm; clear hm
  have Hn := Lib.hid hn; clear hn
  have HCM := Lib.hid hcm; clear hcm
  clear hus hoc hS hT hnS hSz hby hby2
  have hTT : (T.toList != T.toList) = false := by simp
  go_enter Tryd.func4, Tryd.ntmps4
  go_wp2_with fail
  refine (awake2_any _ HM.out).mono ?_; rintro e w1 ⟨rfl, hbel⟩
  go_wp2_with fail
  refine (HU.out _ (HR.out.below hbel (Nat.le_refl _))).mono ?_; rintro e w3 ⟨A3, c3, rfl, r3, b3⟩
  have hW3 : Below W.heap.size W w3 := hbel.trans (Below.mono b3 hbel.size)
  go_wp2_with fail
  refine (HO.out _ (HRR.out.below hW3 (Nat.le_refl _))).mono ?_; rintro e w4 ⟨A4, c4, rfl, r4, q1, q2, q3, b4⟩
  have hW4 : Below W.heap.size W w4 := hW3.trans (Below.mono b4 hW3.size)
  have r34 := r3.below b4 (Nat.le_refl _)
  have hr4 := HR.out.below hW4 (Nat.le_refl _)
  have hrr4 := HRR.out.below hW4 (Nat.le_refl _)
  clear b3 b4 hbel hW3 r3
  have hcb : ∀ w, Below w4.heap.size w4 w → (convert 22 9 (.slice A len cap)).run Tryd.prog w = .ok (.string S) w := fun w h => HCVB.out w (hr4.below h (Nat.le_refl _))
  have hco : ∀ w, Below w4.heap.size w4 w → (convert 22 9 (.slice A4 n c4)).run Tryd.prog w = .ok (.string T) w := fun w h => HCVO.out A4 c4 w (r4.below h (Nat.le_refl _))
  have hru4 : ∀ w, Below w4.heap.size w4 w → Calls Tryd.prog 15 #[.int .i64 k, .string S] w fun e w' => ∃ A' c', e = .returned (.slice A' m c') ∧ Hid (Calls Tryd.prog 14 #[.slice A3 m c3, .slice A' m c'] w' fun e w'' => e = .returned (.bool true) ∧ Below w4.heap.size w4 w'') ∧ Below w4.heap.size w4 w' := fun w h =>
    (HRU.out w).mono fun e w' ⟨A', c', he, hrow, hb⟩ => by
      have hb' : Below w4.heap.size w4 w' := h.trans (Below.mono hb h.size)
      have hi := ints_row A3 A' m c3 c' us us w' (r34.below hb' (Nat.le_refl _)) hrow (by omega)
      rw [decide_eq_true rfl] at hi
      exact ⟨A', c', he, Lib.hid (hi.mono fun e w'' ⟨h1, q, h2⟩ => ⟨h1, by rw [h2]; exact below_drewN hb' q⟩), hb'⟩
  have hro4 : ∀ w, Below w4.heap.size w4 w → Calls Tryd.prog 16 #[.int .i64 k, .slice B len2 cap2] w fun e w' => e = .returned (.string T) ∧ Below w4.heap.size w4 w' := fun w h =>
    (HRO.out w (hrr4.below h (Nat.le_refl _))).mono fun e w' ⟨he, hb⟩ => ⟨he, h.trans (Below.mono hb h.size)⟩
  have HRU4 := Lib.hid hru4; clear hru4
  have HRO4 := Lib.hid hro4; clear hro4
  have R34 := Lib.hid r34; clear r34
  have R4 := Lib.hid r4; clear r4
  have HR4 := Lib.hid hr4; clear hr4
  have HRR4 := Lib.hid hrr4; clear hrr4
  have hr0 : Below w4.heap.size w4 w4.drew := (Below.refl _ _).drew
  go_wp2_with fail
  go_region_held (fun w' => Below w4.heap.size w4 w') (assumption) (first
    | (go_at_call 15; refine (HRU4.out _ (by assumption)).mono ?_; rintro e w5 ⟨A5, c5, rfl, HI5, hb5⟩)
    | (go_at_call 14; with_reducible refine HI5.out.mono ?_; rintro e w6 ⟨rfl, hb6⟩)
    | (go_at_call 16; refine (HRO4.out _ (by assumption)).mono ?_; rintro e w7 ⟨rfl, hb7⟩))
  have hW7 : Below W.heap.size W w7 := hW4.trans (Below.mono (by assumption) hW4.size)
  go_wp2_with fail
  go_ret
  exact ⟨by simp, hW7⟩

set_option maxHeartbeats 4000000 in
theorem lawOUnits_k2 (k : Int) (hk : k = 2) (A B : Option Addr) (len cap len2 cap2 : Nat) (l xs : List Int) (W : World) (hM : Marks W) (hl : len ≤ 100) (hl2 : len2 ≤ 60)
    (hr : RowI .u8 W A len l) (hcap : len ≤ cap) (hcm : cap ≤ maxLen) (hby : ∀ c ∈ l, 0 ≤ c ∧ c < 256)
    (hrr : RowI .i64 W B len2 xs) (hby2 : ∀ c ∈ xs, -9223372036854775808 ≤ c ∧ c ≤ 9223372036854775807) :
    Calls Tryd.prog 4 #[.int .i64 k, .slice A len cap, .slice B len2 cap2] W fun e w' => e = .returned (.bool true) ∧ Below W.heap.size W w' := by
  subst hk
  have hd : decide ((100 : Int) < (len : Int)) = false := by simp; omega
  have hd2 : decide ((60 : Int) < (len2 : Int)) = false := by simp; omega
  have hcm2 : cap ≤ 9223372036854775807 := by unfold maxLen at hcm; omega
  have hll := hr.1
  have hll2 := hrr.1
  obtain ⟨S, hS⟩ : ∃ S, S = strOfNums l := ⟨_, rfl⟩
  have hnS : nums S = l := by rw [hS]; exact nums_strOfNums l hby
  have hSz : S.size ≤ 1000 := by rw [hS, strOfNums_size, hll]; omega
  have hu := fun w (h : RowI .u8 w A len l) => ounits_any 2 A len cap l w h hby (by omega)
  have hru := fun w => runits_any 2 S w hSz
  rw [hnS] at hru
  have ho := fun w (h : RowI .i64 w B len2 xs) => ooctets_any 2 B len2 cap2 xs w h hby2 (by omega)
  have hro := fun w (h : RowI .i64 w B len2 xs) => roctets_any 2 B len2 cap2 xs w h hby2 (by omega)
  have hur := units_room (k := 2) hby
  have hulen : (unitsL 2 l).length ≤ 100 := by
    unfold unitsL
    split
    · rw [unitsAt_length]; omega
    · simp
  have hobyte := octL_byte 2 xs
  have holen := octL_le 2 xs
  have hk : (2 : Int) = 2 ∨ (2 : Int) = 3 := .inl rfl
  have hp := oct_units hk l hby (len / 2) (by omega)
  rw [show len / 2 = l.length / 2 by rw [hll], ← unitsL_is hk, hll] at hp
  have hpl : (octL 2 (unitsL 2 l)).length = 2 * (len / 2) := by rw [hp, List.length_take]; omega
  have hback : (unitsL 2 (octL 2 xs)).length = len2 := by rw [unitsL_length hk, octL_length hk]; omega
  obtain ⟨us, hus⟩ : ∃ us, us = unitsL 2 l := ⟨_, rfl⟩
  obtain ⟨oc, hoc⟩ : ∃ oc, oc = octL 2 xs := ⟨_, rfl⟩
  rw [← hus] at hu hru hur hulen
  rw [← hoc] at ho hro hobyte holen
  obtain ⟨m, hm⟩ : ∃ m, m = us.length := ⟨_, rfl⟩
  rw [← hm] at hu hru hulen
  obtain ⟨n, hn⟩ : ∃ n, n = oc.length := ⟨_, rfl⟩
  rw [← hn] at ho holen
  obtain ⟨T, hT⟩ : ∃ T, T = strOfNums oc := ⟨_, rfl⟩
  rw [← hT] at hro
  have hcvb : ∀ (w : World), RowI .u8 w A len l → (convert 22 9 (.slice A len cap)).run Tryd.prog w = .ok (.string S) w := fun w h => by rw [hS]; exact strRow w A len cap l h
  have hcvo : ∀ (A : Option Addr) (c : Nat) (w : World), RowI .u8 w A n oc → (convert 22 9 (.slice A n c)).run Tryd.prog w = .ok (.string T) w := fun A c w h => by rw [hT]; exact strRow w A n c oc h
  have hou := fun (A : Option Addr) (c : Nat) (w : World) (h : RowI .i64 w A m us) => ooctets_any 2 A m c us w h (fun u hu => by have := hur u hu; omega) (by omega)
  rw [← hus] at hp hpl
  rw [hpl, hp] at hou
  rw [← hoc] at hback
  have huo := fun (A : Option Addr) (c : Nat) (w : World) (h : RowI .u8 w A n oc) => ounits_any 2 A n c oc w h hobyte (by omega)
  rw [hback] at huo
  obtain ⟨h1, hh1⟩ : ∃ h, h = len / 2 := ⟨_, rfl⟩
  obtain ⟨h2, hh2⟩ : ∃ h, h = 2 * (len / 2) := ⟨_, rfl⟩
  rw [← hh2] at hou
  obtain ⟨U, hU⟩ : ∃ U, U = strOfNums (l.take h2) := ⟨_, rfl⟩
  have hcvu : ∀ (A : Option Addr) (c : Nat) (w : World), RowI .u8 w A h2 (l.take h2) → (convert 22 9 (.slice A h2 c)).run Tryd.prog w = .ok (.string U) w := fun A c w h => by rw [hU]; exact strRow w A h2 c _ h
  have hcutw : ∀ w, RowI .u8 w A len l → RowI .u8 w A h2 (l.take h2) := fun w h => by
    rcases Nat.eq_zero_or_pos len with h0 | h0
    · have : h2 = 0 := by omega
      subst this
      exact RowI.nil_
    · obtain ⟨b, o, rfl, _, _⟩ := h.2 h0
      exact cut0 h h2 (by omega)
  have hsl := slice_to A len cap h2 (by omega)
  have hq0 : Int.tdiv (len : Int) 2 = (h1 : Int) := by rw [Int.tdiv_eq_ediv_of_nonneg (by omega)]; omega
  have hq1 : (len : Int) / 2 = (h1 : Int) := by omega
  have hq2 : (h1 : Int) * 2 = (h2 : Int) := by omega
  have hq3 : IntKind.i64.wrap (h1 : Int) = h1 := by rw [IntKind.wrap_i64]; omega
  have hq4 : IntKind.i64.wrap (h2 : Int) = h2 := by rw [IntKind.wrap_i64]; omega
  have hq5 : (0 : Int) ≤ (h2 : Int) := by omega
  have hq6 : (h2 : Int) ≤ (cap : Int) := by omega
  have HOU := Lib.hid hou; clear hou
  have HUO := Lib.hid huo; clear huo
  have HCVU := Lib.hid hcvu; clear hcvu
  have HCUT := Lib.hid hcutw; clear hcutw
  have hUU : (U.toList == U.toList) = true := by simp
  have hee : ((len2 : Int) == (len2 : Int)) = true := by simp
  clear hp hpl hback hU hh1 hh2 hk
  have HU := Lib.hid hu; clear hu
  have HRU := Lib.hid hru; clear hru
  have HO := Lib.hid ho; clear ho
  have HRO := Lib.hid hro; clear hro
  have HUR := Lib.hid hur; clear hur
  have HOB := Lib.hid hobyte; clear hobyte
  have HCVB := Lib.hid hcvb; clear hcvb
  have HCVO := Lib.hid hcvo; clear hcvo
  have HR := Lib.hid hr; clear hr
  have HRR := Lib.hid hrr; clear hrr
  have HM := Lib.hid hM; clear hM
  have HLL := Lib.hid hll; clear hll
  have HLL2 := Lib.hid hll2; clear hll2
  have Hm := Lib.hid hm; clear hm
  have Hn := Lib.hid hn; clear hn
  have HCM := Lib.hid hcm; clear hcm
  clear hus hoc hS hT hnS hSz hby hby2
  have hTT : (T.toList != T.toList) = false := by simp
  go_enter Tryd.func4, Tryd.ntmps4
  go_wp2_with fail
  refine (awake2_any _ HM.out).mono ?_; rintro e w1 ⟨rfl, hbel⟩
  go_wp2_with fail
  refine (HU.out _ (HR.out.below hbel (Nat.le_refl _))).mono ?_; rintro e w3 ⟨A3, c3, rfl, r3, b3⟩
  have hW3 : Below W.heap.size W w3 := hbel.trans (Below.mono b3 hbel.size)
  go_wp2_with fail
  refine (HO.out _ (HRR.out.below hW3 (Nat.le_refl _))).mono ?_; rintro e w4 ⟨A4, c4, rfl, r4, q1, q2, q3, b4⟩
  have hW4 : Below W.heap.size W w4 := hW3.trans (Below.mono b4 hW3.size)
  have r34 := r3.below b4 (Nat.le_refl _)
  have hr4 := HR.out.below hW4 (Nat.le_refl _)
  have hrr4 := HRR.out.below hW4 (Nat.le_refl _)
  clear b3 b4 hbel hW3 r3
  have hcb : ∀ w, Below w4.heap.size w4 w → (convert 22 9 (.slice A len cap)).run Tryd.prog w = .ok (.string S) w := fun w h => HCVB.out w (hr4.below h (Nat.le_refl _))
  have hco : ∀ w, Below w4.heap.size w4 w → (convert 22 9 (.slice A4 n c4)).run Tryd.prog w = .ok (.string T) w := fun w h => HCVO.out A4 c4 w (r4.below h (Nat.le_refl _))
  have hru4 : ∀ w, Below w4.heap.size w4 w → Calls Tryd.prog 15 #[.int .i64 2, .string S] w fun e w' => ∃ A' c', e = .returned (.slice A' m c') ∧ Hid (Calls Tryd.prog 14 #[.slice A3 m c3, .slice A' m c'] w' fun e w'' => e = .returned (.bool true) ∧ Below w4.heap.size w4 w'') ∧ Below w4.heap.size w4 w' := fun w h =>
    (HRU.out w).mono fun e w' ⟨A', c', he, hrow, hb⟩ => by
      have hb' : Below w4.heap.size w4 w' := h.trans (Below.mono hb h.size)
      have hi := ints_row A3 A' m c3 c' us us w' (r34.below hb' (Nat.le_refl _)) hrow (by omega)
      rw [decide_eq_true rfl] at hi
      exact ⟨A', c', he, Lib.hid (hi.mono fun e w'' ⟨h1, q, h2⟩ => ⟨h1, by rw [h2]; exact below_drewN hb' q⟩), hb'⟩
  have hro4 : ∀ w, Below w4.heap.size w4 w → Calls Tryd.prog 16 #[.int .i64 2, .slice B len2 cap2] w fun e w' => e = .returned (.string T) ∧ Below w4.heap.size w4 w' := fun w h =>
    (HRO.out w (hrr4.below h (Nat.le_refl _))).mono fun e w' ⟨he, hb⟩ => ⟨he, h.trans (Below.mono hb h.size)⟩
  have HRU4 := Lib.hid hru4; clear hru4
  have HRO4 := Lib.hid hro4; clear hro4
  have R34 := Lib.hid r34; clear r34
  have R4 := Lib.hid r4; clear r4
  have HR4 := Lib.hid hr4; clear hr4
  have HRR4 := Lib.hid hrr4; clear hrr4
  have hr0 : Below w4.heap.size w4 w4.drew := (Below.refl _ _).drew
  go_wp2_with fail
  go_region_held (fun w' => Below w4.heap.size w4 w') (assumption) (first
    | (go_at_call 15; refine (HRU4.out _ (by assumption)).mono ?_; rintro e w5 ⟨A5, c5, rfl, HI5, hb5⟩)
    | (go_at_call 14; with_reducible refine HI5.out.mono ?_; rintro e w6 ⟨rfl, hb6⟩)
    | (go_at_call 16; refine (HRO4.out _ (by assumption)).mono ?_; rintro e w7 ⟨rfl, hb7⟩))
  have hb7z : Below w4.heap.size w4 w7 := by assumption
  have hW7 : Below W.heap.size W w7 := hW4.trans (Below.mono hb7z hW4.size)
  have r37 := R34.out.below hb7z (Nat.le_refl _)
  have r47 := R4.out.below hb7z (Nat.le_refl _)
  have hr7 := HCUT.out w7 (HR.out.below hW7 (Nat.le_refl _))
  clear hcb hco hr0 hb7z
  have hou7 : ∀ w, Below w7.heap.size w7 w → Calls Tryd.prog 13 #[.int .i64 2, .slice A3 m c3] w fun e w' => ∃ A8 c8, e = .returned (.slice A8 h2 c8) ∧ (∀ w'', Below w'.heap.size w' w'' → (convert 22 9 (.slice A8 h2 c8)).run Tryd.prog w'' = .ok (.string U) w'') ∧ Below w7.heap.size w7 w' := fun w h =>
    (HOU.out A3 c3 w (r37.below h (Nat.le_refl _))).mono fun e w' ⟨A8, c8, he, hrow, _, _, _, hb⟩ => ⟨A8, c8, he, fun w'' hb' => HCVU.out A8 c8 w'' (hrow.below hb' (Nat.le_refl _)), h.trans (Below.mono hb h.size)⟩
  have huo7 : ∀ w, Below w7.heap.size w7 w → Calls Tryd.prog 12 #[.int .i64 2, .slice A4 n c4] w fun e w' => ∃ A9 c9, e = .returned (.slice A9 len2 c9) ∧ Below w7.heap.size w7 w' := fun w h =>
    (HUO.out A4 c4 w (r47.below h (Nat.le_refl _))).mono fun e w' ⟨A9, c9, he, _, hb⟩ => ⟨A9, c9, he, h.trans (Below.mono hb h.size)⟩
  have hcb7 : ∀ w, Below w7.heap.size w7 w → (convert 22 9 (.slice A h2 cap)).run Tryd.prog w = .ok (.string U) w := fun w h => HCVU.out A cap w (hr7.below h (Nat.le_refl _))
  have HOU7 := Lib.hid hou7; clear hou7
  have HUO7 := Lib.hid huo7; clear huo7
  have hr07 : Below w7.heap.size w7 w7.drew := (Below.refl _ _).drew
  clear r37 r47 hr7
  go_wp2_with fail
  go_region_held (fun w' => Below w7.heap.size w7 w') (assumption) (first
    | (go_at_call 13; refine (HOU7.out _ (by assumption)).mono ?_; rintro e w8 ⟨A8, c8, rfl, hc8, hb8⟩; have hb8' := Below.refl w8.heap.size w8; have hc8' := hc8 w8 hb8')
    | (go_at_call 12; refine (HUO7.out _ (by assumption)).mono ?_; rintro e w9 ⟨A9, c9, rfl, hb9⟩))
  all_goals
    go_wp2_with fail
    go_ret
    exact ⟨by simp, hW7.trans (Below.mono (by assumption) hW7.size)⟩

set_option maxHeartbeats 4000000 in
theorem lawOUnits_k3 (k : Int) (hk : k = 3) (A B : Option Addr) (len cap len2 cap2 : Nat) (l xs : List Int) (W : World) (hM : Marks W) (hl : len ≤ 100) (hl2 : len2 ≤ 60)
    (hr : RowI .u8 W A len l) (hcap : len ≤ cap) (hcm : cap ≤ maxLen) (hby : ∀ c ∈ l, 0 ≤ c ∧ c < 256)
    (hrr : RowI .i64 W B len2 xs) (hby2 : ∀ c ∈ xs, -9223372036854775808 ≤ c ∧ c ≤ 9223372036854775807) :
    Calls Tryd.prog 4 #[.int .i64 k, .slice A len cap, .slice B len2 cap2] W fun e w' => e = .returned (.bool true) ∧ Below W.heap.size W w' := by
  subst hk
  have hd : decide ((100 : Int) < (len : Int)) = false := by simp; omega
  have hd2 : decide ((60 : Int) < (len2 : Int)) = false := by simp; omega
  have hcm2 : cap ≤ 9223372036854775807 := by unfold maxLen at hcm; omega
  have hll := hr.1
  have hll2 := hrr.1
  obtain ⟨S, hS⟩ : ∃ S, S = strOfNums l := ⟨_, rfl⟩
  have hnS : nums S = l := by rw [hS]; exact nums_strOfNums l hby
  have hSz : S.size ≤ 1000 := by rw [hS, strOfNums_size, hll]; omega
  have hu := fun w (h : RowI .u8 w A len l) => ounits_any 3 A len cap l w h hby (by omega)
  have hru := fun w => runits_any 3 S w hSz
  rw [hnS] at hru
  have ho := fun w (h : RowI .i64 w B len2 xs) => ooctets_any 3 B len2 cap2 xs w h hby2 (by omega)
  have hro := fun w (h : RowI .i64 w B len2 xs) => roctets_any 3 B len2 cap2 xs w h hby2 (by omega)
  have hur := units_room (k := 3) hby
  have hulen : (unitsL 3 l).length ≤ 100 := by
    unfold unitsL
    split
    · rw [unitsAt_length]; omega
    · simp
  have hobyte := octL_byte 3 xs
  have holen := octL_le 3 xs
  have hk : (3 : Int) = 2 ∨ (3 : Int) = 3 := .inr rfl
  have hp := oct_units hk l hby (len / 2) (by omega)
  rw [show len / 2 = l.length / 2 by rw [hll], ← unitsL_is hk, hll] at hp
  have hpl : (octL 3 (unitsL 3 l)).length = 2 * (len / 2) := by rw [hp, List.length_take]; omega
  have hback : (unitsL 3 (octL 3 xs)).length = len2 := by rw [unitsL_length hk, octL_length hk]; omega
  obtain ⟨us, hus⟩ : ∃ us, us = unitsL 3 l := ⟨_, rfl⟩
  obtain ⟨oc, hoc⟩ : ∃ oc, oc = octL 3 xs := ⟨_, rfl⟩
  rw [← hus] at hu hru hur hulen
  rw [← hoc] at ho hro hobyte holen
  obtain ⟨m, hm⟩ : ∃ m, m = us.length := ⟨_, rfl⟩
  rw [← hm] at hu hru hulen
  obtain ⟨n, hn⟩ : ∃ n, n = oc.length := ⟨_, rfl⟩
  rw [← hn] at ho holen
  obtain ⟨T, hT⟩ : ∃ T, T = strOfNums oc := ⟨_, rfl⟩
  rw [← hT] at hro
  have hcvb : ∀ (w : World), RowI .u8 w A len l → (convert 22 9 (.slice A len cap)).run Tryd.prog w = .ok (.string S) w := fun w h => by rw [hS]; exact strRow w A len cap l h
  have hcvo : ∀ (A : Option Addr) (c : Nat) (w : World), RowI .u8 w A n oc → (convert 22 9 (.slice A n c)).run Tryd.prog w = .ok (.string T) w := fun A c w h => by rw [hT]; exact strRow w A n c oc h
  have hou := fun (A : Option Addr) (c : Nat) (w : World) (h : RowI .i64 w A m us) => ooctets_any 3 A m c us w h (fun u hu => by have := hur u hu; omega) (by omega)
  rw [← hus] at hp hpl
  rw [hpl, hp] at hou
  rw [← hoc] at hback
  have huo := fun (A : Option Addr) (c : Nat) (w : World) (h : RowI .u8 w A n oc) => ounits_any 3 A n c oc w h hobyte (by omega)
  rw [hback] at huo
  obtain ⟨h1, hh1⟩ : ∃ h, h = len / 2 := ⟨_, rfl⟩
  obtain ⟨h2, hh2⟩ : ∃ h, h = 2 * (len / 2) := ⟨_, rfl⟩
  rw [← hh2] at hou
  obtain ⟨U, hU⟩ : ∃ U, U = strOfNums (l.take h2) := ⟨_, rfl⟩
  have hcvu : ∀ (A : Option Addr) (c : Nat) (w : World), RowI .u8 w A h2 (l.take h2) → (convert 22 9 (.slice A h2 c)).run Tryd.prog w = .ok (.string U) w := fun A c w h => by rw [hU]; exact strRow w A h2 c _ h
  have hcutw : ∀ w, RowI .u8 w A len l → RowI .u8 w A h2 (l.take h2) := fun w h => by
    rcases Nat.eq_zero_or_pos len with h0 | h0
    · have : h2 = 0 := by omega
      subst this
      exact RowI.nil_
    · obtain ⟨b, o, rfl, _, _⟩ := h.2 h0
      exact cut0 h h2 (by omega)
  have hsl := slice_to A len cap h2 (by omega)
  have hq0 : Int.tdiv (len : Int) 2 = (h1 : Int) := by rw [Int.tdiv_eq_ediv_of_nonneg (by omega)]; omega
  have hq1 : (len : Int) / 2 = (h1 : Int) := by omega
  have hq2 : (h1 : Int) * 2 = (h2 : Int) := by omega
  have hq3 : IntKind.i64.wrap (h1 : Int) = h1 := by rw [IntKind.wrap_i64]; omega
  have hq4 : IntKind.i64.wrap (h2 : Int) = h2 := by rw [IntKind.wrap_i64]; omega
  have hq5 : (0 : Int) ≤ (h2 : Int) := by omega
  have hq6 : (h2 : Int) ≤ (cap : Int) := by omega
  have HOU := Lib.hid hou; clear hou
  have HUO := Lib.hid huo; clear huo
  have HCVU := Lib.hid hcvu; clear hcvu
  have HCUT := Lib.hid hcutw; clear hcutw
  have hUU : (U.toList == U.toList) = true := by simp
  have hee : ((len2 : Int) == (len2 : Int)) = true := by simp
  clear hp hpl hback hU hh1 hh2 hk
  have HU := Lib.hid hu; clear hu
  have HRU := Lib.hid hru; clear hru
  have HO := Lib.hid ho; clear ho
  have HRO := Lib.hid hro; clear hro
  have HUR := Lib.hid hur; clear hur
  have HOB := Lib.hid hobyte; clear hobyte
  have HCVB := Lib.hid hcvb; clear hcvb
  have HCVO := Lib.hid hcvo; clear hcvo
  have HR := Lib.hid hr; clear hr
  have HRR := Lib.hid hrr; clear hrr
  have HM := Lib.hid hM; clear hM
  have HLL := Lib.hid hll; clear hll
  have HLL2 := Lib.hid hll2; clear hll2
  have Hm := Lib.hid hm; clear hm
  have Hn := Lib.hid hn; clear hn
  have HCM := Lib.hid hcm; clear hcm
  clear hus hoc hS hT hnS hSz hby hby2
  have hTT : (T.toList != T.toList) = false := by simp
  go_enter Tryd.func4, Tryd.ntmps4
  go_wp2_with fail
  refine (awake2_any _ HM.out).mono ?_; rintro e w1 ⟨rfl, hbel⟩
  go_wp2_with fail
  refine (HU.out _ (HR.out.below hbel (Nat.le_refl _))).mono ?_; rintro e w3 ⟨A3, c3, rfl, r3, b3⟩
  have hW3 : Below W.heap.size W w3 := hbel.trans (Below.mono b3 hbel.size)
  go_wp2_with fail
  refine (HO.out _ (HRR.out.below hW3 (Nat.le_refl _))).mono ?_; rintro e w4 ⟨A4, c4, rfl, r4, q1, q2, q3, b4⟩
  have hW4 : Below W.heap.size W w4 := hW3.trans (Below.mono b4 hW3.size)
  have r34 := r3.below b4 (Nat.le_refl _)
  have hr4 := HR.out.below hW4 (Nat.le_refl _)
  have hrr4 := HRR.out.below hW4 (Nat.le_refl _)
  clear b3 b4 hbel hW3 r3
  have hcb : ∀ w, Below w4.heap.size w4 w → (convert 22 9 (.slice A len cap)).run Tryd.prog w = .ok (.string S) w := fun w h => HCVB.out w (hr4.below h (Nat.le_refl _))
  have hco : ∀ w, Below w4.heap.size w4 w → (convert 22 9 (.slice A4 n c4)).run Tryd.prog w = .ok (.string T) w := fun w h => HCVO.out A4 c4 w (r4.below h (Nat.le_refl _))
  have hru4 : ∀ w, Below w4.heap.size w4 w → Calls Tryd.prog 15 #[.int .i64 3, .string S] w fun e w' => ∃ A' c', e = .returned (.slice A' m c') ∧ Hid (Calls Tryd.prog 14 #[.slice A3 m c3, .slice A' m c'] w' fun e w'' => e = .returned (.bool true) ∧ Below w4.heap.size w4 w'') ∧ Below w4.heap.size w4 w' := fun w h =>
    (HRU.out w).mono fun e w' ⟨A', c', he, hrow, hb⟩ => by
      have hb' : Below w4.heap.size w4 w' := h.trans (Below.mono hb h.size)
      have hi := ints_row A3 A' m c3 c' us us w' (r34.below hb' (Nat.le_refl _)) hrow (by omega)
      rw [decide_eq_true rfl] at hi
      exact ⟨A', c', he, Lib.hid (hi.mono fun e w'' ⟨h1, q, h2⟩ => ⟨h1, by rw [h2]; exact below_drewN hb' q⟩), hb'⟩
  have hro4 : ∀ w, Below w4.heap.size w4 w → Calls Tryd.prog 16 #[.int .i64 3, .slice B len2 cap2] w fun e w' => e = .returned (.string T) ∧ Below w4.heap.size w4 w' := fun w h =>
    (HRO.out w (hrr4.below h (Nat.le_refl _))).mono fun e w' ⟨he, hb⟩ => ⟨he, h.trans (Below.mono hb h.size)⟩
  have HRU4 := Lib.hid hru4; clear hru4
  have HRO4 := Lib.hid hro4; clear hro4
  have R34 := Lib.hid r34; clear r34
  have R4 := Lib.hid r4; clear r4
  have HR4 := Lib.hid hr4; clear hr4
  have HRR4 := Lib.hid hrr4; clear hrr4
  have hr0 : Below w4.heap.size w4 w4.drew := (Below.refl _ _).drew
  go_wp2_with fail
  go_region_held (fun w' => Below w4.heap.size w4 w') (assumption) (first
    | (go_at_call 15; refine (HRU4.out _ (by assumption)).mono ?_; rintro e w5 ⟨A5, c5, rfl, HI5, hb5⟩)
    | (go_at_call 14; with_reducible refine HI5.out.mono ?_; rintro e w6 ⟨rfl, hb6⟩)
    | (go_at_call 16; refine (HRO4.out _ (by assumption)).mono ?_; rintro e w7 ⟨rfl, hb7⟩))
  have hb7z : Below w4.heap.size w4 w7 := by assumption
  have hW7 : Below W.heap.size W w7 := hW4.trans (Below.mono hb7z hW4.size)
  have r37 := R34.out.below hb7z (Nat.le_refl _)
  have r47 := R4.out.below hb7z (Nat.le_refl _)
  have hr7 := HCUT.out w7 (HR.out.below hW7 (Nat.le_refl _))
  clear hcb hco hr0 hb7z
  have hou7 : ∀ w, Below w7.heap.size w7 w → Calls Tryd.prog 13 #[.int .i64 3, .slice A3 m c3] w fun e w' => ∃ A8 c8, e = .returned (.slice A8 h2 c8) ∧ (∀ w'', Below w'.heap.size w' w'' → (convert 22 9 (.slice A8 h2 c8)).run Tryd.prog w'' = .ok (.string U) w'') ∧ Below w7.heap.size w7 w' := fun w h =>
    (HOU.out A3 c3 w (r37.below h (Nat.le_refl _))).mono fun e w' ⟨A8, c8, he, hrow, _, _, _, hb⟩ => ⟨A8, c8, he, fun w'' hb' => HCVU.out A8 c8 w'' (hrow.below hb' (Nat.le_refl _)), h.trans (Below.mono hb h.size)⟩
  have huo7 : ∀ w, Below w7.heap.size w7 w → Calls Tryd.prog 12 #[.int .i64 3, .slice A4 n c4] w fun e w' => ∃ A9 c9, e = .returned (.slice A9 len2 c9) ∧ Below w7.heap.size w7 w' := fun w h =>
    (HUO.out A4 c4 w (r47.below h (Nat.le_refl _))).mono fun e w' ⟨A9, c9, he, _, hb⟩ => ⟨A9, c9, he, h.trans (Below.mono hb h.size)⟩
  have hcb7 : ∀ w, Below w7.heap.size w7 w → (convert 22 9 (.slice A h2 cap)).run Tryd.prog w = .ok (.string U) w := fun w h => HCVU.out A cap w (hr7.below h (Nat.le_refl _))
  have HOU7 := Lib.hid hou7; clear hou7
  have HUO7 := Lib.hid huo7; clear huo7
  have hr07 : Below w7.heap.size w7 w7.drew := (Below.refl _ _).drew
  clear r37 r47 hr7
  go_wp2_with fail
  go_region_held (fun w' => Below w7.heap.size w7 w') (assumption) (first
    | (go_at_call 13; refine (HOU7.out _ (by assumption)).mono ?_; rintro e w8 ⟨A8, c8, rfl, hc8, hb8⟩; have hb8' := Below.refl w8.heap.size w8; have hc8' := hc8 w8 hb8')
    | (go_at_call 12; refine (HUO7.out _ (by assumption)).mono ?_; rintro e w9 ⟨A9, c9, rfl, hb9⟩))
  all_goals
    go_wp2_with fail
    go_ret
    exact ⟨by simp, hW7.trans (Below.mono (by assumption) hW7.size)⟩

theorem lawOUnits (k : Int) (A : Option Addr) (len cap : Nat) (zs : List Int) (B : Option Addr) (len2 cap2 : Nat) (zs2 : List Int) (W : World) (hM : Marks W)
    (h : (A = none ∧ len = 0 ∧ cap = 0 ∧ zs = []) ∨
      ∃ x, A = some x ∧ len ≤ cap ∧ cap ≤ maxLen ∧ zs.length = cap ∧ (∀ i, i < zs.length → W.cell? (x.add i) = some (.int .u8 (zs.getD i 0))) ∧ ∀ n ∈ zs, (Lit.int .u8 n).wf = true)
    (h' : (B = none ∧ len2 = 0 ∧ cap2 = 0 ∧ zs2 = []) ∨
      ∃ x, B = some x ∧ len2 ≤ cap2 ∧ cap2 ≤ maxLen ∧ zs2.length = cap2 ∧ (∀ i, i < zs2.length → W.cell? (x.add i) = some (.int .i64 (zs2.getD i 0))) ∧ ∀ n ∈ zs2, (Lit.int .i64 n).wf = true) :
    Calls Tryd.prog 4 #[.int .i64 k, .slice A len cap, .slice B len2 cap2] W fun e w' => e = .returned (.bool true) ∧ Below W.heap.size W w' := by
  obtain ⟨hr, hcap, hcm, hnil, hwf⟩ := rowI_of_row h
  obtain ⟨hr', hcap', hcm', hnil', hwf'⟩ := rowI_of_row h'
  have hby : ∀ c ∈ zs.take len, 0 ≤ c ∧ c < 256 := fun c hc => byte_of_wf (hwf c hc)
  have hby' : ∀ c ∈ zs2.take len2, -9223372036854775808 ≤ c ∧ c ≤ 9223372036854775807 := fun c hc => i64_of_wf (hwf' c hc)
  rcases Nat.lt_or_ge 100 len with hl | hl
  · exact lawOUnits_long k A B len cap len2 cap2 W hM hl (Nat.le_trans hcap hcm)
  · rcases Nat.lt_or_ge 60 len2 with hl' | hl'
    · exact lawOUnits_long2 k A B len cap len2 cap2 W hM hl hl' (Nat.le_trans hcap' hcm')
    · by_cases h2 : k = 2
      · exact lawOUnits_k2 k h2 A B len cap len2 cap2 _ _ W hM hl hl' hr hcap hcm hby hr' hby'
      · by_cases h3 : k = 3
        · exact lawOUnits_k3 k h3 A B len cap len2 cap2 _ _ W hM hl hl' hr hcap hcm hby hr' hby'
        · exact lawOUnits_other k h2 h3 A B len cap len2 cap2 _ _ W hM hl hl' hr hcap hcm hby hr' hby'
end Go.Proofs.YtilmcadofnlldaaDoor
