/- The document's example of a tree; TreeFull, of any tree that answers so. -/
import Derived.Test.YtcgjpmokhpcnnaaTreF
namespace Go.Proofs.Ytcgjpmokhpcnnaa
open Go Go.RowKit
set_option linter.unusedVariables false
set_option maxRecDepth 20000
theorem add_ok {up ca : List Int} {q : Nat} (hq : q < up.length) (hu : up.length < 256) : addE up (q : Int) = 0 ∧ addX up (q : Int) = (up.length : Int) ∧ addU up (q : Int) = up ++ [(q : Int)] ∧ addC up ca (q : Int) = ca ++ [ca.getD q 0] := by
  have hi : isB up (q : Int) = true := by simp [isB, hq]
  have e : addE up (q : Int) = 0 := by unfold addE; rw [if_pos hi, if_neg (by omega)]
  refine ⟨e, ?_, ?_, ?_⟩
  · unfold addX; rw [if_pos e]
  · unfold addU; rw [if_pos e]
  · unfold addC; rw [if_pos e, Int.toNat_natCast]
theorem cau_at {up ca : List Int} {k : Nat} (hk : k < up.length) : (if isB up (k : Int) = true then ca.getD (k : Int).toNat 0 else 0) = ca.getD k 0 := by
  rw [if_pos (by simp [isB, hk]), Int.toNat_natCast]
theorem getD_app {ca : List Int} {y : Int} {k : Nat} (hk : k < ca.length) : (ca ++ [y]).getD k 0 = ca.getD k 0 := by simp [List.getD, List.getElem?_append_left hk]
theorem getD_new {ca : List Int} {y : Int} {k : Nat} (hk : k = ca.length) : (ca ++ [y]).getD k 0 = y := by subst hk; simp [List.getD]
theorem Tre.lens {P : TP} {w0 w : World} {g : Nat} {up ca : List Int} (h : Tre P w0 w g up ca) : ca.length = up.length ∧ Below w0.heap.size w0 w := by
  obtain ⟨F, h⟩ := h
  exact ⟨h.cl, h.to⟩
section
variable {P : TP} (T : TreF P)
include T
/-- Whatever Cancel answers, and leaves. -/
theorem tre_can' {w0 w : World} {g : Nat} {up ca : List Int} (h : Tre P w0 w g up ca) (n cause : Int) : Calls Try.prog 12 #[.pointer (some ⟨g, 0, none⟩), .int .i64 n, .int .i64 cause] w fun e w' => ∃ (x y : Int) (ca' : List Int), e = .returned (.tuple #[.int .i64 x, .int .i64 y]) ∧ Tre P w0 w' g up ca' :=
  (tre_can T h n cause).mono fun e w' hh => ⟨_, _, _, hh.1, hh.2⟩
set_option maxHeartbeats 2000000 in
theorem awake15_any (w0 : World) {w : World} (hb : Below w0.heap.size w0 w) :
    Calls Try.prog 7 #[] w fun e w' => e = .returned (.bool true) ∧ Below w0.heap.size w0 w' := by
  have HN := Lib.hid (tre_new T w0 hb)
  clear hb
  go_enter Try.func7, Try.ntmps7
  go_wp2_with fail
  refine HN.out.mono ?_; rintro e w1 ⟨g, rfl, h1⟩
  have H1 := Lib.hid h1; clear h1 HN
  go_wp2_with fail
  refine (tre_add T H1.out 0).mono ?_; rintro e w2 ⟨rfl, h2⟩
  have H2 : Hid (Tre P w0 w2 g [-1, 0] [0, 0]) := Lib.hid h2; clear h2 H1
  rw [show addX [-1] 0 = 1 from rfl, show addE [-1] 0 = 0 from rfl]
  go_wp2_with fail
  refine (tre_add T H2.out 1).mono ?_; rintro e w3 ⟨rfl, h3⟩
  have H3 : Hid (Tre P w0 w3 g [-1, 0, 1] [0, 0, 0]) := Lib.hid h3; clear h3 H2
  rw [show addX [-1, 0] 1 = 2 from rfl, show addE [-1, 0] 1 = 0 from rfl]
  go_wp2_with fail
  refine (tre_can T H3.out 1 12).mono ?_; rintro e w4 ⟨rfl, h4⟩
  have H4 : Hid (Tre P w0 w4 g [-1, 0, 1] [0, 12, 12]) := Lib.hid (by
    have e1 : (if canE [-1, 0, 1] 1 12 = 0 then canC [-1, 0, 1] [0, 0, 0] 1 12 ([-1, 0, 1] : List Int).length else [0, 0, 0]) = [0, 12, 12] := by decide
    rw [e1] at h4; exact h4)
  clear h4 H3
  rw [show (if canE [-1, 0, 1] 1 12 = 0 then (canN [-1, 0, 1] [0, 0, 0] 1 ([-1, 0, 1] : List Int).length : Int) else 0) = 2 by decide, show canE [-1, 0, 1] 1 12 = 0 by decide]
  have C0 := Lib.hid fun w (h : Tre P w0 w g [-1, 0, 1] [0, 12, 12]) => tre_cau T h 0
  have C2 := Lib.hid fun w (h : Tre P w0 w g [-1, 0, 1] [0, 12, 12]) => tre_cau T h 2
  rw [show (if isB [-1, 0, 1] 0 = true then ([0, 12, 12] : List Int).getD (Int.toNat 0) 0 else 0) = 0 by decide] at C0
  rw [show (if isB [-1, 0, 1] 2 = true then ([0, 12, 12] : List Int).getD (Int.toNat 2) 0 else 0) = 12 by decide] at C2
  go_wp2_with fail
  refine (C0.out _ H4.out).mono ?_; rintro e w5 ⟨rfl, h5⟩
  have H5 := Lib.hid h5; clear h5 H4
  go_wp2_with fail
  refine (C2.out _ H5.out).mono ?_; rintro e w6 ⟨rfl, h6⟩
  have H6 : Hid (Below w0.heap.size w0 w6) := Lib.hid (by obtain ⟨F, h⟩ := h6; exact h.to)
  clear h6 H5 C0 C2
  go_wp2_with fail
  go_ret
  exact ⟨rfl, H6.out⟩
set_option maxHeartbeats 4000000 in
theorem full15_any (at' : Nat) (hat : at' < 256) (w : World) :
    Calls Try.prog 5 #[.int .u8 (at' : Int)] w fun e w' => e = .returned (.bool true) ∧ Below w.heap.size w w' := by
  have HA := Lib.hid (awake15_any T w (Below.refl w.heap.size w))
  have HN := Lib.hid fun w2 (hb : Below w.heap.size w w2) => tre_new T w hb
  go_enter Try.func5, Try.ntmps5
  go_wp2_with fail
  refine HA.out.mono ?_; rintro e w1 ⟨rfl, h1⟩
  have H1 := Lib.hid h1; clear h1 HA
  go_wp2_with fail
  refine (HN.out _ H1.out).mono ?_; rintro e w2 ⟨g, rfl, h2⟩
  have H2 := Lib.hid h2; clear h2 HN H1
  go_wp2_with fail
  have HAT := Lib.hid hat
  go_loopw [4] (fun v4 wr => ∃ (i : Nat) (up ca : List Int), v4 = .int .i64 (i : Int) ∧ 1 ≤ i ∧ i ≤ 256 ∧ Hid (up.length = i ∧ Tre P w wr g up ca)) (fun v4 _ => 256 - (intOf v4).toNat)
  case atStart => exact ⟨1, _, _, rfl, by omega, by omega, Lib.hid ⟨rfl, H2.out⟩⟩
  case round =>
    obtain ⟨i, up, ca, rfl, hi1, hi2, HO⟩ := hrel
    by_cases hl : i < 256
    · -- the node above: the half
      obtain ⟨q, hq⟩ : ∃ q : Nat, q = i / 2 := ⟨_, rfl⟩
      have hqi : q < i := by omega
      have e2 : (i : Int) / 2 = (q : Int) := by rw [hq]; omega
      have HADD : ∀ ca' w', Hid (Tre P w w' g up ca' → Calls Try.prog 10 #[.pointer (some ⟨g, 0, none⟩), .int .i64 (q : Int)] w' fun e w3 => e = .returned (.tuple #[.int .i64 (i : Int), .int .i64 0]) ∧ ∃ up' ca' y, up'.length = i + 1 ∧ Tre P w w3 g up' ca' ∧ ca'.getD i 0 = y ∧ ca'.getD q 0 = y) := fun ca' w' => Lib.hid fun h => (tre_add T h (q : Int)).mono fun e w3 hh => by
          obtain ⟨he, ht⟩ := hh
          have hu := HO.out.1
          have hc := h.lens.1
          obtain ⟨k1, k2, k3, k4⟩ := add_ok (up := up) (ca := ca') (q := q) (by omega) (by omega)
          rw [k1, k2, hu] at he
          rw [k3, k4] at ht
          exact ⟨he, _, _, ca'.getD q 0, by simp [hu], ht, getD_new (by omega), getD_app (by omega)⟩
      have HC : ∀ up' ca' (k : Nat) w', Hid (Tre P w w' g up' ca' → k < up'.length → Calls Try.prog 18 #[.pointer (some ⟨g, 0, none⟩), .int .i64 (k : Int)] w' fun e w3 => e = .returned (.int .i64 (ca'.getD k 0)) ∧ Tre P w w3 g up' ca') := fun up' ca' k w' => Lib.hid fun h hk => (tre_cau T h (k : Int)).mono fun e w3 hh => by rw [cau_at hk] at hh; exact hh
      have hfin : ∀ up0 ca0 w', Tre P w w' g up0 ca0 → Hid (Tre P w w' g up0 ca0) := fun _ _ _ h => Lib.hid h
      have hup := HO.out.1
      have HB : ∀ up' ca' w', Tre P w w' g up' ca' → Hid (Below w.heap.size w w') := fun _ _ _ h => Lib.hid h.lens.2
      have HE2 := Lib.hid e2
      clear H2 hq e2
      by_cases hai : at' = i
      · subst hai
        go_wp2_with fail
        refine (tre_can' T HO.out.2 _ _).mono ?_; rintro e w3 ⟨x3, y3, ca3, rfl, h3⟩
        have H3 := hfin _ _ _ h3; clear h3 HO
        go_wp2_with fail
        rw [HE2.out]
        refine ((HADD ca3 w3).out H3.out).mono ?_; rintro e w4 ⟨rfl, up4, ca4, y, hu4, h4, y1, y2⟩
        have H4 := hfin _ _ _ h4; clear h4 H3
        go_wp2_with fail
        refine ((HC up4 ca4 at' w4).out H4.out (by omega)).mono ?_; rintro e w5 ⟨rfl, h5⟩
        rw [y1]
        have H5 := hfin _ _ _ h5; clear h5 H4
        go_wp2_with fail
        rw [HE2.out]
        refine ((HC up4 ca4 q w5).out H5.out (by omega)).mono ?_; rintro e w6 ⟨rfl, h6⟩
        rw [y2]
        have H6 := hfin _ _ _ h6; clear h6 H5 y1 y2
        go_wp2_with fail
        exact ⟨⟨at' + 1, up4, ca4, by go_num, by omega, by omega, Lib.hid ⟨hu4, H6.out⟩⟩, by simp [intOf]; omega⟩
      · have hab : ((i : Int) == (at' : Int)) = false := by simp; omega
        go_wp2_with fail
        rw [HE2.out]
        refine ((HADD ca wr).out HO.out.2).mono ?_; rintro e w4 ⟨rfl, up4, ca4, y, hu4, h4, y1, y2⟩
        have H4 := hfin _ _ _ h4; clear h4 HO
        go_wp2_with fail
        refine ((HC up4 ca4 i w4).out H4.out (by omega)).mono ?_; rintro e w5 ⟨rfl, h5⟩
        rw [y1]
        have H5 := hfin _ _ _ h5; clear h5 H4
        go_wp2_with fail
        rw [HE2.out]
        refine ((HC up4 ca4 q w5).out H5.out (by omega)).mono ?_; rintro e w6 ⟨rfl, h6⟩
        rw [y2]
        have H6 := hfin _ _ _ h6; clear h6 H5 y1 y2
        go_wp2_with fail
        exact ⟨⟨i + 1, up4, ca4, by go_num, by omega, by omega, Lib.hid ⟨hu4, H6.out⟩⟩, by simp [intOf]; omega⟩
    · have : i = 256 := by omega
      subst this
      obtain ⟨hu, ht⟩ := HO.out
      have k1 : addX up 0 = 0 := by unfold addX addE; rw [hu, if_neg]; simp [isB, hu]
      have k2 : addE up 0 = 16 := by unfold addE; rw [hu]; simp [isB, hu]
      have k3 : addU up 0 = up := by unfold addU; rw [k2]; rfl
      have k4 : addC up ca 0 = ca := by unfold addC; rw [k2]; rfl
      have HADD := Lib.hid (tre_add T ht 0)
      rw [k1, k2, k3, k4] at HADD
      have HS : ∀ w', Hid (Tre P w w' g up ca → _) := fun w' => Lib.hid fun h => tre_siz T h
      rw [hu] at HS
      have hfin : ∀ w', Tre P w w' g up ca → Hid (Tre P w w' g up ca) := fun _ h => Lib.hid h
      have HB : ∀ w', Tre P w w' g up ca → Hid (Below w.heap.size w w') := fun _ h => Lib.hid h.lens.2
      clear ht k1 k2 k3 k4 HO
      go_wp2_with fail
      refine HADD.out.mono ?_; rintro e w3 ⟨rfl, h3⟩
      have H3 := hfin _ h3; clear h3
      go_wp2_with fail
      refine ((HS w3).out H3.out).mono ?_; rintro e w4 ⟨rfl, h4⟩
      have H4 := HB _ h4; clear h4 H3
      go_wp2_with fail
      go_ret
      exact ⟨rfl, H4.out⟩
end
end Go.Proofs.Ytcgjpmokhpcnnaa
