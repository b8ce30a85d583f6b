/- CellOthers. -/
import Derived.Test.YtlgpidpnjmbknaaDoorAs16
import Derived.Test.YtlgpidpnjmbknaaDoorFindD16
import Derived.Test.YtlgpidpnjmbknaaDoorAwake16
namespace Go.Proofs.YtlgpidpnjmbknaaDoor
open Go Go.RowKit
set_option linter.unusedVariables false
set_option maxRecDepth 40000
theorem find_nil (t : Value) (w : World) : Calls Tryd.prog 12 #[.nilIface, t] w fun e w' => e = .returned (.bool false) ∧ w = w' :=
  find_any .nilIface t false (fun w' => w = w') w (as_nil16 t w)
theorem find_missN (e t : Addr) (w : World) (hg : LaidEt w) : Calls Tryd.prog 12 #[.iface 41 (.pointer (some e)), .iface 39 (.pointer (some t))] w fun ev w' => ev = .returned (.bool false) ∧ Below w.heap.size w w' :=
  find_any _ _ false _ w (as_missN e t w hg)
theorem find_missE (e t : Addr) (w : World) (hg : LaidEt w) : Calls Tryd.prog 12 #[.iface 41 (.pointer (some e)), .iface 40 (.pointer (some t))] w fun ev w' => ev = .returned (.bool false) ∧ Below w.heap.size w w' :=
  find_any _ _ false _ w (as_missE e t w hg)
set_option maxHeartbeats 4000000 in
theorem unwrap_nil (w : World) : Calls Tryd.prog 5 #[.nilIface] w fun e w' => e = .returned (.tuple #[.int .i64 0, .string ⟨#[]⟩, .bool false]) ∧ Below w.heap.size w w' := by
  have hb1 := (Below.refl w.heap.size w).alloc (Nat.le_refl _) (.cells #[.int .i64 0, .string ⟨#[]⟩] 37)
  have hb2 := hb1.alloc hb1.size (.cells #[.int .i64 0] 22)
  have HB := Lib.hid (hb2.alloc hb2.size (.cells #[.int .i64 1] 22))
  clear hb1 hb2
  have HN := Lib.hid find_nil
  go_enter Tryd.func5, Tryd.ntmps5
  go_wp2_with (go_at_call 12; refine (HN.out _ _).mono ?_; rintro e w1 ⟨rfl, rfl⟩)
  go_ret3
  exact ⟨rfl, HB.out⟩
set_option maxHeartbeats 4000000 in
theorem unwrap_other (a : Addr) (w : World) (hg : LaidEt w) : Calls Tryd.prog 5 #[.iface 41 (.pointer (some a))] w fun e w' => e = .returned (.tuple #[.int .i64 0, .string ⟨#[]⟩, .bool false]) ∧ Below w.heap.size w w' := by
  have HG := Lib.hid hg
  have HEN := Lib.hid fun (t : Addr) (w2 : World) (hb : Below w.heap.size w w2) => find_missN a t w2 (HG.out.below hb)
  have HEE := Lib.hid fun (t : Addr) (w2 : World) (hb : Below w.heap.size w w2) => find_missE a t w2 (HG.out.below hb)
  have HB1 := Lib.hid ((Below.refl w.heap.size w).alloc (Nat.le_refl _) (.cells #[.int .i64 0, .string ⟨#[]⟩] 37))
  clear hg
  go_enter Tryd.func5, Tryd.ntmps5
  go_wp2_with fail
  (with_reducible refine (HEN.out _ _ HB1.out).mono ?_); rintro e w2 ⟨rfl, hb2⟩
  have HB2 := Lib.hid (HB1.out.trans (hb2.mono HB1.out.size)); clear hb2
  go_wp2_with fail
  have HB3 := Lib.hid ((HB2.out.alloc HB2.out.size (.cells #[.int .i64 0] 22)).alloc (HB2.out.alloc HB2.out.size (.cells #[.int .i64 0] 22)).size (.cells #[.int .i64 1] 22))
  (with_reducible refine (HEE.out _ _ HB3.out).mono ?_); rintro e w3 ⟨rfl, hb3⟩
  have HB4 := Lib.hid (HB3.out.trans (hb3.mono HB3.out.size)); clear hb3
  go_wp2_with fail
  go_ret3
  exact ⟨rfl, HB4.out⟩
theorem errnew_any (s : ByteArray) (w : World) : Calls Tryd.prog 6 #[.string s] w fun e w' => ∃ a, e = .returned (.iface 41 (.pointer (some a))) ∧ Below w.heap.size w w' := by
  go_enter Tryd.func6, Tryd.ntmps6
  go_wp2_with fail
  go_ret
  exact ⟨_, rfl, (Below.refl _ _).alloc (Nat.le_refl _) _⟩
section
variable {P : CelP} (T : CelF P)
include T
set_option maxHeartbeats 4000000 in
theorem others_good (a b : Int) (s : ByteArray) (w : World) (hg : LaidEt w) (ha : a ≠ 0) (hb : b ≠ 0) (hs : s.size ≤ 200) :
    Calls Tryd.prog 3 #[.int .i64 a, .int .i64 b, .string s] w fun e w' => e = .returned (.bool true) ∧ Below w.heap.size w w' := by
  have HA := Lib.hid (awake16_any T w (Below.refl w.heap.size w))
  have HG := Lib.hid hg
  have hd : decide ((200 : Int) < (s.size : Int)) = false := by simp; omega
  have hab : (a == 0) = false := by simpa using ha
  have hbb : (b == 0) = false := by simpa using hb
  have HAZ := Lib.hid ha
  clear hg ha hb hs
  go_enter Tryd.func3, Tryd.ntmps3
  go_wp2_with fail
  refine HA.out.mono ?_; rintro e w1 ⟨rfl, h1⟩
  have H1 := Lib.hid h1; clear h1 HA
  go_wp2_with fail
  refine (errnew_any s _).mono ?_; rintro e w2 ⟨p, rfl, h2⟩
  have H2 := Lib.hid (H1.out.trans (h2.mono H1.out.size)); clear h2 H1
  have HU := Lib.hid (unwrap_other p _ (HG.out.below H2.out))
  go_wp2_with fail
  refine HU.out.mono ?_; rintro e w3 ⟨rfl, h3⟩
  have H3 := Lib.hid (H2.out.trans (h3.mono H2.out.size)); clear h3 H2 HU
  go_wp2_with fail
  refine (unwrap_nil _).mono ?_; rintro e w4 ⟨rfl, h4⟩
  have H4 := Lib.hid (H3.out.trans (h4.mono H3.out.size)); clear h4 H3
  go_wp2_with fail
  refine (wrap_any a s _ HAZ.out).mono ?_; rintro e w5 ⟨rfl, rfl⟩
  have HI := Lib.hid (is_noted a b s w4)
  go_wp2_with fail
  refine HI.out.mono ?_; rintro e w6 ⟨rfl, h6⟩
  have H6 := Lib.hid (H4.out.trans (h6.mono H4.out.size)); clear h6 H4
  go_wp2_with fail
  go_ret
  exact ⟨by simp, H6.out⟩
set_option maxHeartbeats 4000000 in
theorem others_bad (a b : Int) (s : ByteArray) (w : World) (h : 200 < s.size ∨ a = 0 ∨ b = 0) :
    Calls Tryd.prog 3 #[.int .i64 a, .int .i64 b, .string s] w fun e w' => e = .returned (.bool true) ∧ Below w.heap.size w w' := by
  have HA := Lib.hid fun (w1 : World) (hb : Below w.heap.size w w1) => awake16_any T w hb
  by_cases hm : 200 < s.size
  · have hd : decide ((200 : Int) < (s.size : Int)) = true := by simp; omega
    clear h hm
    go_enter Tryd.func3, Tryd.ntmps3
    go_wp2_with fail
    refine (HA.out _ (Below.refl _ _)).mono ?_; rintro e w1 ⟨rfl, h1⟩
    have H1 := Lib.hid h1; clear h1
    go_wp2_with fail
    refine (HA.out _ H1.out).mono ?_; rintro e w2 ⟨rfl, h2⟩
    have H2 := Lib.hid h2; clear h2
    go_wp2_with fail
    go_ret
    exact ⟨rfl, H2.out⟩
  · have hd : decide ((200 : Int) < (s.size : Int)) = false := by simp; omega
    by_cases ha : a = 0
    · subst ha
      clear h hm
      go_enter Tryd.func3, Tryd.ntmps3
      go_wp2_with fail
      refine (HA.out _ (Below.refl _ _)).mono ?_; rintro e w1 ⟨rfl, h1⟩
      have H1 := Lib.hid h1; clear h1
      go_wp2_with fail
      refine (HA.out _ H1.out).mono ?_; rintro e w2 ⟨rfl, h2⟩
      have H2 := Lib.hid h2; clear h2
      go_wp2_with fail
      go_ret
      exact ⟨rfl, H2.out⟩
    · have hb : b = 0 := (h.resolve_left hm).resolve_left ha
      subst hb
      have hab : (a == 0) = false := by simpa using ha
      clear h hm ha
      go_enter Tryd.func3, Tryd.ntmps3
      go_wp2_with fail
      refine (HA.out _ (Below.refl _ _)).mono ?_; rintro e w1 ⟨rfl, h1⟩
      have H1 := Lib.hid h1; clear h1
      go_wp2_with fail
      refine (HA.out _ H1.out).mono ?_; rintro e w2 ⟨rfl, h2⟩
      have H2 := Lib.hid h2; clear h2
      go_wp2_with fail
      go_ret
      exact ⟨rfl, H2.out⟩
theorem others16W (a b : Int) (s : ByteArray) (w : World) (hg : LaidEt w) :
    Calls Tryd.prog 3 #[.int .i64 a, .int .i64 b, .string s] w fun e w' => e = .returned (.bool true) ∧ Below w.heap.size w w' := by
  by_cases h : 200 < s.size ∨ a = 0 ∨ b = 0
  · exact others_bad T a b s w h
  · exact others_good T a b s w hg (fun e => h (.inr (.inl e))) (fun e => h (.inr (.inr e))) (by omega)
end
end Go.Proofs.YtlgpidpnjmbknaaDoor
