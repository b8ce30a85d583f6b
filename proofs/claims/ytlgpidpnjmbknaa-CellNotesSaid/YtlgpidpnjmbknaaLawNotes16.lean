/- CellNotes, whatever the library's table of powers holds. -/
import Derived.Test.YtlgpidpnjmbknaaItoa16
import Derived.Test.YtlgpidpnjmbknaaIs16
import Derived.Test.YtlgpidpnjmbknaaAwake16
namespace Go.Proofs.Ytlgpidpnjmbknaa
open Go Go.RowKit
set_option linter.unusedVariables false
set_option maxRecDepth 40000
/-- The text of a wrapped cause. -/
def noteT (T : Nat → Nat) (c : Int) (s : ByteArray) : ByteArray := if s = ⟨#[]⟩ then errT T c else errT T c ++ ⟨#[58, 32]⟩ ++ s
theorem errT_size (T : Nat → Nat) (c : Int) : (errT T c).size ≤ 40 := by
  unfold errT
  split
  · decide
  · have := itoaT_size T c.toNat
    rw [ByteArray.size_append]
    show 15 + _ ≤ 40
    omega
theorem noteT_inj {T : Nat → Nat} {c : Int} {a b : ByteArray} (h : noteT T c a = noteT T c b) : a = b := by
  have hs := congrArg ByteArray.size h
  have hd := congrArg (fun x : ByteArray => x.data.toList) h
  unfold noteT at h hs hd
  have hz : ∀ {x : ByteArray}, x ≠ ⟨#[]⟩ → 0 < x.size := fun {x} hx => by
    rcases Nat.eq_zero_or_pos x.size with h0 | h0
    · obtain ⟨d⟩ := x
      exact absurd (congrArg ByteArray.mk (Array.eq_empty_of_size_eq_zero h0)) hx
    · exact h0
  by_cases ha : a = ⟨#[]⟩
  · by_cases hb : b = ⟨#[]⟩
    · rw [ha, hb]
    · rw [if_pos ha, if_neg hb, ByteArray.size_append, ByteArray.size_append] at hs
      have := hz hb
      omega
  · by_cases hb : b = ⟨#[]⟩
    · rw [if_neg ha, if_pos hb, ByteArray.size_append, ByteArray.size_append] at hs
      have := hz ha
      omega
    · simp only [if_neg ha, if_neg hb, ByteArray.data_append, Array.toList_append, List.append_cancel_left_eq] at hd
      obtain ⟨da⟩ := a
      obtain ⟨db⟩ := b
      exact congrArg ByteArray.mk (Array.toList_inj.1 hd)
theorem methodError (v : Value) (w : World) : (Go.method 186 44 v "Error").run Try.prog w = .ok (48, v) w := by kernel_rfl
set_option maxHeartbeats 4000000 in
theorem noted_text (c : Int) (s : ByteArray) (T : Nat → Nat) (w : World) (hs : s.size ≤ 200) (hc : c < 9223372036854775808) (hT : TabT w T) :
    Calls Try.prog 48 #[.agg #[.int .i64 c, .string s]] w fun e w' => e = .returned (.string (noteT T c s)) ∧ Below w.heap.size w w' := by
  have hA : Below w.heap.size w (w.alloc (.cells #[.int .i64 c, .string s] 44)) := (Below.refl _ _).alloc (Nat.le_refl _) _
  have HE := Lib.hid fun (w' : World) (hb : Below (w.alloc (.cells #[.int .i64 c, .string s] 44)).heap.size (w.alloc (.cells #[.int .i64 c, .string s] 44)) w') => (errText_any c T w' hc ((hT.below hA).below hb)).mono fun e w'' hh => (⟨hh.1, hb.trans (hh.2.mono hb.size)⟩ : e = .returned (.string (errT T c)) ∧ Below (w.alloc (.cells #[.int .i64 c, .string s] 44)).heap.size (w.alloc (.cells #[.int .i64 c, .string s] 44)) w'')
  have HA := Lib.hid hA
  clear hA
  unfold noteT
  have hes := errT_size T c
  obtain ⟨t, ht⟩ : ∃ t, t = errT T c := ⟨_, rfl⟩
  rw [← ht] at HE hes ⊢
  by_cases h0 : s = ⟨#[]⟩
  · subst h0
    rw [if_pos rfl]
    clear hT hc ht hs
    go_enter Try.func48, Try.ntmps48
    go_wp2_with fail
    (with_reducible refine (HE.out _ (Below.refl _ _)).mono ?_); rintro e w1 ⟨rfl, hb⟩
    have HB := Lib.hid (HA.out.trans (hb.mono HA.out.size))
    clear hb
    go_wp2_with fail
    go_ret
    exact ⟨rfl, HB.out⟩
  · rw [if_neg h0]
    have hne1 : s.toList.isEmpty = false := by
      rcases hq : s.toList.isEmpty with _ | _
      · rfl
      · exfalso
        obtain ⟨d⟩ := s
        exact h0 (congrArg ByteArray.mk (by rw [ByteArray.toList_eq] at hq; simpa using hq))
    have hne2 : (s.toList == ([] : List UInt8)) = false := by
      rw [beq_eq_false_iff_ne]
      intro e
      rw [e] at hne1
      cases hne1
    have c0 : (w.alloc (.cells #[.int .i64 c, .string s] 44)).cell? ⟨w.heap.size, 0, none⟩ = some (.int .i64 c) := cell_of_row _ _ 0 _ _ (0, 0) (heap_alloc_new _ _)
    have c1 : (w.alloc (.cells #[.int .i64 c, .string s] 44)).cell? ⟨w.heap.size, 1, none⟩ = some (.string s) := cell_of_row _ _ 1 _ _ (0, 0) (heap_alloc_new _ _)
    have hlt : w.heap.size < (w.alloc (.cells #[.int .i64 c, .string s] 44)).heap.size := by simp
    have k0 : ∀ w', Below (w.alloc (.cells #[.int .i64 c, .string s] 44)).heap.size (w.alloc (.cells #[.int .i64 c, .string s] 44)) w' → w'.cell? ⟨w.heap.size, 0, none⟩ = some (.int .i64 c) := fun w' hb => (hb.cell (p := ⟨w.heap.size, 0, none⟩) hlt).trans c0
    have k1 : ∀ w', Below (w.alloc (.cells #[.int .i64 c, .string s] 44)).heap.size (w.alloc (.cells #[.int .i64 c, .string s] 44)) w' → w'.cell? ⟨w.heap.size, 1, none⟩ = some (.string s) := fun w' hb => (hb.cell (p := ⟨w.heap.size, 1, none⟩) hlt).trans c1
    have l1 : ¬ 9223372036854775807 < t.size + 2 := by omega
    have l2 : ¬ 9223372036854775807 < t.size + 2 + s.size := by omega
    have hS0 : Below (w.alloc (.cells #[.int .i64 c, .string s] 44)).heap.size (w.alloc (.cells #[.int .i64 c, .string s] 44)) (w.alloc (.cells #[.int .i64 c, .string s] 44)).drew := below_drewN (Below.refl _ _) 1
    clear hT hc ht hs h0 hes c0 c1 hlt
    go_enter Try.func48, Try.ntmps48
    go_wp2_with fail
    generalize w.alloc (.cells #[.int .i64 c, .string s] 44) = W at *
    go_region_held (fun w' => Below W.heap.size W w') (assumption) (first
      | (go_at_call 33; (with_reducible refine (HE.out _ (by assumption)).mono ?_); rintro e w1 ⟨rfl, hS1⟩))
    all_goals
      have HB := Lib.hid (HA.out.trans (hS1.mono HA.out.size))
      clear k0 k1 hS0 hS1 HE
      go_wp2_with fail
      go_ret
      exact ⟨rfl, HB.out⟩
section
variable {P : CelP} (F : CelF P)
include F
set_option maxHeartbeats 4000000 in
theorem notes_good (c : Int) (a b : ByteArray) (T : Nat → Nat) (w : World) (hc : c ≠ 0) (hc2 : c < 9223372036854775808) (ha : a.size ≤ 200) (hb : b.size ≤ 200) (hT : TabT w T) :
    Calls Try.prog 4 #[.int .i64 c, .string a, .string b] w fun e w' => e = .returned (.bool true) ∧ Below w.heap.size w w' := by
  have HA := Lib.hid (awake16_any F w (Below.refl w.heap.size w))
  have d1 : decide ((200 : Int) < (a.size : Int)) = false := by simp; omega
  have d2 : decide ((200 : Int) < (b.size : Int)) = false := by simp; omega
  have hcb : (c == 0) = false := by simpa using hc
  have HC := Lib.hid (And.intro hc (And.intro hc2 (And.intro ha (And.intro hb hT))))
  have mE := methodError
  clear hc hc2 ha hb hT
  go_enter Try.func4, Try.ntmps4
  go_wp2_with fail
  refine HA.out.mono ?_; rintro e w1 ⟨rfl, h1⟩
  have H1 := Lib.hid h1; clear h1 HA
  go_wp2_with fail
  (with_reducible refine (wrap_any c a _ HC.out.1).mono ?_); rintro e w2 ⟨rfl, rfl⟩
  have H2 := H1; clear H1
  go_wp2_with fail
  (with_reducible refine (wrap_any c b _ HC.out.1).mono ?_); rintro e w3 ⟨rfl, rfl⟩
  have H3 := H2; clear H2
  go_wp2_with fail
  (with_reducible refine (noted_text c a T _ HC.out.2.2.1 HC.out.2.1 (HC.out.2.2.2.2.below H3.out)).mono ?_); rintro e w4 ⟨rfl, h4⟩
  have H4 := Lib.hid (H3.out.trans (h4.mono H3.out.size)); clear h4 H3
  obtain ⟨ta, hta⟩ : ∃ ta, ta = noteT T c a := ⟨_, rfl⟩
  rw [← hta]
  have HTA := Lib.hid hta
  clear hta
  go_wp2_with fail
  (with_reducible refine (noted_text c b T _ HC.out.2.2.2.1 HC.out.2.1 (HC.out.2.2.2.2.below H4.out)).mono ?_); rintro e w5 ⟨rfl, h5⟩
  have H5 := Lib.hid (H4.out.trans (h5.mono H4.out.size)); clear h5 H4
  obtain ⟨tb, htb⟩ : ∃ tb, tb = noteT T c b := ⟨_, rfl⟩
  rw [← htb]
  have HTB := Lib.hid htb
  clear htb
  have HI1 := Lib.hid fun (X : World) => is_noted c c a X
  have HI2 := Lib.hid fun (X : World) => is_noted c c b X
  by_cases hab : a = b
  · subst hab
    have : ta = tb := HTA.out.trans HTB.out.symm
    subst this
    clear HTA HTB
    go_wp2_with fail
    (with_reducible refine (HI1.out _).mono ?_); rintro e w6 ⟨rfl, h6⟩
    have H6 := Lib.hid (H5.out.trans (h6.mono H5.out.size)); clear h6
    go_wp2_with fail
    (with_reducible refine (HI2.out _).mono ?_); rintro e w7 ⟨rfl, h7⟩
    have H7 := Lib.hid (H6.out.trans (h7.mono H6.out.size)); clear h7
    go_wp2_with fail
    go_ret
    exact ⟨by simp, H7.out⟩
  · have hne : ta ≠ tb := fun e => hab (noteT_inj (HTA.out.symm.trans (e.trans HTB.out)))
    have e1 : (ta.toList == tb.toList) = false := by
      rw [beq_eq_false_iff_ne]
      intro e
      rw [ByteArray.toList_eq, ByteArray.toList_eq] at e
      obtain ⟨x⟩ := ta
      obtain ⟨y⟩ := tb
      exact hne (congrArg ByteArray.mk (Array.toList_inj.1 e))
    have e2 : (a.toList == b.toList) = false := by
      rw [beq_eq_false_iff_ne]
      intro e
      rw [ByteArray.toList_eq, ByteArray.toList_eq] at e
      obtain ⟨x⟩ := a
      obtain ⟨y⟩ := b
      exact hab (congrArg ByteArray.mk (Array.toList_inj.1 e))
    clear HTA HTB hab hne
    go_wp2_with fail
    (with_reducible refine (HI1.out _).mono ?_); rintro e w6 ⟨rfl, h6⟩
    have H6 := Lib.hid (H5.out.trans (h6.mono H5.out.size)); clear h6
    go_wp2_with fail
    (with_reducible refine (HI2.out _).mono ?_); rintro e w7 ⟨rfl, h7⟩
    have H7 := Lib.hid (H6.out.trans (h7.mono H6.out.size)); clear h7
    go_wp2_with fail
    go_ret
    exact ⟨by simp, H7.out⟩
set_option maxHeartbeats 4000000 in
theorem notes_bad (c : Int) (a b : ByteArray) (w : World) (h : c = 0 ∨ 200 < a.size ∨ 200 < b.size) :
    Calls Try.prog 4 #[.int .i64 c, .string a, .string b] w fun e w' => e = .returned (.bool true) ∧ Below w.heap.size w w' := by
  have HA := Lib.hid fun (w1 : World) (hb : Below w.heap.size w w1) => awake16_any F w hb
  by_cases h1 : 200 < a.size
  · have d1 : decide ((200 : Int) < (a.size : Int)) = true := by simp; omega
    clear h h1
    go_enter Try.func4, Try.ntmps4
    go_wp2_with fail
    refine (HA.out _ (Below.refl _ _)).mono ?_; rintro e w1 ⟨rfl, h1⟩
    have H1 := Lib.hid h1; clear h1
    go_wp2_with fail
    refine (HA.out _ H1.out).mono ?_; rintro e w2 ⟨rfl, h2⟩
    have H2 := Lib.hid h2; clear h2
    go_wp2_with fail
    go_ret
    exact ⟨rfl, H2.out⟩
  · have d1 : decide ((200 : Int) < (a.size : Int)) = false := by simp; omega
    by_cases h2 : 200 < b.size
    · have d2 : decide ((200 : Int) < (b.size : Int)) = true := by simp; omega
      clear h h1 h2
      go_enter Try.func4, Try.ntmps4
      go_wp2_with fail
      refine (HA.out _ (Below.refl _ _)).mono ?_; rintro e w1 ⟨rfl, h1⟩
      have H1 := Lib.hid h1; clear h1
      go_wp2_with fail
      refine (HA.out _ H1.out).mono ?_; rintro e w2 ⟨rfl, h2⟩
      have H2 := Lib.hid h2; clear h2
      go_wp2_with fail
      go_ret
      exact ⟨rfl, H2.out⟩
    · have d2 : decide ((200 : Int) < (b.size : Int)) = false := by simp; omega
      have hc : c = 0 := h.resolve_right (fun h => h.elim h1 h2)
      subst hc
      clear h h1 h2
      go_enter Try.func4, Try.ntmps4
      go_wp2_with fail
      refine (HA.out _ (Below.refl _ _)).mono ?_; rintro e w1 ⟨rfl, h1⟩
      have H1 := Lib.hid h1; clear h1
      go_wp2_with fail
      refine (HA.out _ H1.out).mono ?_; rintro e w2 ⟨rfl, h2⟩
      have H2 := Lib.hid h2; clear h2
      go_wp2_with fail
      go_ret
      exact ⟨rfl, H2.out⟩
theorem notes16W (c : Int) (a b : ByteArray) (T : Nat → Nat) (w : World) (hc2 : c < 9223372036854775808) (hT : TabT w T) :
    Calls Try.prog 4 #[.int .i64 c, .string a, .string b] w fun e w' => e = .returned (.bool true) ∧ Below w.heap.size w w' := by
  by_cases h : c = 0 ∨ 200 < a.size ∨ 200 < b.size
  · exact notes_bad F c a b w h
  · exact notes_good F c a b T w (fun e => h (.inl e)) hc2 (by omega) (by omega) hT
end
end Go.Proofs.Ytlgpidpnjmbknaa
