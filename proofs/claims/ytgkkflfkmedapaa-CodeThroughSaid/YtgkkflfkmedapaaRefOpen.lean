/- The contract of the document's own Open. -/
import Derived.Test.YtgkkflfkmedapaaSame
namespace Go.Proofs.Ytgkkflfkmedapaa
open Go Go.RowKit

/-- The document's Get, of whatever text. -/
theorem refGet_any (s : ByteArray) (w : World) (hm : s.size ≤ maxLen) :
    Calls Try.prog 17 #[.string s] w fun e w' => e = .returned (.tuple #[.int .i64 (getI (nums s)).1, .int .i64 (getI (nums s)).2]) ∧ Below w.heap.size w w' := by
  have hl := nums_length s
  rcases Nat.eq_zero_or_pos s.size with h0 | h0
  · have : nums s = [] := List.eq_nil_of_length_eq_zero (by omega)
    rw [this]
    exact refGet_nil s w h0
  · have hb := nums_byte s
    have h := refGet_some s w h0 hm
    cases hq : nums s with
    | nil => rw [hq] at hl; simp at hl; omega
    | cons x t =>
      rw [hq] at h hb
      rw [get_same x t (hb x (by simp)).1]
      exact h

/-- l, and k times c behind it, is k octets short of a code point's. -/
def tailOk (l : List Int) (k : Nat) (c : Int) : Bool := decide ((getI (l ++ List.replicate k c)).2 = (l.length : Int) + k) && decide (1 < (getI (l ++ List.replicate k c)).2)
/-- What the document's Open tries. -/
def tries (l : List Int) : Nat → Nat → Bool
  | 0, _ => false
  | f + 1, k => tailOk l k 128 || tailOk l k 191 || tries l f (k + 1)
/-- What the document's Open gives. -/
def ropenI (l : List Int) : Bool := match l with
  | [] => true
  | x :: t => if 1 < (getI (x :: t)).2 ∨ 3 < (x :: t).length ∨ x < 128 then false else tries (x :: t) (4 - (x :: t).length) 1

theorem open_nil (s : ByteArray) (w : World) (h : s.size = 0) : Calls Try.prog 19 #[.string s] w fun e w' => e = .returned (.bool true) ∧ Below w.heap.size w w' := by
  obtain rfl : s = ByteArray.empty := by
    apply ByteArray.ext
    apply Array.toList_inj.1
    rw [List.eq_nil_of_length_eq_zero (l := s.data.toList) (by simpa using h)]
    rfl
  go_enter Try.func19, Try.ntmps19
  go_wp2
  go_ret
  exact ⟨rfl, Below.refl _ _⟩

theorem open_out1 (s : ByteArray) (r n : Int) (w : World) (hz : (s.toList == ([] : List UInt8)) = false) (hn : 1 < n)
    (hg : ∀ w, Calls Try.prog 17 #[.string s] w fun e w' => e = .returned (.tuple #[.int .i64 r, .int .i64 n]) ∧ Below w.heap.size w w') :
    Calls Try.prog 19 #[.string s] w fun e w' => e = .returned (.bool false) ∧ Below w.heap.size w w' := by
  have HG := Lib.hid hg; clear hg
  have hd : decide (1 < n) = true := by simpa using hn
  go_enter Try.func19, Try.ntmps19
  go_wp2_with fail
  refine (HG.out _).mono ?_; rintro e w1 ⟨rfl, hb⟩
  go_wp2_with fail
  go_quiet (fail)
  go_wp2
  go_ret
  exact ⟨rfl, below_drewN hb nq⟩

theorem open_out2 (s : ByteArray) (r n : Int) (w : World) (hz : (s.toList == ([] : List UInt8)) = false) (hn : ¬ 1 < n) (h3 : 3 < s.size) (hm : s.size ≤ maxLen)
    (hg : ∀ w, Calls Try.prog 17 #[.string s] w fun e w' => e = .returned (.tuple #[.int .i64 r, .int .i64 n]) ∧ Below w.heap.size w w') :
    Calls Try.prog 19 #[.string s] w fun e w' => e = .returned (.bool false) ∧ Below w.heap.size w w' := by
  have HG := Lib.hid hg; clear hg
  unfold maxLen at hm
  have hd : decide (1 < n) = false := by simpa using hn
  have hd2 : decide ((3 : Int) < (s.size : Int)) = true := by simp; omega
  go_enter Try.func19, Try.ntmps19
  go_wp2_with fail
  refine (HG.out _).mono ?_; rintro e w1 ⟨rfl, hb⟩
  go_wp2_with fail
  go_quiet (fail)
  go_wp2
  go_ret
  exact ⟨rfl, below_drewN hb nq⟩

theorem open_out3 (s : ByteArray) (r n x : Int) (w : World) (hz : (s.toList == ([] : List UInt8)) = false) (hn : ¬ 1 < n) (h1 : 1 ≤ s.size) (h3 : s.size ≤ 3) (hxp : 0 ≤ x) (hx : x < 128)
    (hx0 : ∀ w, (Instr.index 9 (.string s) (.int .i64 0)).run Try.prog w = .ok (.int .u8 x) w)
    (hv : ∀ w, Calls Try.prog 30 #[.string (s.extract 0 1)] w fun e w' => e = .returned (.int .i64 x) ∧ w = w')
    (hg : ∀ w, Calls Try.prog 17 #[.string s] w fun e w' => e = .returned (.tuple #[.int .i64 r, .int .i64 n]) ∧ Below w.heap.size w w') :
    Calls Try.prog 19 #[.string s] w fun e w' => e = .returned (.bool false) ∧ Below w.heap.size w w' := by
  have HG := Lib.hid hg; clear hg
  have HV := Lib.hid hv; clear hv
  have hd : decide (1 < n) = false := by simpa using hn
  have hd2 : decide ((3 : Int) < (s.size : Int)) = false := by simp; omega
  have hd3 : decide (x < 128) = true := by simpa using hx
  have he : (x == x) = true := by simp
  have hi1 : (1 : Int) ≤ (s.size : Int) := by omega
  go_enter Try.func19, Try.ntmps19
  go_wp2_with fail
  refine (HG.out _).mono ?_; rintro e w1 ⟨rfl, hb⟩
  go_wp2_with fail
  go_quiet ((go_at_call 30; exact Calls.quiet_of_same ((HV.out _).mono fun e w' ⟨he, hw⟩ => ⟨he, hw.symm⟩)))
  go_wp2
  go_ret
  exact ⟨rfl, below_drewN hb nq⟩
end Go.Proofs.Ytgkkflfkmedapaa
