/- Holds, Hold: how often a buffer is held; once more. -/
import Derived.Test.YtgjmgbpphfccaaaPMem
import Derived.BigRegion
namespace Go.Proofs.Ytgjmgbpphfccaaa
open Go Go.RowKit
set_option linter.unusedVariables false

/-- How often a buffer is held; 0, if there is none of that number. -/
def heldL (hs : List Nat) (i : Int) : Nat := if 0 ≤ i then hs.getD i.toNat 0 else 0
theorem heldL_nat (hs : List Nat) (i : Nat) : heldL hs (i : Int) = hs.getD i 0 := by simp [heldL]
theorem heldL_out (hs : List Nat) (i : Int) (h : i < 0 ∨ (hs.length : Int) ≤ i) : heldL hs i = 0 := by
  unfold heldL
  split
  · rw [List.getD, List.getElem?_eq_none (by omega)]; rfl
  · rfl
theorem heldL_pos {hs : List Nat} {i : Int} (h : 0 < heldL hs i) : ∃ k : Nat, i = (k : Int) ∧ k < hs.length ∧ hs.getD k 0 = heldL hs i := by
  by_cases h1 : i < 0 ∨ (hs.length : Int) ≤ i
  · rw [heldL_out hs i h1] at h; omega
  · obtain ⟨k, rfl⟩ := Int.eq_ofNat_of_zero_le (show 0 ≤ i by omega)
    exact ⟨k, rfl, by omega, (heldL_nat hs k).symm⟩

section
variable {w : World} {B g gb size : Nat} {F : Nat → Prop} {FV : Value} {Vs : List Value} {os : List (List Int)} {hs ln : List Nat}

theorem holds_in (h : PoolC w B F g gb FV Vs size os hs ln) (i : Nat) (hi : i < hs.length) (hn : hs.length ≤ 64) :
    Calls Try.prog 25 #[.pointer (some ⟨g, 0, none⟩), .int .i64 (i : Int)] w fun e w' => e = .returned (.int .i64 (hs.getD i 0 : Nat)) ∧ w = w' := by
  have c1 := h.c1
  have cH := h.cH hi
  obtain ⟨x, hx⟩ : ∃ x, x = hs.getD i 0 := ⟨_, rfl⟩
  rw [← hx] at cH ⊢
  clear h hx
  go_enter Try.func25, Try.ntmps25
  go_wp2_with fail
  go_ret
  exact ⟨rfl, rfl⟩
theorem holds_out (h : PoolC w B F g gb FV Vs size os hs ln) (i : Int) (hi : i < 0 ∨ (hs.length : Int) ≤ i) (hn : hs.length ≤ 64) :
    Calls Try.prog 25 #[.pointer (some ⟨g, 0, none⟩), .int .i64 i] w fun e w' => e = .returned (.int .i64 0) ∧ w = w' := by
  have c1 := h.c1
  clear h
  rcases hi with hi | hi
  · have hd : decide (i < 0) = true := by simpa using hi
    go_enter Try.func25, Try.ntmps25
    go_wp2_with fail
    go_ret
    exact ⟨rfl, rfl⟩
  · have hd : decide (i < 0) = false := by simp; omega
    have hd2 : decide ((hs.length : Int) ≤ i) = true := by simpa using hi
    go_enter Try.func25, Try.ntmps25
    go_wp2_with fail
    go_ret
    exact ⟨rfl, rfl⟩
theorem holds_any (h : PoolC w B F g gb FV Vs size os hs ln) (i : Int) (hn : hs.length ≤ 64) :
    Calls Try.prog 25 #[.pointer (some ⟨g, 0, none⟩), .int .i64 i] w fun e w' => e = .returned (.int .i64 (heldL hs i : Nat)) ∧ w = w' := by
  by_cases h1 : i < 0 ∨ (hs.length : Int) ≤ i
  · rw [heldL_out hs i h1]
    exact holds_out h i h1 hn
  · obtain ⟨k, rfl⟩ := Int.eq_ofNat_of_zero_le (show 0 ≤ i by omega)
    rw [heldL_nat]
    exact holds_in h k (by omega) hn

theorem hold_no (h : PoolC w B F g gb FV Vs size os hs ln) (i : Int) (hn : hs.length ≤ 64) (h0 : heldL hs i = 0) :
    Calls Try.prog 18 #[.pointer (some ⟨g, 0, none⟩), .int .i64 i] w fun e w' => e = .returned (.int .i64 2) ∧ w = w' := by
  have HH := Lib.hid (holds_any h i hn)
  rw [h0] at HH
  clear h h0
  go_enter Try.func18, Try.ntmps18
  go_wp2_with fail
  refine HH.out.mono ?_; rintro e w' ⟨rfl, rfl⟩
  go_wp2_with fail
  go_ret
  exact ⟨rfl, rfl⟩
theorem hold_yes (h : PoolC w B F g gb FV Vs size os hs ln) (i : Nat) (hn : hs.length ≤ 64) (hi : i < hs.length) (h0 : 0 < hs.getD i 0) (hb : hs.getD i 0 ≤ 1000000) :
    Calls Try.prog 18 #[.pointer (some ⟨g, 0, none⟩), .int .i64 (i : Int)] w fun e w' => e = .returned (.int .i64 0) ∧ PoolC w' B F g gb FV Vs size os (hs.set i (hs.getD i 0 + 1)) ln ∧ Moved F w w' := by
  have HH := Lib.hid (holds_in h i hi hn)
  have c1 := h.c1
  have cH := h.cH hi
  have fz := h.fzb (i * 2 + 1)
  have HS := Lib.hid (h.setH i (hs.getD i 0 + 1))
  have HM := Lib.hid (show Moved F w (w.setCell ⟨gb, i * 2 + 1, none⟩ (.int .i64 ((hs.getD i 0 + 1 : Nat) : Int))) from (Moved.refl _ _).setCell (.inl h.fb) _)
  obtain ⟨x, hx⟩ : ∃ x, x = hs.getD i 0 := ⟨_, rfl⟩
  rw [← hx] at HH cH HS HM h0 hb ⊢
  clear h hx
  have hne : ((x : Int) == 0) = false := by simp; omega
  go_enter Try.func18, Try.ntmps18
  go_wp2_with fail
  refine HH.out.mono ?_; rintro e w' ⟨rfl, rfl⟩
  go_wp2_with fail
  go_ret
  exact ⟨rfl, HS.out, HM.out⟩
end
end Go.Proofs.Ytgjmgbpphfccaaa
