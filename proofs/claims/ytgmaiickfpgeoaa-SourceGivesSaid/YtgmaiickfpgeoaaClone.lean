/- bytes.Clone; slices cut at a place. -/
import Derived.Test.YtgmaiickfpgeoaaKit
import Derived.Lib.AppendZerosOnto
import Derived.Lib.SliceRun
import Derived.LoopN
namespace Go.Proofs.Ytgmaiickfpgeoaa
open Go Go.RowKit
set_option linter.unusedVariables false

/-- Where it has an address, it lies in a block from B on. -/
def Above (B : Nat) (A : Option Addr) : Prop := ∀ a, A = some a → B ≤ a.block

theorem RowI.to {k : IntKind} {w : World} {A : Option Addr} {n : Nat} {xs : List Int} (h : RowI k w A n xs) {m : Nat} (hm : m ≤ n) : RowI k w A m (xs.take m) := by
  refine ⟨by rw [List.length_take, h.1]; omega, fun h0 => ?_⟩
  obtain ⟨b, o, hA, hlt, hc⟩ := h.2 (by omega)
  refine ⟨b, o, hA, hlt, fun j hj => ?_⟩
  rw [hc j (by omega)]
  simp [List.getD, hj]

theorem u8_elem : Try.prog.elem 22 = 5 := by kernel_rfl
theorem u8_size (w : World) : (sizeOf 5).run Try.prog w = .ok 1 w := by kernel_rfl
theorem u8_slice : Try.prog.underlying 22 = some (.slice (Try.prog.elem 22)) := by rw [u8_elem]; exact Try.underlying22

/-- b[l:], of a slice of octets at whatever address. -/
theorem slice_from (A : Option Addr) (n c l : Nat) (hl : l ≤ n) :
    ∃ A', (∀ w : World, (Instr.slice 22 (.slice A n c) (some (.int .i64 (l : Int))) none none).run Try.prog w = .ok (.slice A' (n - l) (c - l)) w) ∧
      (∀ (w : World) (xs : List Int), RowI .u8 w A n xs → n ≤ c → RowI .u8 w A' (n - l) (xs.drop l)) ∧ (∀ B, Above B A → Above B A') ∧ (A' = none → A = none) := by
  refine ⟨if c = l then A else A.map (·.add (l * 1)), fun w => ?_, fun w xs h hnc => ?_, fun B hB => ?_, ?_⟩
  · have hr := run_slice_l (P := Try.prog) (w := w) (t := 22) (a := A) (len := n) (cap := c) (ht := u8_slice) (kl := .i64) (l := (l : Int)) (h0 := by omega) (h1 := by omega)
    rw [hr, u8_elem, u8_size]
    simp [Result.andThen, sliced]
  · refine ⟨by rw [List.length_drop, h.1], fun h0 => ?_⟩
    obtain ⟨b, o, hA, hlt, hc⟩ := h.2 (by omega)
    rw [if_neg (by omega), hA]
    refine ⟨b, o + l, by simp [Addr.add], hlt, fun j hj => ?_⟩
    rw [Nat.add_assoc, hc (l + j) (by omega)]
    simp [List.getD, List.getElem?_drop]
  · intro a ha
    split at ha
    · exact hB a ha
    · rcases A with _ | x
      · cases ha
      · have h1 := hB x rfl
        simp at ha
        subst ha
        unfold Addr.add
        split <;> exact h1
  · intro h
    split at h
    · exact h
    · rcases A with _ | x
      · rfl
      · cases h

/-- b[:h], of a slice of octets at whatever address. -/
theorem slice_upto (A : Option Addr) (n c h : Nat) (hh : h ≤ c) (w : World) :
    (Instr.slice 22 (.slice A n c) none (some (.int .i64 (h : Int))) none).run Try.prog w = .ok (.slice A h c) w := by
  have hr := run_slice_h (P := Try.prog) (w := w) (t := 22) (a := A) (len := n) (cap := c) (ht := u8_slice) (kh := .i64) (h := (h : Int)) (h0 := by omega) (h2 := by omega)
  rw [hr, u8_elem, u8_size]
  have ha : (if c = 0 then A else A.map fun x => x.add (0 * 1)) = A := by
    split
    · rfl
    · cases A <;> simp [Addr.add]
  simp [Result.andThen, sliced]
  simpa using ha
theorem clone_nil (w : World) : Calls Try.prog 25 #[.slice none 0 0] w fun e w' => e = .returned (.slice none 0 0) ∧ w' = w := by
  have q22 : ∀ (w : World) (a : Option Addr) (n c n' c' : Nat), (binOp .eql 22 (.slice a n c) (.slice none n' c')).run Try.prog w = .ok (.bool a.isNone) w := fun w a n c n' c' => Lib.run_eql_slice_nil w _ _ a n c n' c' Try.underlying22
  go_enter Try.func25, Try.ntmps25
  go_wp2
  go_ret
  exact ⟨rfl, rfl⟩

theorem clone_some (a : Addr) (n c : Nat) (xs : List Int) (w : World) (hr : RowI .u8 w (some a) n xs) (hn : n ≤ 100000) :
    Calls Try.prog 25 #[.slice (some a) n c] w fun e w' => ∃ v', e = .returned v' ∧ w'.ownsRow w.heap.size 5 1 v' n (xs.map (Value.int .u8)) ∧ Below w.heap.size w w' := by
  have q22 : ∀ (w : World) (a : Option Addr) (n c n' c' : Nat), (binOp .eql 22 (.slice a n c) (.slice none n' c')).run Try.prog w = .ok (.bool a.isNone) w := fun w a n c n' c' => Lib.run_eql_slice_nil w _ _ a n c n' c' Try.underlying22
  obtain ⟨v', w', happ, hown, hgrow⟩ := app_run .u8 22 5 1 Try.underlying22 info_u8 (w.alloc (.cells #[] 5)) w.heap.size (.slice (some ⟨w.heap.size, 0, none⟩) 0 0) 0 [] (World.ownsRow_made w #[] 0 (Nat.le_refl _) (Nat.zero_le _) rfl) (some a) n c xs (hr.alloc _) (fun h => by cases h) (by omega) (by unfold maxLen; omega) (by simp)
  rw [Nat.zero_add, List.nil_append] at hown
  have hb : Below w.heap.size w w' := ((Below.refl _ w).alloc (Nat.le_refl _) _).grown hgrow (by simp) (by intro k hk; simp [Value.ownBlock] at hk; omega)
  have HAPP := Lib.hid happ; clear happ
  have HOWN := Lib.hid hown; clear hown
  clear hgrow hr
  go_enter Try.func25, Try.ntmps25
  go_wp2_with (at_builtin; refine wpList_append_run rfl _ _ 22 rfl rfl _ _ _ _ rfl rfl HAPP.out ?_)
  go_ret
  exact ⟨v', rfl, HOWN.out, hb⟩

/-- bytes.Clone: a row of the call's own, or nil. -/
theorem clone_any (A : Option Addr) (n c : Nat) (xs : List Int) (w : World) (hr : RowI .u8 w A n xs) (hnil : A = none → n = 0 ∧ c = 0) (hn : n ≤ 100000) :
    Calls Try.prog 25 #[.slice A n c] w fun e w' => ∃ v', e = .returned v' ∧ w'.ownsRow w.heap.size 5 1 v' n (xs.map (Value.int .u8)) ∧ Below w.heap.size w w' := by
  rcases A with _ | a
  · obtain ⟨rfl, rfl⟩ := hnil rfl
    have : xs = [] := List.eq_nil_of_length_eq_zero hr.1
    subst this
    exact (clone_nil w).mono fun e w' ⟨he, hw⟩ => ⟨_, he, World.ownsRow_nil _ _ _ _, by rw [hw]; exact Below.refl _ _⟩
  · exact clone_some a n c xs w hr hn

end Go.Proofs.Ytgmaiickfpgeoaa
