/- Slices of records cut. -/
import Derived.Test.YtmpemcooianfiaaItM
namespace Go.Proofs.Ytmpemcooianfiaa
open Go Go.RowKit
set_option linter.unusedVariables false
set_option maxRecDepth 20000

theorem cut_to (t e : TypeId) (s : Nat) (ht : Try.prog.underlying t = some (.slice e)) (he : Try.prog.elem t = e) (hs : ∀ w : World, (sizeOf e).run Try.prog w = .ok s w) (a : Option Addr) (n c i : Nat) (hi : i ≤ c) (w : World) :
    (Instr.slice t (.slice a n c) none (some (.int .i64 (i : Int))) none).run Try.prog w = .ok (.slice a i c) w := by
  have hr := run_slice_h (P := Try.prog) (w := w) (t := t) (a := a) (len := n) (cap := c) (ht := by rw [he]; exact ht) (kh := .i64) (h := (i : Int)) (h0 := by omega) (h2 := by omega)
  rw [hr, he, hs]
  by_cases h0 : c = 0 <;> cases a <;> simp [Result.andThen, sliced, Addr.add]
theorem cut_from (t e : TypeId) (s : Nat) (ht : Try.prog.underlying t = some (.slice e)) (he : Try.prog.elem t = e) (hs : ∀ w : World, (sizeOf e).run Try.prog w = .ok s w) (b o n c i : Nat) (hi : i ≤ n) (hc : n ≤ c) (w : World) :
    (Instr.slice t (.slice (some ⟨b, o, none⟩) n c) (some (.int .i64 (i : Int))) none none).run Try.prog w = .ok (.slice (some ⟨b, if c = i then o else o + i * s, none⟩) (n - i) (c - i)) w := by
  have hr := run_slice_l (P := Try.prog) (w := w) (t := t) (a := some ⟨b, o, none⟩) (len := n) (cap := c) (ht := by rw [he]; exact ht) (kl := .i64) (l := (i : Int)) (h0 := by omega) (h1 := by omega)
  rw [hr, he, hs]
  by_cases h0 : c = i
  · simp [Result.andThen, sliced, h0]
  · simp [Result.andThen, sliced, h0, Addr.add]
theorem cut_both (t e : TypeId) (s : Nat) (ht : Try.prog.underlying t = some (.slice e)) (he : Try.prog.elem t = e) (hs : ∀ w : World, (sizeOf e).run Try.prog w = .ok s w) (b n c i j : Nat) (hi : i ≤ j) (hj : j ≤ c) (hic : i < c) (w : World) :
    (Instr.slice t (.slice (some ⟨b, 0, none⟩) n c) (some (.int .i64 (i : Int))) (some (.int .i64 (j : Int))) none).run Try.prog w = .ok (.slice (some ⟨b, i * s, none⟩) (j - i) (c - i)) w := by
  have hr := run_slice_lh (P := Try.prog) (w := w) (t := t) (a := some ⟨b, 0, none⟩) (len := n) (cap := c) (ht := by rw [he]; exact ht) (kl := .i64) (kh := .i64) (l := (i : Int)) (h := (j : Int)) (h0 := by omega) (h1 := by omega) (h2 := by omega)
  rw [hr, he, hs]
  have hadd : (⟨b, 0, none⟩ : Addr).add (i * s) = ⟨b, i * s, none⟩ := by unfold Addr.add; split <;> simp_all
  simp [Result.andThen, sliced, show ¬ c = i by omega, hadd]
theorem cut_three (t e : TypeId) (s : Nat) (ht : Try.prog.underlying t = some (.slice e)) (he : Try.prog.elem t = e) (hs : ∀ w : World, (sizeOf e).run Try.prog w = .ok s w) (a : Option Addr) (n c i j k : Nat) (hi : i ≤ j) (hj : j ≤ k) (hk : k ≤ c) (w : World) :
    ∃ v, ∀ w : World, (Instr.slice t (.slice a n c) (some (.int .i64 (i : Int))) (some (.int .i64 (j : Int))) (some (.int .i64 (k : Int)))).run Try.prog w = .ok v w := by
  refine ⟨sliced a i j k s, fun w => ?_⟩
  rw [run_slice_any (ht := by rw [he]; exact ht), he]
  have e1 : (Instr.sliceBounds true n c (some (.int .i64 (i : Int))) (some (.int .i64 (j : Int))) (some (.int .i64 (k : Int)))).run Try.prog w = .ok (i, j, k) w := by
    simp [Instr.sliceBounds, run_sliceBound, Result.andThen, show ((j : Int) ≤ (k : Int)) by omega, show ((i : Int) ≤ (j : Int)) by omega, show ((k : Int) ≤ (c : Int)) by omega]
  rw [e1]
  simp [Result.andThen, hs]

theorem item_elem : Try.prog.elem 29 = 36 := by kernel_rfl
theorem item_size (w : World) : (sizeOf 36).run Try.prog w = .ok 7 w := by kernel_rfl
end Go.Proofs.Ytmpemcooianfiaa
