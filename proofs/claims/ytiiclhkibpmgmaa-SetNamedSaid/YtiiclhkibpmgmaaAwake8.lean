/- The document's example. -/
import Derived.Test.YtiiclhkibpmgmaaFaces
namespace Go.Proofs.Ytiiclhkibpmgmaa
open Go Go.RowKit
set_option linter.unusedVariables false

/-- A row of ranges, just made. -/
theorem inG_made (w : World) (s : List (Int × Int)) (hw : ∀ p ∈ s, (Lit.int .i64 p.1).wf = true ∧ (Lit.int .i64 p.2).wf = true) (hl : s.length ≤ 1000000) :
    (w.alloc (.cells (cellsG s).toArray 39)).ownsRow w.heap.size 39 2 (.slice (some ⟨w.heap.size, 0, none⟩) s.length s.length) s.length (cellsG s) ∧ InG (w.alloc (.cells (cellsG s).toArray 39)) (some ⟨w.heap.size, 0, none⟩) s.length s.length s := by
  have h : (w.alloc (.cells (cellsG s).toArray 39)).ownsRow w.heap.size 39 2 (.slice (some ⟨w.heap.size, 0, none⟩) s.length s.length) s.length (cellsG s) :=
    ⟨cellsG_length s, .inr ⟨w.heap.size, s.length, _, rfl, Nat.le_refl _, heap_alloc_new w _, Nat.le_refl _, by unfold maxLen; omega, by simp [cellsG_length], by rw [← cellsG_length s]; simp⟩⟩
  refine ⟨h, ?_⟩
  obtain ⟨A, c, e, h2⟩ := inG_of_own h hw
  injection e with e1 _ e3
  subst e1; subst e3
  exact h2

set_option maxHeartbeats 1000000 in
theorem awake_any (F : Faces) (w : World) : Calls Try.prog 8 #[] w fun e w' => e = .returned (.bool true) ∧ Below w.heap.size w w' := by
  have hin := (inG_made w [(97, 99), (98, 101), (102, 102)] (by
    intro p hp
    simp at hp
    rcases hp with rfl | rfl | rfl <;> exact ⟨wf_small (by decide), wf_small (by decide)⟩) (by decide)).2
  have hc := F.of _ _ _ _ _ hin (by decide)
  have HC := Lib.hid hc
  have hb0 : Below w.heap.size w (w.alloc (.cells (cellsG [(97, 99), (98, 101), (102, 102)]).toArray 39)) := (Below.refl _ _).alloc (Nat.le_refl _) _
  have HB0 := Lib.hid hb0
  clear hin hc hb0
  go_enter Try.func8, Try.ntmps8
  go_wp2_with (first
    | (go_at_call 9; refine HC.out.mono ?_; rintro e w1 ⟨V, t, rfl, ho, hcan, hmem⟩; have ht := awake_set t hcan hmem; subst ht; obtain ⟨A, c, rfl, hin1, _⟩ := canon_out ho hcan; have hmk := inG_made w1 [(97, 102)] (by intro p hp; simp at hp; subst hp; exact ⟨wf_small (by decide), wf_small (by decide)⟩) (by decide); have HS := Lib.hid (rsameG_any [(97, 102)] A (some ⟨w1.heap.size, 0, none⟩) 1 c 1 _ (hin1.1.below ((Below.refl w1.heap.size w1).alloc (Nat.le_refl _) _) (Nat.le_refl _)) hmk.2.1 (by decide)); have HB1 := Lib.hid (then_ HB0.out ho.2); clear ho hcan hmem hin1 hmk)
    | (go_at_call 12; refine HS.out.mono ?_; rintro e w2 ⟨rfl, q, rfl⟩))
  go_ret
  exact ⟨rfl, below_drewN (HB1.out.alloc HB1.out.size _) q⟩
end Go.Proofs.Ytiiclhkibpmgmaa
