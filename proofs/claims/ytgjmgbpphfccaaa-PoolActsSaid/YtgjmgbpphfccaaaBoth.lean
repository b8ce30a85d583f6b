/- The pool and the document's pool side by side. -/
import Derived.Test.YtgjmgbpphfccaaaRSt
import Derived.Test.YtgjmgbpphfccaaaPView
namespace Go.Proofs.Ytgjmgbpphfccaaa
open Go Go.RowKit
set_option linter.unusedVariables false

/-- Both hold the same, in blocks of their own. -/
structure Both (w : World) (B : Nat) (F F2 : Nat → Prop) (g g2 size : Nat) (s s2 : St) : Prop where
  p : PoolS w B F g size s
  r : RefS w B F2 g2 size s2
  dis : ∀ k, F k → ¬ F2 k
/-- A block that neither writes. -/
structure Safe (w : World) (F F2 : Nat → Prop) (b : Nat) (cs : Array Value) (t : TypeId) : Prop where
  n1 : ¬ F b
  n2 : ¬ F2 b
  blk : w.heap[b]? = some (.cells cs t (0, 0))
section
variable {w w' : World} {B g g2 size b : Nat} {F F2 F' : Nat → Prop} {s s2 s' : St} {cs : Array Value} {t : TypeId}
theorem Both.pool (h : Both w B F F2 g g2 size s s2) (hp : PoolS w' B F' g size s') (hs : Step F F' w w') : Both w' B F' F2 g g2 size s' s2 where
  p := hp
  r := h.r.moved hs.1 (fun k hk hf => h.dis k hf hk)
  dis := fun k hk hk2 => by
    rcases hs.2 k hk with h1 | h1
    · exact h.dis k h1 hk2
    · have := (h.r.low hk2).2
      omega
theorem Both.ref (h : Both w B F F2 g g2 size s s2) (hr : RefS w' B F' g2 size s') (hs : Step F2 F' w w') : Both w' B F F' g g2 size s s' where
  p := h.p.moved hs.1 h.dis
  r := hr
  dis := fun k hk hk2 => by
    rcases hs.2 k hk2 with h1 | h1
    · exact h.dis k hk h1
    · have := (h.p.low hk).2
      omega
theorem Both.below (h : Both w B F F2 g g2 size s s2) (hb : Below w.heap.size w w') : Both w' B F F2 g g2 size s s2 := ⟨h.p.below hb, h.r.below hb, h.dis⟩
theorem Both.drewN (h : Both w B F F2 g g2 size s s2) (q : Nat) : Both (w.drewN q) B F F2 g g2 size s s2 := ⟨h.p.drewN q, h.r.drewN q, h.dis⟩
theorem Both.moved (h : Both w B F F2 g g2 size s s2) {F3 : Nat → Prop} (hm : Moved F3 w w') (h1 : ∀ k, F k → ¬ F3 k) (h2 : ∀ k, F2 k → ¬ F3 k) : Both w' B F F2 g g2 size s s2 := ⟨h.p.moved hm h1, h.r.moved hm h2, h.dis⟩
theorem Both.lo (h : Both w B F F2 g g2 size s s2) : B ≤ w.heap.size := by have := h.p.low h.p.fg; omega
theorem Safe.lt (h : Safe w F F2 b cs t) : b < w.heap.size := (Array.getElem?_eq_some_iff.1 h.blk).1
theorem Safe.cell (h : Safe w F F2 b cs t) (j : Nat) : w.cell? ⟨b, j, none⟩ = cs[j]? := cell_of_row w b j _ _ (0, 0) h.blk
theorem Safe.pool (h : Safe w F F2 b cs t) (hs : Step F F' w w') : Safe w' F' F2 b cs t where
  n1 := fun e => by
    rcases hs.2 b e with h1 | h1
    · exact h.n1 h1
    · have := h.lt; omega
  n2 := h.n2
  blk := (hs.1.block b h.lt h.n1).trans h.blk
theorem Safe.ref (h : Safe w F F2 b cs t) (hs : Step F2 F' w w') : Safe w' F F' b cs t where
  n1 := h.n1
  n2 := fun e => by
    rcases hs.2 b e with h1 | h1
    · exact h.n2 h1
    · have := h.lt; omega
  blk := (hs.1.block b h.lt h.n2).trans h.blk
theorem Safe.below (h : Safe w F F2 b cs t) (hb : Below w.heap.size w w') : Safe w' F F2 b cs t := ⟨h.n1, h.n2, (hb.block b h.lt).trans h.blk⟩
theorem Safe.drewN (h : Safe w F F2 b cs t) (q : Nat) : Safe (w.drewN q) F F2 b cs t := ⟨h.n1, h.n2, h.blk⟩
theorem Safe.moved (h : Safe w F F2 b cs t) {F3 : Nat → Prop} (hm : Moved F3 w w') (h3 : ¬ F3 b) : Safe w' F F2 b cs t := ⟨h.n1, h.n2, (hm.block b h.lt h3).trans h.blk⟩
theorem RefS.base (h : RefS w B F g size s) {B' : Nat} (hB : B' ≤ B) : RefS w B' F g size s := by
  obtain ⟨HV, BV, LV, hp⟩ := h
  exact ⟨HV, BV, LV, { hp with low := fun k hk => ⟨Nat.le_trans hB (hp.low k hk).1, (hp.low k hk).2⟩ }⟩
theorem Step.drewN' {q : Nat} (h : Step F F' (w.drewN q) w') : Step F F' w w' := ⟨⟨h.1.os, h.1.tape, h.1.output, h.1.size, h.1.block⟩, h.2⟩
theorem Step.below2 (h : Step F F' w w') (hF : ∀ k, F k → B ≤ k) (hB : B ≤ w.heap.size) : Below B w w' := h.1.below hF hB
/-- What Octets tells is what the buffer has. -/
theorem octX_eq {n M : Nat} (hg : Good n size M s) {i : Nat} (hi : i < n) : octX s (i : Int) = s.os.getD i [] := by
  unfold octX
  split
  · rename_i h0
    have h1 : i < s.hs.length := by have := hg.hn; omega
    rw [heldL_nat] at h0
    have h2 : s.hs[i]? = some 0 := by
      rw [List.getD, List.getElem?_eq_getElem h1, Option.getD_some] at h0
      rw [List.getElem?_eq_getElem h1, h0]
    rw [List.getD, hg.emp i h2]
    rfl
  · simp
end
end Go.Proofs.Ytgjmgbpphfccaaa
