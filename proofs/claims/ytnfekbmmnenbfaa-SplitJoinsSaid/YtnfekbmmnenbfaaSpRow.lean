/- Slices of octets cut; rows that the call owns, in blocks of other types; what a splitter's calls may turn. -/
import Derived.Test.YtnfekbmmnenbfaaOwn
import Derived.Lib.SliceRun
namespace Go.Proofs.Ytnfekbmmnenbfaa
open Go Go.RowKit
set_option linter.unusedVariables false

/-- Where it has an address, it lies in a block from B on. -/
def Above (B : Nat) (A : Option Addr) : Prop := ∀ a, A = some a → B ≤ a.block

theorem RowI.to {k : IntKind} {w : World} {A : Option Addr} {n : Nat} {xs : List Int} (h : RowI k w A n xs) {m : Nat} (hm : m ≤ n) : RowI k w A m (xs.take m) := by
  refine ⟨by rw [List.length_take, h.1]; omega, fun h0 => ?_⟩
  obtain ⟨b, o, hA, hlt, hc⟩ := h.2 (by omega)
  refine ⟨b, o, hA, hlt, fun j hj => ?_⟩
  rw [hc j (by omega)]
  simp [List.getD, hj]

theorem u8_elem : Try.prog.elem 42 = 5 := by kernel_rfl
theorem u8_size (w : World) : (sizeOf 5).run Try.prog w = .ok 1 w := by kernel_rfl
theorem u8_slice : Try.prog.underlying 42 = some (.slice (Try.prog.elem 42)) := by rw [u8_elem]; exact Try.underlying42

/-- b[l:], of a slice of octets at whatever address. -/
theorem slice_from (A : Option Addr) (n c l : Nat) (hl : l ≤ n) :
    ∃ A', (∀ w : World, (Instr.slice 42 (.slice A n c) (some (.int .i64 (l : Int))) none none).run Try.prog w = .ok (.slice A' (n - l) (c - l)) w) ∧
      (∀ (w : World) (xs : List Int), RowI .u8 w A n xs → n ≤ c → RowI .u8 w A' (n - l) (xs.drop l)) ∧ (∀ B, Above B A → Above B A') ∧ (A' = none → A = none) := by
  refine ⟨if c = l then A else A.map (·.add (l * 1)), fun w => ?_, fun w xs h hnc => ?_, fun B hB => ?_, ?_⟩
  · have hr := run_slice_l (P := Try.prog) (w := w) (t := 42) (a := A) (len := n) (cap := c) (ht := u8_slice) (kl := .i64) (l := (l : Int)) (h0 := by omega) (h1 := by omega)
    rw [hr, u8_elem, u8_size]
    simp [Result.andThen, sliced]
  · refine ⟨by rw [List.length_drop, h.1], fun h0 => ?_⟩
    obtain ⟨b, o, hA, hlt, hc⟩ := h.2 (by omega)
    rw [if_neg (by omega), hA]
    refine ⟨b, o + l, by simp [Addr.add], hlt, fun j hj => ?_⟩
    rw [Nat.add_assoc, hc (l + j) (by omega)]
    simp [List.getD, List.getElem?_drop]
  · intro a ha
    split at ha
    · exact hB a ha
    · rcases A with _ | x
      · cases ha
      · have h1 := hB x rfl
        simp at ha
        subst ha
        unfold Addr.add
        split <;> exact h1
  · intro h
    split at h
    · exact h
    · rcases A with _ | x
      · rfl
      · cases h

/-- b[:h], of a slice of octets at whatever address. -/
theorem slice_upto (A : Option Addr) (n c h : Nat) (hh : h ≤ c) (w : World) :
    (Instr.slice 42 (.slice A n c) none (some (.int .i64 (h : Int))) none).run Try.prog w = .ok (.slice A h c) w := by
  have hr := run_slice_h (P := Try.prog) (w := w) (t := 42) (a := A) (len := n) (cap := c) (ht := u8_slice) (kh := .i64) (h := (h : Int)) (h0 := by omega) (h2 := by omega)
  rw [hr, u8_elem, u8_size]
  have ha : (if c = 0 then A else A.map fun x => x.add (0 * 1)) = A := by
    split
    · rfl
    · cases A <;> simp [Addr.add]
  simp [Result.andThen, sliced]
  simpa using ha
section
variable {w w' : World} {B : Nat} {e : TypeId} {s : Nat} {v : Value} {n : Nat} {xs : List Value}
/-- A row stays where its block stays. -/
theorem row_keep (h : w.ownsRow B e s v n xs) (hk : ∀ k, k < w.heap.size → v.ownBlock = some k → w'.heap[k]? = w.heap[k]?) : w'.ownsRow B e s v n xs := by
  refine ⟨h.1, ?_⟩
  rcases h.2 with h2 | ⟨g, cap, cur, rfl, hbg, hg, hr⟩
  · exact .inl h2
  · exact .inr ⟨g, cap, cur, rfl, hbg, (hk g (Array.getElem?_eq_some_iff.1 hg).1 rfl).trans hg, hr⟩
theorem row_base (h : w.ownsRow B e s v n xs) {B' : Nat} (hB : ∀ k, v.ownBlock = some k → B' ≤ k) : w.ownsRow B' e s v n xs := by
  refine ⟨h.1, ?_⟩
  rcases h.2 with h2 | ⟨g, cap, cur, rfl, hbg, hg⟩
  · exact .inl h2
  · exact .inr ⟨g, cap, cur, rfl, hB g rfl, hg⟩
theorem row_lt (h : w.ownsRow B e s v n xs) {k : Nat} (hk : v.ownBlock = some k) : B ≤ k ∧ k < w.heap.size := by
  rcases h.2 with ⟨rfl, _⟩ | ⟨g, cap, cur, rfl, hbg, hg, _⟩
  · cases hk
  · injection hk with hk
    subst hk
    exact ⟨hbg, (Array.getElem?_eq_some_iff.1 hg).1⟩
/-- Rows of different types lie in different blocks. -/
theorem row_ne_blk (h : w.ownsRow B e s v n xs) {g : Nat} {cs : Array Value} {t : TypeId} {f : Nat × Nat} (hg : w.heap[g]? = some (.cells cs t f)) (hne : e ≠ t) : v.ownBlock ≠ some g := by
  rcases h.2 with ⟨rfl, _⟩ | ⟨b, cap, cur, rfl, hb, hr, _⟩
  · simp [Value.ownBlock]
  · simp [Value.ownBlock]
    rintro rfl
    rw [hr] at hg
    injection hg with hg
    injection hg with _ ht _
    exact hne ht
theorem row_ne_row {B' : Nat} {e' : TypeId} {s' : Nat} {v' : Value} {n' : Nat} {xs' : List Value} (h : w.ownsRow B e s v n xs) (h' : w.ownsRow B' e' s' v' n' xs') (hne : e ≠ e') {k : Nat} (hk : v'.ownBlock = some k) : v.ownBlock ≠ some k := by
  rcases h'.2 with ⟨rfl, _⟩ | ⟨b, cap, cur, rfl, hb, hr, _⟩
  · cases hk
  · injection hk with hk
    subst hk
    exact row_ne_blk h hr hne
end


/-- Nothing below B has turned, and nothing but block g and octets. -/
structure Touch (B g : Nat) (w w' : World) : Prop where
  low : Below B w w'
  keep : ∀ (k : Nat) (cs : Array Value) (t : TypeId) (f : Nat × Nat), w.heap[k]? = some (.cells cs t f) → k ≠ g → t ≠ 5 → w'.heap[k]? = some (.cells cs t f)
section
variable {B g : Nat} {w w' w'' : World}
theorem Touch.refl (B g : Nat) (w : World) : Touch B g w w := ⟨Below.refl _ _, fun _ _ _ _ h _ _ => h⟩
theorem Touch.trans (h : Touch B g w w') (k : Touch B g w' w'') : Touch B g w w'' :=
  ⟨h.low.trans k.low, fun i cs t f h1 h2 h3 => k.keep i cs t f (h.keep i cs t f h1 h2 h3) h2 h3⟩
theorem Touch.drewN (h : Touch B g w w') (q : Nat) : Touch B g w (w'.drewN q) := ⟨below_drewN h.low q, h.keep⟩
theorem Touch.drew (h : Touch B g w w') : Touch B g w w'.drew := ⟨h.low.drew, h.keep⟩
theorem Touch.alloc (h : Touch B g w w') (hB : B ≤ w.heap.size) (o : Obj) : Touch B g w (w'.alloc o) := by
  refine ⟨h.low.alloc (Nat.le_trans hB h.low.size) o, fun k cs t f h1 h2 h3 => ?_⟩
  have hk := h.keep k cs t f h1 h2 h3
  exact (Below.heap_alloc w' o k (Array.getElem?_eq_some_iff.1 hk).1).trans hk
theorem Touch.setCell (h : Touch B g w w') {j : Nat} (hB : B ≤ g) (u : Value) : Touch B g w (w'.setCell ⟨g, j, none⟩ u) :=
  ⟨h.low.setCell (p := ⟨g, j, none⟩) hB u, fun k cs t f h1 h2 h3 => (Below.heap_setCell w' _ u k h2).trans (h.keep k cs t f h1 h2 h3)⟩
/-- Octets that the call owns have grown. -/
theorem Touch.grown (h : Touch B g w w') {V : Value} {n : Nat} {xs : List Value} (hV : w'.ownsRow B 5 1 V n xs) (hB : B ≤ w.heap.size) (hg : w'.grownBy w'' V.ownBlock) : Touch B g w w'' := by
  refine ⟨h.low.grown hg (Nat.le_trans hB h.low.size) fun k hk => (row_lt hV hk).1, fun k cs t f h1 h2 h3 => ?_⟩
  have hk := h.keep k cs t f h1 h2 h3
  rw [hg.block k (Array.getElem?_eq_some_iff.1 hk).1 fun e => row_ne_blk hV hk (fun e => h3 e.symm) e.symm]
  exact hk
theorem Touch.of_below (h : Below w.heap.size w w') (hB : B ≤ w.heap.size) : Touch B g w w' :=
  ⟨Below.mono h hB, fun k cs t f h1 _ _ => (h.block k (Array.getElem?_eq_some_iff.1 h1).1).trans h1⟩
/-- A row of another type stays. -/
theorem row_touch {B' : Nat} {e : TypeId} {s : Nat} {v : Value} {n : Nat} {xs : List Value} (h : w.ownsRow B' e s v n xs) (ht : Touch B g w w') (hg : v.ownBlock ≠ some g) (he : e ≠ 5) : w'.ownsRow B' e s v n xs := by
  refine ⟨h.1, ?_⟩
  rcases h.2 with h2 | ⟨b, cap, cur, rfl, hb, hr, r⟩
  · exact .inl h2
  · refine .inr ⟨b, cap, cur, rfl, hb, ht.keep b _ _ _ hr (fun e => hg (by simp [Value.ownBlock, e])) he, r⟩
end
end Go.Proofs.Ytnfekbmmnenbfaa
