/- The pool's memory: its block, the row of its buffers (two cells each), their octets, the line. -/
import Derived.Test.YtgjmgbpphfccaaaOwn
import Derived.Deep.OwnRows
import Derived.BigQuiet
namespace Go.Proofs.Ytgjmgbpphfccaaa
open Go Go.RowKit
set_option linter.unusedVariables false

/-- But for the blocks of F, nothing that was there has turned. -/
structure Moved (F : Nat → Prop) (w w' : World) : Prop where
  os : w'.os = w.os
  tape : w'.tape = w.tape
  output : w'.output = w.output
  size : w.heap.size ≤ w'.heap.size
  block : ∀ k, k < w.heap.size → ¬ F k → w'.heap[k]? = w.heap[k]?
/-- The blocks of F, and new ones. -/
def Step (F F' : Nat → Prop) (w w' : World) : Prop := Moved F w w' ∧ ∀ k, F' k → F k ∨ w.heap.size ≤ k

section
variable {F F' F'' : Nat → Prop} {a b c w w' : World}
theorem Moved.refl (F : Nat → Prop) (w : World) : Moved F w w := ⟨rfl, rfl, rfl, Nat.le_refl _, fun _ _ _ => rfl⟩
theorem Moved.drewN (h : Moved F w w') (q : Nat) : Moved F w (w'.drewN q) := ⟨h.os, h.tape, h.output, h.size, h.block⟩
theorem Moved.drew (h : Moved F w w') : Moved F w w'.drew := ⟨h.os, h.tape, h.output, h.size, h.block⟩
theorem Moved.alloc (h : Moved F w w') (o : Obj) : Moved F w (w'.alloc o) :=
  ⟨h.os, h.tape, h.output, Nat.le_trans h.size (by simp), fun k hk hf => (Below.heap_alloc w' o k (Nat.lt_of_lt_of_le hk h.size)).trans (h.block k hk hf)⟩
theorem Moved.setCell (h : Moved F w w') {p : Addr} (hp : F p.block ∨ w.heap.size ≤ p.block) (u : Value) : Moved F w (w'.setCell p u) :=
  ⟨h.os, h.tape, h.output, by simpa [World.setCell] using h.size, fun k hk hf => (Below.heap_setCell w' p u k (fun e => by
    subst e
    rcases hp with hp | hp
    · exact hf hp
    · omega)).trans (h.block k hk hf)⟩
theorem Moved.grown (h : Moved F w w') {w'' : World} {row : Option Nat} (hg : w'.grownBy w'' row) (hr : ∀ k, row = some k → F k ∨ w.heap.size ≤ k) : Moved F w w'' :=
  ⟨hg.os.trans h.os, hg.tape.trans h.tape, hg.output.trans h.output, Nat.le_trans h.size hg.size, fun k hk hf => (hg.block k (Nat.lt_of_lt_of_le hk h.size) (fun e => by
    rcases hr k e.symm with h1 | h1
    · exact hf h1
    · omega)).trans (h.block k hk hf)⟩
theorem Moved.trans (h : Step F F' a b) (k : Moved F' b c) : Moved F a c :=
  ⟨k.os.trans h.1.os, k.tape.trans h.1.tape, k.output.trans h.1.output, Nat.le_trans h.1.size k.size, fun i hi hf => (k.block i (Nat.lt_of_lt_of_le hi h.1.size) (fun e => by
    rcases h.2 i e with h1 | h1
    · exact hf h1
    · omega)).trans (h.1.block i hi hf)⟩
theorem Step.refl (F : Nat → Prop) (w : World) : Step F F w w := ⟨Moved.refl _ _, fun _ h => .inl h⟩
theorem Step.drewN (h : Step F F' w w') (q : Nat) : Step F F' w (w'.drewN q) := ⟨h.1.drewN q, h.2⟩
theorem Step.trans (h : Step F F' a b) (k : Step F' F'' b c) : Step F F'' a c :=
  ⟨Moved.trans h k.1, fun i hi => by
    rcases k.2 i hi with h1 | h1
    · exact h.2 i h1
    · exact .inr (Nat.le_trans h.1.size h1)⟩
theorem Moved.below (h : Moved F w w') {B : Nat} (hF : ∀ k, F k → B ≤ k) (hB : B ≤ w.heap.size) : Below B w w' :=
  ⟨h.os, h.tape, h.output, h.size, fun k hk => h.block k (by omega) (fun e => by have := hF k e; omega)⟩
theorem Moved.of_below (h : Below w.heap.size w w') (F : Nat → Prop) : Moved F w w' := ⟨h.os, h.tape, h.output, h.size, fun k hk _ => h.block k hk⟩
end

section
variable {w w' : World} {B : Nat} {e : TypeId} {s : Nat} {v : Value} {n : Nat} {xs : List Value}
/-- A row stays where its block stays. -/
theorem row_keep (h : w.ownsRow B e s v n xs) (hk : ∀ k, k < w.heap.size → v.ownBlock = some k → w'.heap[k]? = w.heap[k]?) : w'.ownsRow B e s v n xs := by
  refine ⟨h.1, ?_⟩
  rcases h.2 with h2 | ⟨g, cap, cur, rfl, hbg, hg, hr⟩
  · exact .inl h2
  · exact .inr ⟨g, cap, cur, rfl, hbg, (hk g (Array.getElem?_eq_some_iff.1 hg).1 rfl).trans hg, hr⟩
theorem row_base (h : w.ownsRow B e s v n xs) {B' : Nat} (hB : ∀ k, v.ownBlock = some k → B' ≤ k) : w.ownsRow B' e s v n xs := by
  refine ⟨h.1, ?_⟩
  rcases h.2 with h2 | ⟨g, cap, cur, rfl, hbg, hg⟩
  · exact .inl h2
  · exact .inr ⟨g, cap, cur, rfl, hB g rfl, hg⟩
theorem row_moved {F : Nat → Prop} (h : w.ownsRow B e s v n xs) (hm : Moved F w w') (hf : ∀ k, v.ownBlock = some k → ¬ F k) : w'.ownsRow B e s v n xs :=
  row_keep h fun k hk hv => hm.block k hk (hf k hv)
theorem row_lt (h : w.ownsRow B e s v n xs) {k : Nat} (hk : v.ownBlock = some k) : B ≤ k ∧ k < w.heap.size := by
  rcases h.2 with ⟨rfl, _⟩ | ⟨g, cap, cur, rfl, hbg, hg, _⟩
  · cases hk
  · injection hk with hk
    subst hk
    exact ⟨hbg, (Array.getElem?_eq_some_iff.1 hg).1⟩
/-- Rows of different types lie in different blocks. -/
theorem row_ne_blk (h : w.ownsRow B e s v n xs) {g : Nat} {cs : Array Value} {t : TypeId} {f : Nat × Nat} (hg : w.heap[g]? = some (.cells cs t f)) (hne : e ≠ t) : v.ownBlock ≠ some g := by
  rcases h.2 with ⟨rfl, _⟩ | ⟨b, cap, cur, rfl, hb, hr, _⟩
  · simp [Value.ownBlock]
  · simp [Value.ownBlock]
    rintro rfl
    rw [hr] at hg
    injection hg with hg
    injection hg with _ ht _
    exact hne ht
theorem row_ne_row {B' : Nat} {e' : TypeId} {s' : Nat} {v' : Value} {n' : Nat} {xs' : List Value} (h : w.ownsRow B e s v n xs) (h' : w.ownsRow B' e' s' v' n' xs') (hne : e ≠ e') {k : Nat} (hk : v'.ownBlock = some k) : v.ownBlock ≠ some k := by
  rcases h'.2 with ⟨rfl, _⟩ | ⟨b, cap, cur, rfl, hb, hr, _⟩
  · cases hk
  · injection hk with hk
    subst hk
    exact row_ne_blk h hr hne
end

/-- Whole numbers as values. -/
def ints (l : List Nat) : List Int := l.map (fun x : Nat => (x : Int))
def iv (l : List Nat) : List Value := (ints l).map (Value.int .i64)
theorem ints_length (l : List Nat) : (ints l).length = l.length := by simp [ints]
theorem ints_append (l m : List Nat) : ints (l ++ m) = ints l ++ ints m := by simp [ints]
theorem iv_append (l m : List Nat) : iv (l ++ m) = iv l ++ iv m := by simp [iv, ints]
theorem iv_length (l : List Nat) : (iv l).length = l.length := by simp [iv, ints]

/-- The buffers' cells: each one's octets and how often it is held. -/
def weave : List Value → List Nat → List Value
  | v :: vs, h :: hs => v :: .int .i64 (h : Int) :: weave vs hs
  | _, _ => []
theorem weave_length : ∀ (vs : List Value) (hs : List Nat), vs.length = hs.length → (weave vs hs).length = hs.length * 2
  | [], [], _ => rfl
  | [], _ :: _, h => by simp at h
  | _ :: _, [], h => by simp at h
  | v :: vs, h :: hs, hl => by rw [weave, List.length_cons, List.length_cons, weave_length vs hs (by simpa using hl), List.length_cons]; omega
theorem weave_even : ∀ (vs : List Value) (hs : List Nat) (i : Nat), vs.length = hs.length → (weave vs hs)[i * 2]? = vs[i]?
  | [], [], i, _ => by simp [weave]
  | [], _ :: _, _, h => by simp at h
  | _ :: _, [], _, h => by simp at h
  | v :: vs, h :: hs, i, hl => by
    rw [weave]
    rcases i with _ | i
    · rfl
    · rw [show (i + 1) * 2 = i * 2 + 1 + 1 by omega, List.getElem?_cons_succ, List.getElem?_cons_succ, List.getElem?_cons_succ]
      exact weave_even vs hs i (by simpa using hl)
theorem weave_odd : ∀ (vs : List Value) (hs : List Nat) (i : Nat), vs.length = hs.length → (weave vs hs)[i * 2 + 1]? = hs[i]?.map fun h => .int .i64 (h : Int)
  | [], [], i, _ => by simp [weave]
  | [], _ :: _, _, h => by simp at h
  | _ :: _, [], _, h => by simp at h
  | v :: vs, h :: hs, i, hl => by
    rw [weave]
    rcases i with _ | i
    · rfl
    · rw [show (i + 1) * 2 + 1 = i * 2 + 1 + 1 + 1 by omega, List.getElem?_cons_succ, List.getElem?_cons_succ, List.getElem?_cons_succ]
      exact weave_odd vs hs i (by simpa using hl)
theorem weave_setO : ∀ (vs : List Value) (hs : List Nat) (i : Nat) (u : Value), vs.length = hs.length → (weave vs hs).set (i * 2) u = weave (vs.set i u) hs
  | [], [], i, u, _ => by simp [weave]
  | [], _ :: _, _, _, h => by simp at h
  | _ :: _, [], _, _, h => by simp at h
  | v :: vs, h :: hs, i, u, hl => by
    rcases i with _ | i
    · simp [weave]
    · rw [show (i + 1) * 2 = i * 2 + 1 + 1 by omega]
      simp only [weave, List.set_cons_succ]
      rw [weave_setO vs hs i u (by simpa using hl)]
theorem weave_setH : ∀ (vs : List Value) (hs : List Nat) (i : Nat) (x : Nat), vs.length = hs.length → (weave vs hs).set (i * 2 + 1) (.int .i64 (x : Int)) = weave vs (hs.set i x)
  | [], [], i, u, _ => by simp [weave]
  | [], _ :: _, _, _, h => by simp at h
  | _ :: _, [], _, _, h => by simp at h
  | v :: vs, h :: hs, i, x, hl => by
    rcases i with _ | i
    · simp [weave]
    · rw [show (i + 1) * 2 + 1 = i * 2 + 1 + 1 + 1 by omega]
      simp only [weave, List.set_cons_succ]
      rw [weave_setH vs hs i x (by simpa using hl)]

/-- The pool that lies in block g, its memory in the blocks of F: the greatest size, each buffer's octets, how often each is held, the line. -/
structure PoolC (w : World) (B : Nat) (F : Nat → Prop) (g gb : Nat) (FV : Value) (Vs : List Value) (size : Nat) (os : List (List Int)) (hs ln : List Nat) : Prop where
  low : ∀ k, F k → B ≤ k ∧ k < w.heap.size
  fg : F g
  fb : F gb
  ff : ∀ k, FV.ownBlock = some k → F k
  fo : ∀ (i : Nat) (V : Value) (k : Nat), Vs[i]? = some V → V.ownBlock = some k → F k
  blk : w.heap[g]? = some (.cells #[.int .i64 (size : Int), .slice (some ⟨gb, 0, none⟩) hs.length hs.length, FV] 63 (0, 0))
  row : w.ownsRow 0 66 2 (.slice (some ⟨gb, 0, none⟩) hs.length hs.length) hs.length (weave Vs hs)
  free : w.ownsRow 0 3 1 FV ln.length (iv ln)
  lv : Vs.length = hs.length
  lo : os.length = hs.length
  oct : ∀ (i : Nat) (V : Value) (o : List Int), Vs[i]? = some V → os[i]? = some o → w.ownsRow 0 5 1 V o.length (o.map (.int .u8))
  apart : ∀ (i j : Nat) (V V' : Value) (k : Nat), i ≠ j → Vs[i]? = some V → Vs[j]? = some V' → V.ownBlock = some k → V'.ownBlock ≠ some k

section
variable {w w' : World} {B g gb size : Nat} {F : Nat → Prop} {FV : Value} {Vs : List Value} {os : List (List Int)} {hs ln : List Nat}
theorem PoolC.c0 (h : PoolC w B F g gb FV Vs size os hs ln) : w.cell? ⟨g, 0, none⟩ = some (.int .i64 (size : Int)) := cell_of_row w g 0 _ _ (0, 0) h.blk
theorem PoolC.c1 (h : PoolC w B F g gb FV Vs size os hs ln) : w.cell? ⟨g, 1, none⟩ = some (.slice (some ⟨gb, 0, none⟩) hs.length hs.length) := cell_of_row w g 1 _ _ (0, 0) h.blk
theorem PoolC.c2 (h : PoolC w B F g gb FV Vs size os hs ln) : w.cell? ⟨g, 2, none⟩ = some FV := cell_of_row w g 2 _ _ (0, 0) h.blk
theorem PoolC.fz (h : PoolC w B F g gb FV Vs size os hs ln) (j : Nat) : w.frozen? ⟨g, j, none⟩ = false := by have := h.blk; simp [World.frozen?, this]
theorem PoolC.fzb (h : PoolC w B F g gb FV Vs size os hs ln) (j : Nat) : w.frozen? ⟨gb, j, none⟩ = false := h.row.frozenAt j
theorem PoolC.cO (h : PoolC w B F g gb FV Vs size os hs ln) {i : Nat} (hi : i < hs.length) : w.cell? ⟨gb, i * 2, none⟩ = Vs[i]? := (h.row.cellAt (i * 2) (by omega)).trans (weave_even Vs hs i h.lv)
theorem PoolC.cH (h : PoolC w B F g gb FV Vs size os hs ln) {i : Nat} (hi : i < hs.length) : w.cell? ⟨gb, i * 2 + 1, none⟩ = some (.int .i64 (hs.getD i 0 : Int)) := by
  rw [h.row.cellAt (i * 2 + 1) (by omega), weave_odd Vs hs i h.lv]
  simp [List.getElem?_eq_getElem hi]
theorem PoolC.lt (h : PoolC w B F g gb FV Vs size os hs ln) : g < w.heap.size := (h.low g h.fg).2
theorem PoolC.ltb (h : PoolC w B F g gb FV Vs size os hs ln) : gb < w.heap.size := (h.low gb h.fb).2
theorem PoolC.ne (h : PoolC w B F g gb FV Vs size os hs ln) : gb ≠ g := by
  have := row_ne_blk h.row h.blk (by decide)
  simpa [Value.ownBlock] using this
/-- It stays where its blocks stay. -/
theorem PoolC.keep (h : PoolC w B F g gb FV Vs size os hs ln) (hs' : ∀ k, F k → w'.heap[k]? = w.heap[k]?) (hz : w.heap.size ≤ w'.heap.size) : PoolC w' B F g gb FV Vs size os hs ln where
  low := fun k hk => ⟨(h.low k hk).1, Nat.lt_of_lt_of_le (h.low k hk).2 hz⟩
  fg := h.fg
  fb := h.fb
  ff := h.ff
  fo := h.fo
  blk := (hs' g h.fg).trans h.blk
  row := row_keep h.row fun k _ e => hs' k (by injection e with e; subst e; exact h.fb)
  free := row_keep h.free fun k _ e => hs' k (h.ff k e)
  lv := h.lv
  lo := h.lo
  oct := fun i V o hV ho => row_keep (h.oct i V o hV ho) fun k _ e => hs' k (h.fo i V k hV e)
  apart := h.apart
theorem PoolC.below (h : PoolC w B F g gb FV Vs size os hs ln) (hb : Below w.heap.size w w') : PoolC w' B F g gb FV Vs size os hs ln := h.keep (fun k hk => hb.block k (h.low k hk).2) hb.size
theorem PoolC.drewN (h : PoolC w B F g gb FV Vs size os hs ln) (q : Nat) : PoolC (w.drewN q) B F g gb FV Vs size os hs ln := h.keep (fun _ _ => rfl) (Nat.le_refl _)
theorem PoolC.moved (h : PoolC w B F g gb FV Vs size os hs ln) {F2 : Nat → Prop} (hm : Moved F2 w w') (hd : ∀ k, F k → ¬ F2 k) : PoolC w' B F g gb FV Vs size os hs ln :=
  h.keep (fun k hk => hm.block k (h.low k hk).2 (hd k hk)) hm.size
theorem PoolC.free_ne (h : PoolC w B F g gb FV Vs size os hs ln) : FV.ownBlock ≠ some g ∧ FV.ownBlock ≠ some gb := by
  refine ⟨row_ne_blk h.free h.blk (by decide), fun e => ?_⟩
  exact row_ne_row h.free h.row (by decide) (k := gb) rfl e
theorem PoolC.oct_ne (h : PoolC w B F g gb FV Vs size os hs ln) {i : Nat} {V : Value} (hV : Vs[i]? = some V) : V.ownBlock ≠ some g ∧ V.ownBlock ≠ some gb ∧ ∀ k, FV.ownBlock = some k → V.ownBlock ≠ some k := by
  have hi : i < os.length := by
    have := (List.getElem?_eq_some_iff.1 hV).1
    have := h.lv; have := h.lo; omega
  have ho := h.oct i V _ hV (List.getElem?_eq_getElem hi)
  exact ⟨row_ne_blk ho h.blk (by decide), fun e => row_ne_row ho h.row (by decide) (k := gb) rfl e, fun k hk => row_ne_row ho h.free (by decide) hk⟩
/-- How often a buffer is held is stored. -/
theorem PoolC.setH (h : PoolC w B F g gb FV Vs size os hs ln) (i x : Nat) : PoolC (w.setCell ⟨gb, i * 2 + 1, none⟩ (.int .i64 (x : Int))) B F g gb FV Vs size os (hs.set i x) ln where
  low := fun k hk => by simpa [World.setCell] using h.low k hk
  fg := h.fg
  fb := h.fb
  ff := h.ff
  fo := h.fo
  blk := by rw [List.length_set]; exact (Below.heap_setCell _ _ _ _ (by have := h.ne; simpa using fun e => this e.symm)).trans h.blk
  row := by
    have := (h.row.stored (i * 2 + 1) (.int .i64 (x : Int))).1
    rw [weave_setH Vs hs i x h.lv] at this
    rw [List.length_set]
    exact this
  free := row_keep h.free fun k _ e => Below.heap_setCell _ _ _ _ (fun e' => h.free_ne.2 (by rw [e, e']))
  lv := by rw [List.length_set]; exact h.lv
  lo := by rw [List.length_set]; exact h.lo
  oct := fun j V o hV ho => row_keep (h.oct j V o hV ho) fun k _ e => Below.heap_setCell _ _ _ _ (fun e' => (h.oct_ne hV).2.1 (by rw [e, e']))
  apart := h.apart
/-- A buffer's octets are stored: the new row lies where the old one lay, or in a new block. -/
theorem PoolC.setO (h : PoolC w B F g gb FV Vs size os hs ln) (i : Nat) (V V' : Value) (o : List Int) (hV : Vs[i]? = some V) (hg : w.grownBy w' V.ownBlock) (ho : w'.ownsRow 0 5 1 V' o.length (o.map (.int .u8)))
    (hat : ∀ k, V'.ownBlock = some k → V.ownBlock = some k ∨ w.heap.size ≤ k) :
    PoolC (w'.setCell ⟨gb, i * 2, none⟩ V') B (fun k => F k ∨ (w.heap.size ≤ k ∧ k < w'.heap.size)) g gb FV (Vs.set i V') size (os.set i o) hs ln := by
  have hgb : w'.heap[gb]? = w.heap[gb]? := hg.block gb h.ltb (fun e => (h.oct_ne hV).2.1 e.symm)
  have hrow : w'.ownsRow 0 66 2 (.slice (some ⟨gb, 0, none⟩) hs.length hs.length) hs.length (weave Vs hs) := row_keep h.row fun k _ e => by injection e with e; subst e; exact hgb
  have hV' : V'.ownBlock ≠ some gb := fun e => row_ne_row ho hrow (by decide) (k := gb) rfl e
  have hz := hg.size
  refine ⟨fun k hk => ?_, .inl h.fg, .inl h.fb, fun k hk => .inl (h.ff k hk), fun j U k hU hk => ?_, ?_, ?_, ?_, by rw [List.length_set]; exact h.lv, by rw [List.length_set]; exact h.lo, fun j U p hU hp => ?_, fun j l U U' k hjl hU hU' hk => ?_⟩
  · have : (w'.setCell ⟨gb, i * 2, none⟩ V').heap.size = w'.heap.size := by simp [World.setCell]
    rw [this]
    rcases hk with hk | hk
    · have := h.low k hk; omega
    · have := (h.low g h.fg); omega
  · rw [List.getElem?_set] at hU
    split at hU
    · split at hU
      · injection hU with hU
        subst hU
        rcases hat k hk with h1 | h1
        · exact .inl (h.fo i V k hV h1)
        · exact .inr ⟨h1, (row_lt ho hk).2⟩
      · cases hU
    · exact .inl (h.fo j U k hU hk)
  · exact ((Below.heap_setCell _ _ _ _ (by have := h.ne; simpa using fun e => this e.symm)).trans (hg.block g h.lt (fun e => (h.oct_ne hV).1 e.symm))).trans h.blk
  · have := (hrow.stored (i * 2) V').1
    rw [weave_setO Vs hs i V' h.lv] at this
    exact this
  · refine row_keep (row_keep h.free fun k hk e => hg.block k hk (fun e' => (h.oct_ne hV).2.2 k e e'.symm)) fun k _ e => Below.heap_setCell _ _ _ _ (fun e' => h.free_ne.2 (by rw [e, e']))
  · rw [List.getElem?_set] at hU hp
    by_cases hij : i = j
    · subst hij
      rw [if_pos rfl] at hU hp
      split at hU
      · split at hp
        · injection hU with hU
          injection hp with hp
          subst hU; subst hp
          exact row_keep ho fun k _ e => Below.heap_setCell _ _ _ _ (fun e' => hV' (by rw [e, e']))
        · cases hp
      · cases hU
    · rw [if_neg hij] at hU hp
      refine row_keep (row_keep (h.oct j U p hU hp) fun k hk e => hg.block k hk (fun e' => ?_)) fun k _ e => Below.heap_setCell _ _ _ _ (fun e' => (h.oct_ne hU).2.1 (by rw [e, e']))
      exact h.apart i j V U k hij hV hU e'.symm e
  · have key : ∀ (j : Nat) (U : Value), i ≠ j → Vs[j]? = some U → ∀ k, V'.ownBlock = some k → U.ownBlock ≠ some k := by
      intro j U hij hU k hk e
      rcases hat k hk with h1 | h1
      · exact h.apart i j V U k hij hV hU h1 e
      · have := (h.low k (h.fo j U k hU e)).2
        omega
    rw [List.getElem?_set] at hU hU'
    by_cases hij : i = j
    · subst hij
      rw [if_pos rfl] at hU
      rw [if_neg hjl] at hU'
      split at hU
      · injection hU with hU
        subst hU
        exact key l U' hjl hU' k hk
      · cases hU
    · rw [if_neg hij] at hU
      by_cases hil : i = l
      · subst hil
        rw [if_pos rfl] at hU'
        split at hU'
        · injection hU' with hU'
          subst hU'
          intro e
          exact key j U hij hU k e hk
        · cases hU'
      · rw [if_neg hil] at hU'
        exact h.apart j l U U' k hjl hU hU' hk
/-- The line is stored: the new row lies where the old one lay, or in a new block. -/
theorem PoolC.setF (h : PoolC w B F g gb FV Vs size os hs ln) (FV' : Value) (ln' : List Nat) (hg : w.grownBy w' FV.ownBlock) (ho : w'.ownsRow 0 3 1 FV' ln'.length (iv ln'))
    (hat : ∀ k, FV'.ownBlock = some k → FV.ownBlock = some k ∨ w.heap.size ≤ k) :
    PoolC (w'.setCell ⟨g, 2, none⟩ FV') B (fun k => F k ∨ (w.heap.size ≤ k ∧ k < w'.heap.size)) g gb FV' Vs size os hs ln' := by
  have hgg : w'.heap[g]? = some (.cells #[.int .i64 (size : Int), .slice (some ⟨gb, 0, none⟩) hs.length hs.length, FV] 63 (0, 0)) := (hg.block g h.lt (fun e => h.free_ne.1 e.symm)).trans h.blk
  have hz := hg.size
  refine ⟨fun k hk => ?_, .inl h.fg, .inl h.fb, fun k hk => ?_, fun j U k hU hk => .inl (h.fo j U k hU hk), heap_setCell_same w' g 2 _ _ _ hgg, ?_, ?_, h.lv, h.lo, fun j U p hU hp => ?_, h.apart⟩
  · have : (w'.setCell ⟨g, 2, none⟩ FV').heap.size = w'.heap.size := by simp [World.setCell]
    rw [this]
    rcases hk with hk | hk
    · have := h.low k hk; omega
    · have := (h.low g h.fg); omega
  · rcases hat k hk with h1 | h1
    · exact .inl (h.ff k h1)
    · exact .inr ⟨h1, (row_lt ho hk).2⟩
  · refine row_keep (row_keep h.row fun k hk e => hg.block k hk (fun e' => ?_)) fun k _ e => Below.heap_setCell _ _ _ _ (fun e' => ?_)
    · injection e with e; subst e; exact h.free_ne.2 e'.symm
    · injection e with e; exact h.ne (e.trans e')
  · exact row_keep ho fun k _ e => Below.heap_setCell _ _ _ _ (fun e' => row_ne_blk ho hgg (by decide) (by rw [e, e']))
  · refine row_keep (row_keep (h.oct j U p hU hp) fun k hk e => hg.block k hk (fun e' => ?_)) fun k _ e => Below.heap_setCell _ _ _ _ (fun e' => (h.oct_ne hU).1 (by rw [e, e']))
    exact (h.oct_ne hU).2.2 k e'.symm e
end
end Go.Proofs.Ytgjmgbpphfccaaa
