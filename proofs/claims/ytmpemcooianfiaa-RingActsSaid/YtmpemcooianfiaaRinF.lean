/- A ring as a window of places from the next ticket on; what the program's ring answers, of any representation; the laws' own state. -/
import Derived.Test.YtmpemcooianfiaaItM
namespace Go.Proofs.Ytmpemcooianfiaa
open Go Go.RowKit
set_option linter.unusedVariables false
set_option maxRecDepth 20000

/-- The items that it has, in their order. -/
def hold (W : List (Option It)) : List It := W.filterMap id
/-- What Put answers. -/
def putR (next : Nat) (W : List (Option It)) (n : Int) : Int :=
  if n < (next : Int) then 2 else if (W.length : Int) ≤ n - (next : Int) then 16 else match W[(n - (next : Int)).toNat]? with | some none => 0 | _ => 2
def putW (next : Nat) (W : List (Option It)) (x : It) : List (Option It) := if putR next W x.n = 0 then W.set (x.n - (next : Int)).toNat (some x) else W
def headW : List (Option It) → Option It
  | some x :: _ => some x
  | _ => none
def tailW : List (Option It) → List (Option It)
  | some x :: r => r ++ [none]
  | W => W
def nextN (next : Nat) : List (Option It) → Nat
  | some x :: r => next + 1
  | _ => next
/-- What Next answers. -/
def nextX (W : List (Option It)) : It := (headW W).getD (numIt 0)
/-- Each in its place. -/
def Wok (next : Nat) (W : List (Option It)) : Prop := (∀ i x, W[i]? = some (some x) → x.n = ((next + i : Nat) : Int)) ∧ 1 ≤ W.length ∧ W.length ≤ 64
theorem Wok.put {next : Nat} {W : List (Option It)} (h : Wok next W) (x : It) : Wok next (putW next W x) := by
  unfold putW
  split
  · rename_i h0
    refine ⟨fun i y hy => ?_, by simpa using h.2.1, by simpa using h.2.2⟩
    rw [List.getElem?_set] at hy
    split at hy
    · rename_i he
      split at hy
      · injection hy with hy
        injection hy with hy
        subst hy
        unfold putR at h0
        by_cases h1 : x.n < (next : Int)
        · rw [if_pos h1] at h0; cases h0
        · omega
      · cases hy
    · exact h.1 i y hy
  · exact h
theorem tailW_length (W : List (Option It)) : (tailW W).length = W.length := by
  unfold tailW
  split <;> simp
theorem putW_length (next : Nat) (W : List (Option It)) (x : It) : (putW next W x).length = W.length := by
  unfold putW
  split <;> simp
theorem Wok.next {next : Nat} {W : List (Option It)} (h : Wok next W) : Wok (nextN next W) (tailW W) := by
  refine ⟨?_, by rw [tailW_length]; exact h.2.1, by rw [tailW_length]; exact h.2.2⟩
  rcases W with _ | ⟨_ | x, r⟩
  · exact h.1
  · exact h.1
  · intro i y hy
    change (r ++ [none])[i]? = some (some y) at hy
    have hi : i < r.length := by
      rcases Nat.lt_or_ge i r.length with h1 | h1
      · exact h1
      · rw [List.getElem?_append_right h1] at hy
        rcases Nat.eq_zero_or_pos (i - r.length) with h2 | h2
        · rw [h2] at hy; cases hy
        · rw [List.getElem?_eq_none (by simp; omega)] at hy; cases hy
    rw [List.getElem?_append_left hi] at hy
    have := h.1 (i + 1) y (by simpa using hy)
    rw [this]
    simp only [nextN]
    congr 1
    omega
theorem mem_hold {W : List (Option It)} {x : It} : x ∈ hold W ↔ some x ∈ W := by simp [hold]
theorem hold_put {next : Nat} {W : List (Option It)} {x y : It} (h : y ∈ hold (putW next W x)) : y = x ∨ y ∈ hold W := by
  rw [mem_hold] at h ⊢
  unfold putW at h
  split at h
  · rcases List.mem_or_eq_of_mem_set h with h | h
    · exact .inr h
    · injection h with h; exact .inl h
  · exact .inr h
theorem hold_tail {W : List (Option It)} {y : It} (h : y ∈ hold (tailW W)) : y ∈ hold W := by
  rw [mem_hold] at h ⊢
  rcases W with _ | ⟨_ | x, r⟩
  · exact h
  · exact h
  · simp only [tailW, List.mem_append, List.mem_singleton, reduceCtorEq, or_false] at h
    exact List.mem_cons_of_mem _ h
theorem hold_head {W : List (Option It)} {x : It} (h : headW W = some x) : x ∈ hold W ∧ ∃ r, W = some x :: r := by
  rcases W with _ | ⟨_ | y, r⟩
  · cases h
  · cases h
  · injection h with h
    subst h
    exact ⟨mem_hold.2 (by simp), r, rfl⟩

/-- How a ring lies in memory: in which blocks, at which one. -/
abbrev RP := World → (Nat → Prop) → Nat → Nat → List (Option It) → Prop
/-- What the program's ring is to answer. -/
structure RinF (P : RP) : Prop where
  fr : ∀ {w w' : World} {F : Nat → Prop} {g next : Nat} {W : List (Option It)}, P w F g next W → (∀ k, F k → w'.heap[k]? = w.heap[k]?) → w.heap.size ≤ w'.heap.size → P w' F g next W
  low : ∀ {w : World} {F : Nat → Prop} {g next : Nat} {W : List (Option It)}, P w F g next W → ∀ k, F k → k < w.heap.size
  new : ∀ (n : Nat) (w : World), 1 ≤ n → n ≤ 64 → Calls Try.prog 7 #[.int .i64 (n : Int)] w fun e w' => ∃ g F, e = .returned (.tuple #[.pointer (some ⟨g, 0, none⟩), .int .i64 0]) ∧ P w' F g 0 (List.replicate n none) ∧ Below w.heap.size w w' ∧ ∀ k, F k → w.heap.size ≤ k
  bad : ∀ (n : Int) (w : World), n < 1 ∨ 64 < n → Calls Try.prog 7 #[.int .i64 n] w fun e w' => e = .returned (.tuple #[.pointer none, .int .i64 2]) ∧ Below w.heap.size w w'
  put : ∀ {w : World} {F : Nat → Prop} {g next : Nat} {W : List (Option It)} (x : It), P w F g next W → Wok next W → next ≤ 100000 → -9223372036854775808 ≤ x.n → x.n < 9223372036854775808 →
    Calls Try.prog 8 #[.pointer (some ⟨g, 0, none⟩), x.val] w fun e w' => e = .returned (.int .i64 (putR next W x.n)) ∧ ∃ F', P w' F' g next (putW next W x) ∧ Step F F' w w'
  nxt : ∀ {w : World} {F : Nat → Prop} {g next : Nat} {W : List (Option It)}, P w F g next W → Wok next W → next ≤ 100000 →
    Calls Try.prog 10 #[.pointer (some ⟨g, 0, none⟩)] w fun e w' => e = .returned (.tuple #[(nextX W).val, .bool (headW W).isSome]) ∧ ∃ F', P w' F' g (nextN next W) (tailW W) ∧ Step F F' w w'
  rdy : ∀ {w : World} {F : Nat → Prop} {g next : Nat} {W : List (Option It)}, P w F g next W → Wok next W → next ≤ 100000 →
    Calls Try.prog 17 #[.pointer (some ⟨g, 0, none⟩)] w fun e w' => e = .returned (.bool (headW W).isSome) ∧ ∃ q, w' = w.drewN q
  rom : ∀ {w : World} {F : Nat → Prop} {g next : Nat} {W : List (Option It)} (t : Int), P w F g next W → Wok next W → next ≤ 100000 → -9223372036854775808 ≤ t → t < 9223372036854775808 →
    Calls Try.prog 13 #[.pointer (some ⟨g, 0, none⟩), .int .i64 t] w fun e w' => e = .returned (.bool (decide (putR next W t = 0))) ∧ Below w.heap.size w w'
  tic : ∀ {w : World} {F : Nat → Prop} {g next : Nat} {W : List (Option It)}, P w F g next W → Wok next W → next ≤ 100000 →
    Calls Try.prog 16 #[.pointer (some ⟨g, 0, none⟩)] w fun e w' => e = .returned (.int .i64 (next : Int)) ∧ ∃ q, w' = w.drewN q
  hel : ∀ {w : World} {F : Nat → Prop} {g next : Nat} {W : List (Option It)}, P w F g next W → Wok next W → next ≤ 100000 → (∀ x ∈ hold W, HitsAt 0 w x ∧ x.hm ≤ 100000) →
    Calls Try.prog 15 #[.pointer (some ⟨g, 0, none⟩)] w fun e w' => ∃ (A : Option Addr) (c : Nat) (ys : List It), e = .returned (.slice A (hold W).length c) ∧ RecW w' w.heap.size 36 7 (.slice A (hold W).length c) (ys.map It.cells) ∧ Below w.heap.size w w' ∧
      ∀ (j : Nat) (x : It), (hold W)[j]? = some x → ∃ y, ys[j]? = some y ∧ Like y x ∧ HitsAt 0 w' y

/-- The ring in block g, made since w0; K: blocks that aren't the ring's. -/
def Rin (P : RP) (w0 w : World) (K : Nat → Prop) (g next : Nat) (W : List (Option It)) : Prop :=
  ∃ F, P w F g next W ∧ Below w0.heap.size w0 w ∧ (∀ k, F k → w0.heap.size ≤ k) ∧ Wok next W ∧ ∀ k, K k → ¬ F k ∧ k < w.heap.size
/-- These blocks are as they were. -/
def Keep (K : Nat → Prop) (w w' : World) : Prop := ∀ k, K k → w'.heap[k]? = w.heap[k]?
section
variable {P : RP} {w0 w w' : World} {K : Nat → Prop} {g next : Nat} {W : List (Option It)}
theorem Rin.to (h : Rin P w0 w K g next W) : Below w0.heap.size w0 w := by obtain ⟨F, _, h, _⟩ := h; exact h
theorem Rin.ok (h : Rin P w0 w K g next W) : Wok next W := by obtain ⟨F, _, _, _, h, _⟩ := h; exact h
theorem Rin.lt (h : Rin P w0 w K g next W) : ∀ k, K k → k < w.heap.size := by obtain ⟨F, _, _, _, _, h⟩ := h; exact fun k hk => (h k hk).2
theorem Rin.sub (h : Rin P w0 w K g next W) {K' : Nat → Prop} (hk : ∀ k, K' k → K k) : Rin P w0 w K' g next W := by
  obtain ⟨F, h1, h2, h3, h4, h5⟩ := h
  exact ⟨F, h1, h2, h3, h4, fun k h => h5 k (hk k h)⟩
theorem Keep.refl (K : Nat → Prop) (w : World) : Keep K w w := fun _ _ => rfl
theorem Rin.step {F F' : Nat → Prop} {next' : Nat} {W' : List (Option It)} (hb : Below w0.heap.size w0 w) (hf : ∀ k, F k → w0.heap.size ≤ k) (hk : ∀ k, K k → ¬ F k ∧ k < w.heap.size) (hp : P w' F' g next' W') (hs : Step F F' w w') (hw : Wok next' W') : Rin P w0 w' K g next' W' ∧ Keep K w w' := by
  refine ⟨⟨F', hp, hb.trans (hs.1.below hf hb.size), fun k h => ?_, hw, fun k h => ?_⟩, fun k h => hs.1.block k (hk k h).2 (hk k h).1⟩
  · rcases hs.2 k h with h1 | h1
    · exact hf k h1
    · exact Nat.le_trans hb.size h1
  · refine ⟨fun e => ?_, Nat.lt_of_lt_of_le (hk k h).2 hs.1.size⟩
    rcases hs.2 k e with h1 | h1
    · exact (hk k h).1 h1
    · exact absurd (hk k h).2 (by omega)
variable (T : RinF P)
include T
theorem Rin.below (h : Rin P w0 w K g next W) (hb : Below w.heap.size w w') : Rin P w0 w' K g next W ∧ Keep K w w' := by
  obtain ⟨F, h1, h2, h3, h4, h5⟩ := h
  exact ⟨⟨F, T.fr h1 (fun k hk => hb.block k (T.low h1 k hk)) hb.size, h2.trans (hb.mono h2.size), h3, h4, fun k hk => ⟨(h5 k hk).1, Nat.lt_of_lt_of_le (h5 k hk).2 hb.size⟩⟩, fun k hk => hb.block k (h5 k hk).2⟩
/-- A block that was just made is not the ring's. -/
theorem Rin.made (h : Rin P w0 w K g next W) (o : Obj) : Rin P w0 (w.alloc o) (fun k => K k ∨ k = w.heap.size) g next W := by
  have hb := (Below.refl w.heap.size w).alloc (Nat.le_refl _) o
  obtain ⟨F, h1, h2, h3, h4, h5⟩ := h
  refine ⟨F, T.fr h1 (fun k hk => hb.block k (T.low h1 k hk)) hb.size, h2.trans (hb.mono h2.size), h3, h4, fun k hk => ?_⟩
  rcases hk with hk | rfl
  · exact ⟨(h5 k hk).1, Nat.lt_of_lt_of_le (h5 k hk).2 hb.size⟩
  · exact ⟨fun e => by have := T.low h1 _ e; omega, by simp⟩
/-- A store into a block that isn't the ring's. -/
theorem Rin.store (h : Rin P w0 w K g next W) {b : Nat} (hb : K b) (hlo : w0.heap.size ≤ b) (i : Nat) (v : Value) : Rin P w0 (w.setCell ⟨b, i, none⟩ v) K g next W := by
  obtain ⟨F, h1, h2, h3, h4, h5⟩ := h
  refine ⟨F, T.fr h1 (fun k hk => Below.heap_setCell _ _ _ _ (fun e => ?_)) (Nat.le_of_eq (by simp [World.setCell])), h2.setCell (p := ⟨b, i, none⟩) hlo v, h3, h4, fun k hk => ⟨(h5 k hk).1, by simpa [World.setCell] using (h5 k hk).2⟩⟩
  have e' : k = b := e
  subst e'
  exact (h5 k hb).1 hk
/-- A block that isn't the ring's is written. -/
theorem Rin.grown (h : Rin P w0 w K g next W) {b : Nat} (hb : K b) (hlo : w0.heap.size ≤ b) (hg : w.grownBy w' (some b)) : Rin P w0 w' K g next W ∧ Keep (fun k => K k ∧ k ≠ b) w w' := by
  obtain ⟨F, h1, h2, h3, h4, h5⟩ := h
  refine ⟨⟨F, T.fr h1 (fun k hk => hg.block k (T.low h1 k hk) (fun e => ?_)) hg.size, h2.grown hg h2.size (fun k hk => ?_), h3, h4, fun k hk => ⟨(h5 k hk).1, Nat.lt_of_lt_of_le (h5 k hk).2 hg.size⟩⟩, fun k hk => hg.block k (h5 k hk.1).2 (fun e => ?_)⟩
  · injection e with e
    subst e
    exact (h5 _ hb).1 hk
  · injection hk with hk
    subst hk
    exact hlo
  · injection e with e
    exact hk.2 e
theorem rNew (n : Nat) (hb : Below w0.heap.size w0 w) (h1 : 1 ≤ n) (h2 : n ≤ 64) : Calls Try.prog 7 #[.int .i64 (n : Int)] w fun e w' => ∃ g, e = .returned (.tuple #[.pointer (some ⟨g, 0, none⟩), .int .i64 0]) ∧ Rin P w0 w' (fun k => k < w.heap.size) g 0 (List.replicate n none) ∧ Keep (fun k => k < w.heap.size) w w' :=
  (T.new n w h1 h2).mono fun e w' hh => by
    obtain ⟨g, F, he, hp, hb', hf⟩ := hh
    refine ⟨g, he, ⟨F, hp, hb.trans (hb'.mono hb.size), fun k hk => Nat.le_trans hb.size (hf k hk), ⟨fun i x hx => ?_, by simpa using h1, by simpa using h2⟩, fun k hk => ⟨fun e => by have := hf k e; omega, Nat.lt_of_lt_of_le hk hb'.size⟩⟩, fun k hk => hb'.block k hk⟩
    rw [List.getElem?_replicate] at hx
    split at hx <;> cases hx
theorem rPut (h : Rin P w0 w K g next W) (x : It) (hn : next ≤ 100000) (h0 : -9223372036854775808 ≤ x.n) (h1 : x.n < 9223372036854775808) : Calls Try.prog 8 #[.pointer (some ⟨g, 0, none⟩), x.val] w fun e w' => e = .returned (.int .i64 (putR next W x.n)) ∧ Rin P w0 w' K g next (putW next W x) ∧ Keep K w w' := by
  obtain ⟨F, k1, k2, k3, k4, k5⟩ := h
  refine (T.put x k1 k4 hn h0 h1).mono fun e w' hh => ?_
  obtain ⟨he, F', hp, hs⟩ := hh
  exact ⟨he, Rin.step k2 k3 k5 hp hs (k4.put x)⟩
theorem rNxt (h : Rin P w0 w K g next W) (hn : next ≤ 100000) : Calls Try.prog 10 #[.pointer (some ⟨g, 0, none⟩)] w fun e w' => e = .returned (.tuple #[(nextX W).val, .bool (headW W).isSome]) ∧ Rin P w0 w' K g (nextN next W) (tailW W) ∧ Keep K w w' := by
  obtain ⟨F, k1, k2, k3, k4, k5⟩ := h
  refine (T.nxt k1 k4 hn).mono fun e w' hh => ?_
  obtain ⟨he, F', hp, hs⟩ := hh
  exact ⟨he, Rin.step k2 k3 k5 hp hs k4.next⟩
theorem rRdy (h : Rin P w0 w K g next W) (hn : next ≤ 100000) : Calls Try.prog 17 #[.pointer (some ⟨g, 0, none⟩)] w fun e w' => e = .returned (.bool (headW W).isSome) ∧ Rin P w0 w' K g next W ∧ Keep K w w' := by
  obtain ⟨F, k1, k2, k3, k4, k5⟩ := id h
  exact (T.rdy k1 k4 hn).mono fun e w' hh => ⟨hh.1, by obtain ⟨q, rfl⟩ := hh.2; exact h.below T (below_drewN (Below.refl _ _) q)⟩
theorem rRom (h : Rin P w0 w K g next W) (t : Int) (hn : next ≤ 100000) (h0 : -9223372036854775808 ≤ t) (h1 : t < 9223372036854775808) : Calls Try.prog 13 #[.pointer (some ⟨g, 0, none⟩), .int .i64 t] w fun e w' => e = .returned (.bool (decide (putR next W t = 0))) ∧ Rin P w0 w' K g next W ∧ Keep K w w' := by
  obtain ⟨F, k1, k2, k3, k4, k5⟩ := id h
  exact (T.rom t k1 k4 hn h0 h1).mono fun e w' hh => ⟨hh.1, h.below T hh.2⟩
theorem rTic (h : Rin P w0 w K g next W) (hn : next ≤ 100000) : Calls Try.prog 16 #[.pointer (some ⟨g, 0, none⟩)] w fun e w' => e = .returned (.int .i64 (next : Int)) ∧ Rin P w0 w' K g next W ∧ Keep K w w' := by
  obtain ⟨F, k1, k2, k3, k4, k5⟩ := id h
  exact (T.tic k1 k4 hn).mono fun e w' hh => ⟨hh.1, by obtain ⟨q, rfl⟩ := hh.2; exact h.below T (below_drewN (Below.refl _ _) q)⟩
/-- How many are held. -/
theorem rHel (h : Rin P w0 w K g next W) (hn : next ≤ 100000) (hh : ∀ x ∈ hold W, HitsAt 0 w x ∧ x.hm ≤ 100000) : Calls Try.prog 15 #[.pointer (some ⟨g, 0, none⟩)] w fun e w' => ∃ A c, e = .returned (.slice A (hold W).length c) ∧ Rin P w0 w' K g next W ∧ Keep K w w' := by
  obtain ⟨F, k1, k2, k3, k4, k5⟩ := id h
  refine (T.hel k1 k4 hn hh).mono fun e w' h2 => ?_
  obtain ⟨A, c, ys, he, _, hb, _⟩ := h2
  exact ⟨A, c, he, h.below T hb⟩
end
end Go.Proofs.Ytmpemcooianfiaa
