/- Both rings side by side: the program's and the document's, other blocks beside them. -/
import Derived.Test.YtmpemcooianfiaaLawFull17
import Derived.Test.YtmpemcooianfiaaDrgW
import Derived.Test.YtmpemcooianfiaaItSameR
namespace Go.Proofs.Ytmpemcooianfiaa
open Go Go.RowKit
set_option linter.unusedVariables false
set_option maxRecDepth 20000
/-- Both rings behind a world, and other blocks. -/
def Both17 (P : RP) (w0 w : World) (cs : List (Nat × Obj)) (g r np : Nat) (Wp : List (Option It)) (nd : Nat) (Wd : List (Option It)) : Prop :=
  ∃ F D, P w F g np Wp ∧ DrgV w w0.heap.size D r nd Wd ∧ Below w0.heap.size w0 w ∧ (∀ k, F k → w0.heap.size ≤ k) ∧ Wok np Wp ∧ Wok nd Wd ∧ (∀ k, D k → ¬ F k) ∧ ∀ c ∈ cs, w.heap[c.1]? = some c.2 ∧ ¬ F c.1 ∧ ¬ D c.1
theorem heap_lt17 {w : World} {k : Nat} {o : Obj} (h : w.heap[k]? = some o) : k < w.heap.size := (Array.getElem?_eq_some_iff.1 h).1
section
variable {P : RP} {w0 w w' : World} {cs : List (Nat × Obj)} {g r np nd : Nat} {Wp Wd : List (Option It)}
theorem Both17.to (h : Both17 P w0 w cs g r np Wp nd Wd) : Below w0.heap.size w0 w := by obtain ⟨_, _, _, _, h, _⟩ := h; exact h
theorem Both17.okP (h : Both17 P w0 w cs g r np Wp nd Wd) : Wok np Wp := by obtain ⟨_, _, _, _, _, _, h, _⟩ := h; exact h
theorem Both17.okD (h : Both17 P w0 w cs g r np Wp nd Wd) : Wok nd Wd := by obtain ⟨_, _, _, _, _, _, _, h, _⟩ := h; exact h
theorem Both17.at (h : Both17 P w0 w cs g r np Wp nd Wd) {p : Nat × Obj} (hp : p ∈ cs) : w.heap[p.1]? = some p.2 := by
  obtain ⟨_, _, _, _, _, _, _, _, _, h⟩ := h
  exact (h p hp).1
theorem Both17.free (h : Both17 P w0 w cs g r np Wp nd Wd) {ds : List (Nat × Obj)} (hd : ∀ c ∈ ds, c ∈ cs) : Both17 P w0 w ds g r np Wp nd Wd := by
  obtain ⟨F, D, h1, h2, h3, h4, h5, h6, h7, h8⟩ := h
  exact ⟨F, D, h1, h2, h3, h4, h5, h6, h7, fun c hc => h8 c (hd c hc)⟩
/-- The document's cells. -/
theorem Both17.doc (h : Both17 P w0 w cs g r np Wp nd Wd) : ∃ A c, w.cell? ⟨r, 0, none⟩ = some (.slice A (hold Wd).length c) ∧ w.cell? ⟨r, 2, none⟩ = some (.int .i64 (nd : Int)) ∧ ReadR 0 w A (hold Wd).length 7 ((hold Wd).map It.cells) := by
  obtain ⟨F, D, _, ⟨A, c, h⟩, _⟩ := h
  exact ⟨A, c, h.c0, h.c2, h.rd⟩
variable (T : RinF P)
include T
theorem Both17.below (h : Both17 P w0 w cs g r np Wp nd Wd) (hb : Below w.heap.size w w') : Both17 P w0 w' cs g r np Wp nd Wd := by
  obtain ⟨F, D, h1, h2, h3, h4, h5, h6, h7, h8⟩ := h
  exact ⟨F, D, T.fr h1 (fun k hk => hb.block k (T.low h1 k hk)) hb.size, h2.keep (fun k hk => hb.block k (h2.low k hk).2) hb.size, h3.trans (hb.mono h3.size), h4, h5, h6, h7, fun p hp => ⟨(hb.block p.1 (heap_lt17 (h8 p hp).1)).trans (h8 p hp).1, (h8 p hp).2⟩⟩
/-- A block is made. -/
theorem Both17.alloc (h : Both17 P w0 w cs g r np Wp nd Wd) (o : Obj) : Both17 P w0 (w.alloc o) ((w.heap.size, o) :: cs) g r np Wp nd Wd := by
  have hb := (Below.refl w.heap.size w).alloc (Nat.le_refl _) o
  obtain ⟨F, D, h1, h2, h3, h4, h5, h6, h7, h8⟩ := h
  refine ⟨F, D, T.fr h1 (fun k hk => hb.block k (T.low h1 k hk)) hb.size, h2.keep (fun k hk => hb.block k (h2.low k hk).2) hb.size, h3.trans (hb.mono h3.size), h4, h5, h6, h7, fun p hp => ?_⟩
  rcases List.mem_cons.1 hp with rfl | hp
  · exact ⟨heap_alloc_new w o, fun e => by have := T.low h1 _ e; omega, fun e => by have := (h2.low _ e).2; omega⟩
  · exact ⟨(hb.block p.1 (heap_lt17 (h8 p hp).1)).trans (h8 p hp).1, (h8 p hp).2⟩
/-- The document's ring is made beside the program's. -/
theorem both_made {K : Nat → Prop} (h : Rin P w0 w K g np Wp) : Both17 P w0 (w.alloc (.cells #[.slice none 0 0, .int .i64 (Wp.length : Int), .int .i64 0] 31)) [] g w.heap.size np Wp 0 (List.replicate Wp.length none) := by
  have hb := (Below.refl w.heap.size w).alloc (Nat.le_refl _) (.cells #[.slice none 0 0, .int .i64 (Wp.length : Int), .int .i64 0] 31)
  obtain ⟨F, h1, h2, h3, h4, _⟩ := h
  have hd := drg_made w Wp.length h2.size
  have e : hold (List.replicate Wp.length (none : Option It)) = [] := by
    unfold hold
    rw [List.filterMap_eq_nil_iff]
    intro a ha
    rw [List.eq_of_mem_replicate ha]
    rfl
  refine ⟨F, _, T.fr h1 (fun k hk => hb.block k (T.low h1 k hk)) hb.size, ⟨none, 0, by rw [e, List.length_replicate]; exact hd⟩, h2.trans (hb.mono h2.size), h3, h4, ⟨fun i x hx => ?_, by rw [List.length_replicate]; exact h4.2⟩, fun k hk hf => ?_, fun p hp => nomatch hp⟩
  · rw [List.getElem?_replicate] at hx
    split at hx <;> cases hx
  · have := T.low h1 k hf
    omega
omit T in
theorem Both17.stepP {F F' D : Nat → Prop} {np' : Nat} {Wp' : List (Option It)} (h2 : DrgV w w0.heap.size D r nd Wd) (h3 : Below w0.heap.size w0 w) (h4 : ∀ k, F k → w0.heap.size ≤ k) (h6 : Wok nd Wd) (h7 : ∀ k, D k → ¬ F k) (h8 : ∀ c ∈ cs, w.heap[c.1]? = some c.2 ∧ ¬ F c.1 ∧ ¬ D c.1)
    (hp : P w' F' g np' Wp') (hs : Step F F' w w') (h5 : Wok np' Wp') : Both17 P w0 w' cs g r np' Wp' nd Wd := by
  refine ⟨F', D, hp, h2.keep (fun k hk => hs.1.block k (h2.low k hk).2 (h7 k hk)) hs.1.size, h3.trans (hs.1.below h4 h3.size), fun k h => ?_, h5, h6, fun k hk hf => ?_, fun p hp => ?_⟩
  · rcases hs.2 k h with e | e
    · exact h4 k e
    · exact Nat.le_trans h3.size e
  · rcases hs.2 k hf with e | e
    · exact h7 k hk e
    · have := (h2.low k hk).2; omega
  · have hlt := heap_lt17 (h8 p hp).1
    refine ⟨(hs.1.block p.1 hlt (h8 p hp).2.1).trans (h8 p hp).1, fun hf => ?_, (h8 p hp).2.2⟩
    rcases hs.2 _ hf with e | e
    · exact (h8 p hp).2.1 e
    · omega
theorem Both17.stepD {F D D' : Nat → Prop} {nd' : Nat} {Wd' : List (Option It)} (h1 : P w F g np Wp) (h2 : DrgV w w0.heap.size D r nd Wd) (h3 : Below w0.heap.size w0 w) (h4 : ∀ k, F k → w0.heap.size ≤ k) (h5 : Wok np Wp) (h7 : ∀ k, D k → ¬ F k) (h8 : ∀ c ∈ cs, w.heap[c.1]? = some c.2 ∧ ¬ F c.1 ∧ ¬ D c.1)
    (hp : DrgV w' w0.heap.size D' r nd' Wd') (hs : Step D D' w w') (h6 : Wok nd' Wd') : Both17 P w0 w' cs g r np Wp nd' Wd' := by
  have hlow := T.low h1
  refine ⟨F, D', T.fr h1 (fun k hk => hs.1.block k (hlow k hk) (fun e => h7 k e hk)) hs.1.size, hp, h3.trans (hs.1.below (fun k hk => (h2.low k hk).1) h3.size), h4, h5, h6, fun k hk hf => ?_, fun p hp => ?_⟩
  · rcases hs.2 k hk with e | e
    · exact h7 k e hf
    · have := hlow k hf; omega
  · have hlt := heap_lt17 (h8 p hp).1
    refine ⟨(hs.1.block p.1 hlt (h8 p hp).2.2).trans (h8 p hp).1, (h8 p hp).2.1, fun hf => ?_⟩
    rcases hs.2 _ hf with e | e
    · exact (h8 p hp).2.2 e
    · omega
theorem bPutP (h : Both17 P w0 w cs g r np Wp nd Wd) (x : It) (hn : np ≤ 100000) (h0 : -9223372036854775808 ≤ x.n) (h1 : x.n < 9223372036854775808) : Calls Try.prog 8 #[.pointer (some ⟨g, 0, none⟩), x.val] w fun e w' => e = .returned (.int .i64 (putR np Wp x.n)) ∧ Both17 P w0 w' cs g r np (putW np Wp x) nd Wd := by
  obtain ⟨F, D, k1, k2, k3, k4, k5, k6, k7, k8⟩ := h
  refine (T.put x k1 k5 hn h0 h1).mono fun e w' hh => ?_
  obtain ⟨he, F', hp, hs⟩ := hh
  exact ⟨he, Both17.stepP k2 k3 k4 k6 k7 k8 hp hs (k5.put x)⟩
theorem bPutD (h : Both17 P w0 w cs g r np Wp nd Wd) (x : It) (h1 : x.n < 9223372036854775808) : Calls Try.prog 9 #[.pointer (some ⟨r, 0, none⟩), x.val] w fun e w' => e = .returned (.int .i64 (putR nd Wd x.n)) ∧ Both17 P w0 w' cs g r np Wp nd (putW nd Wd x) := by
  obtain ⟨F, D, k1, k2, k3, k4, k5, k6, k7, k8⟩ := h
  refine (dPutV k2 k6 x h1).mono fun e w' hh => ?_
  obtain ⟨he, D', hp, hs⟩ := hh
  exact ⟨he, Both17.stepD T k1 k2 k3 k4 k5 k7 k8 hp hs (k6.put x)⟩
theorem bNxtP (h : Both17 P w0 w cs g r np Wp nd Wd) (hn : np ≤ 100000) : Calls Try.prog 10 #[.pointer (some ⟨g, 0, none⟩)] w fun e w' => e = .returned (.tuple #[(nextX Wp).val, .bool (headW Wp).isSome]) ∧ Both17 P w0 w' cs g r (nextN np Wp) (tailW Wp) nd Wd := by
  obtain ⟨F, D, k1, k2, k3, k4, k5, k6, k7, k8⟩ := h
  refine (T.nxt k1 k5 hn).mono fun e w' hh => ?_
  obtain ⟨he, F', hp, hs⟩ := hh
  exact ⟨he, Both17.stepP k2 k3 k4 k6 k7 k8 hp hs k5.next⟩
theorem bGivD (h : Both17 P w0 w cs g r np Wp nd Wd) (hn : nd ≤ 100000) : Calls Try.prog 11 #[.pointer (some ⟨r, 0, none⟩)] w fun e w' => e = .returned (.tuple #[(nextX Wd).val, .bool (headW Wd).isSome]) ∧ Both17 P w0 w' cs g r np Wp (nextN nd Wd) (tailW Wd) := by
  obtain ⟨F, D, k1, k2, k3, k4, k5, k6, k7, k8⟩ := h
  refine (dGiveV k2 k6 hn).mono fun e w' hh => ?_
  obtain ⟨he, D', hp, hs⟩ := hh
  exact ⟨he, Both17.stepD T k1 k2 k3 k4 k5 k7 k8 hp hs k6.next⟩
theorem bRomP (h : Both17 P w0 w cs g r np Wp nd Wd) (t : Int) (hn : np ≤ 100000) (h0 : -9223372036854775808 ≤ t) (h1 : t < 9223372036854775808) : Calls Try.prog 13 #[.pointer (some ⟨g, 0, none⟩), .int .i64 t] w fun e w' => e = .returned (.bool (decide (putR np Wp t = 0))) ∧ Below w.heap.size w w' := by
  obtain ⟨F, D, k1, k2, k3, k4, k5, k6, k7, k8⟩ := h
  exact T.rom t k1 k5 hn h0 h1
omit T in
theorem bRomD (h : Both17 P w0 w cs g r np Wp nd Wd) (t : Int) (hn : nd ≤ 100000) (h0 : -9223372036854775808 ≤ t) (h1 : t < 9223372036854775808) : Calls Try.prog 14 #[.pointer (some ⟨r, 0, none⟩), .int .i64 t] w fun e w' => e = .returned (.bool (decide (putR nd Wd t = 0))) ∧ Below w.heap.size w w' := by
  obtain ⟨F, D, k1, k2, k3, k4, k5, k6, k7, k8⟩ := h
  exact dRoomV k2 k6 hn t h0 h1
theorem bRdyP (h : Both17 P w0 w cs g r np Wp nd Wd) (hn : np ≤ 100000) (q : Nat) : Calls Try.prog 17 #[.pointer (some ⟨g, 0, none⟩)] (w.drewN q) fun e w' => e = .returned (.bool (headW Wp).isSome) ∧ ∃ m, w' = w.drewN m := by
  obtain ⟨F, D, k1, k2, k3, k4, k5, _⟩ := h.below T (below_drewN (Below.refl w.heap.size w) q)
  refine (T.rdy k1 k5 hn).mono fun e w' hh => ?_
  obtain ⟨he, m, rfl⟩ := hh
  exact ⟨he, q + m, World.drewN_drewN _ _ _⟩
theorem bTicP (h : Both17 P w0 w cs g r np Wp nd Wd) (hn : np ≤ 100000) (q : Nat) : Calls Try.prog 16 #[.pointer (some ⟨g, 0, none⟩)] (w.drewN q) fun e w' => e = .returned (.int .i64 (np : Int)) ∧ ∃ m, w' = w.drewN m := by
  obtain ⟨F, D, k1, k2, k3, k4, k5, _⟩ := h.below T (below_drewN (Below.refl w.heap.size w) q)
  refine (T.tic k1 k5 hn).mono fun e w' hh => ?_
  obtain ⟨he, m, rfl⟩ := hh
  exact ⟨he, q + m, World.drewN_drewN _ _ _⟩
theorem bHelP (h : Both17 P w0 w cs g r np Wp nd Wd) (hn : np ≤ 100000) (hh : ∀ x ∈ hold Wp, HitsAt 0 w x ∧ x.hm ≤ 100000) :
    Calls Try.prog 15 #[.pointer (some ⟨g, 0, none⟩)] w fun e w' => ∃ (A : Option Addr) (c : Nat) (ys : List It), e = .returned (.slice A (hold Wp).length c) ∧ RecW w' w.heap.size 36 7 (.slice A (hold Wp).length c) (ys.map It.cells) ∧ Below w.heap.size w w' ∧
      ∀ (j : Nat) (x : It), (hold Wp)[j]? = some x → ∃ y, ys[j]? = some y ∧ Like y x ∧ HitsAt 0 w' y := by
  obtain ⟨F, D, k1, k2, k3, k4, k5, _⟩ := h
  exact T.hel k1 k5 hn hh
end
end Go.Proofs.Ytmpemcooianfiaa
