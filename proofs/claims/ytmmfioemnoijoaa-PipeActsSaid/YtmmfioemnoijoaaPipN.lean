/- A pipe among the blocks that a law has; a row of items by their numbers. -/
import Derived.Test.YtmmfioemnoijoaaPipI
namespace Go.Proofs.Ytmmfioemnoijoaa
open Go Go.RowKit
set_option linter.unusedVariables false
set_option maxRecDepth 20000

/-- The pipe in block g, made since w0; cs: blocks that hold what they hold, and aren't the pipe's. -/
def Pip (w0 w : World) (cs : List (Nat × Obj)) (g room : Nat) (L : List (Int × It)) (sent : Int) (closed : Bool) : Prop :=
  ∃ F, LineP w w0.heap.size F g room L sent closed ∧ Below w0.heap.size w0 w ∧ ∀ c ∈ cs, w.heap[c.1]? = some c.2 ∧ ¬ F c.1
section
variable {w0 w w' : World} {cs : List (Nat × Obj)} {g room : Nat} {L L' : List (Int × It)} {sent sent' : Int} {closed closed' : Bool}
theorem Pip.to (h : Pip w0 w cs g room L sent closed) : Below w0.heap.size w0 w := by obtain ⟨F, _, hb, _⟩ := h; exact hb
theorem Pip.at (h : Pip w0 w cs g room L sent closed) {b : Nat} {o : Obj} (hc : (b, o) ∈ cs) : w.heap[b]? = some o := by obtain ⟨F, _, _, hh⟩ := h; exact (hh _ hc).1
theorem Pip.free (h : Pip w0 w cs g room L sent closed) {ds : List (Nat × Obj)} (hd : ∀ c ∈ ds, c ∈ cs) : Pip w0 w ds g room L sent closed := by
  obtain ⟨F, h1, h2, h3⟩ := h
  exact ⟨F, h1, h2, fun c hc => h3 c (hd c hc)⟩
theorem Pip.below (h : Pip w0 w cs g room L sent closed) (hb : Below w.heap.size w w') : Pip w0 w' cs g room L sent closed := by
  obtain ⟨F, h1, h2, h3⟩ := h
  exact ⟨F, h1.below hb, h2.trans (hb.mono h2.size), fun c hc => ⟨(hb.block c.1 (Array.getElem?_eq_some_iff.1 (h3 c hc).1).1).trans (h3 c hc).1, (h3 c hc).2⟩⟩
theorem Pip.drewN (h : Pip w0 w cs g room L sent closed) (q : Nat) : Pip w0 (w.drewN q) cs g room L sent closed := h.below (below_drewN (Below.refl _ _) q)
theorem Pip.alloc (h : Pip w0 w cs g room L sent closed) (cells : Array Value) (t : TypeId) : Pip w0 (w.alloc (.cells cells t)) ((w.heap.size, .cells cells t (0, 0)) :: cs) g room L sent closed := by
  have hb := h.below ((Below.refl w.heap.size w).alloc (Nat.le_refl _) (.cells cells t))
  obtain ⟨F, h1, h2, h3⟩ := h
  obtain ⟨F', k1, k2, k3⟩ := hb
  refine ⟨F, h1.below ((Below.refl _ _).alloc (Nat.le_refl _) _), k2, fun c hc => ?_⟩
  rcases List.mem_cons.1 hc with rfl | hc
  · exact ⟨heap_alloc_new w _, fun hf => by have := (h1.low hf).2; simp only at this; omega⟩
  · exact ⟨(k3 c hc).1, (h3 c hc).2⟩
theorem Pip.step {F F' : Nat → Prop} (h2 : Below w0.heap.size w0 w) (h3 : ∀ c ∈ cs, w.heap[c.1]? = some c.2 ∧ ¬ F c.1) (h1 : LineP w w0.heap.size F g room L sent closed) (hp : LineP w' w0.heap.size F' g room L' sent' closed') (hs : Step F F' w w') : Pip w0 w' cs g room L' sent' closed' := by
  refine ⟨F', hp, h2.trans (hs.1.below (fun k hk => (h1.low hk).1) h2.size), fun c hc => ?_⟩
  obtain ⟨k1, k2⟩ := h3 c hc
  have hlt := (Array.getElem?_eq_some_iff.1 k1).1
  refine ⟨(hs.1.block c.1 hlt k2).trans k1, fun hf => ?_⟩
  rcases hs.2 c.1 hf with h5 | h5
  · exact k2 h5
  · omega
theorem pSend (h : Pip w0 w cs g room L sent closed) (who : Int) (x : It) (hl : L.length ≤ 9000) (hr : room ≤ 64) (hs0 : 0 ≤ sent) (hs : sent ≤ 100000) :
    Calls Try.prog 9 #[.pointer (some ⟨g, 0, none⟩), .int .i64 who, x.val] w fun e w' => e = .returned (.tuple #[.bool (sendB room L closed who), .int .i64 (sendE room L closed who)]) ∧ Pip w0 w' cs g room (sendL room L closed who x) (sendN room L closed who sent) closed := by
  obtain ⟨F, h1, h2, h3⟩ := h
  refine (sendAny h1 who x hl hr hs0 hs).mono ?_
  rintro e w' ⟨rfl, F', hp, hs'⟩
  exact ⟨rfl, Pip.step h2 h3 h1 hp hs'⟩
theorem pTake (h : Pip w0 w cs g room L sent closed) (hl : L.length ≤ 9000) :
    Calls Try.prog 11 #[.pointer (some ⟨g, 0, none⟩)] w fun e w' => e = .returned (.tuple #[(takeX L).val, .int .i64 (takeE L closed)]) ∧ Pip w0 w' cs g room L.tail sent closed := by
  obtain ⟨F, h1, h2, h3⟩ := h
  refine (takeAny h1 hl).mono ?_
  rintro e w' ⟨rfl, F', hp, hs'⟩
  exact ⟨rfl, Pip.step h2 h3 h1 hp hs'⟩
theorem pWithdraw (h : Pip w0 w cs g room L sent closed) (who : Int) (hl : L.length ≤ 9000) (hs0 : 0 ≤ sent) (hs : sent ≤ 100000) :
    Calls Try.prog 14 #[.pointer (some ⟨g, 0, none⟩), .int .i64 who] w fun e w' => e = .returned (.bool (decide (0 ≤ offI room L who))) ∧ Pip w0 w' cs g room (backL room L who) (backN room L who sent) closed := by
  obtain ⟨F, h1, h2, h3⟩ := h
  refine (withdrawAny h1 who hl hs0 hs).mono ?_
  rintro e w' ⟨rfl, F', hp, hs'⟩
  exact ⟨rfl, Pip.step h2 h3 h1 hp hs'⟩
theorem pClose (h : Pip w0 w cs g room L sent closed) (hl : L.length ≤ 9000) :
    Calls Try.prog 16 #[.pointer (some ⟨g, 0, none⟩)] w fun e w' => e = .returned (.int .i64 (shutE room L closed)) ∧ Pip w0 w' cs g room L sent (closed || decide (shutE room L closed = 0)) := by
  obtain ⟨F, h1, h2, h3⟩ := h
  refine (shutAny h1 hl).mono ?_
  rintro e w' ⟨rfl, hp, hm⟩
  exact ⟨rfl, Pip.step h2 h3 h1 hp ⟨hm, fun k hk => .inl hk⟩⟩
theorem pWaits (h : Pip w0 w cs g room L sent closed) (who : Int) (hl : L.length ≤ 9000) :
    Calls Try.prog 19 #[.pointer (some ⟨g, 0, none⟩), .int .i64 who] w fun e w' => e = .returned (.bool (decide (0 ≤ offI room L who))) ∧ Pip w0 w' cs g room L sent closed := by
  have hh := h
  obtain ⟨F, h1, h2, h3⟩ := h
  refine (waitsAny h1 who hl).mono ?_
  rintro e w' ⟨rfl, hb⟩
  exact ⟨rfl, hh.below hb⟩
theorem pClosed (h : Pip w0 w cs g room L sent closed) :
    Calls Try.prog 21 #[.pointer (some ⟨g, 0, none⟩)] w fun e w' => e = .returned (.bool closed) ∧ w = w' := by
  obtain ⟨F, h1, h2, h3⟩ := h
  exact closedAny h1
theorem pSent (h : Pip w0 w cs g room L sent closed) :
    Calls Try.prog 22 #[.pointer (some ⟨g, 0, none⟩)] w fun e w' => e = .returned (.int .i64 sent) ∧ w = w' := by
  obtain ⟨F, h1, h2, h3⟩ := h
  exact sentAny h1
theorem pReady (h : Pip w0 w cs g room L sent closed) (hl : L.length ≤ 9000) :
    Calls Try.prog 23 #[.pointer (some ⟨g, 0, none⟩)] w fun e w' => e = .returned (.bool (closed || decide (0 < L.length))) ∧ ∃ q, w' = w.drewN q := by
  obtain ⟨F, h1, h2, h3⟩ := h
  exact readyAny h1 hl
theorem pItems (h : Pip w0 w cs g room L sent closed) (hl : L.length ≤ 9000) (hh : ∀ o ∈ L, HitsAt 0 w o.2 ∧ o.2.hm ≤ 100000) :
    Calls Try.prog 18 #[.pointer (some ⟨g, 0, none⟩)] w fun e w' => ∃ (A : Option Addr) (c : Nat) (ys : List It), e = .returned (.slice A L.length c) ∧ RecW w' w.heap.size 36 7 (.slice A L.length c) (ys.map It.cells) ∧ Below w.heap.size w w' ∧
      (∀ (j : Nat) (o : Int × It), L[j]? = some o → ∃ y, ys[j]? = some y ∧ Like y o.2 ∧ HitsAt 0 w' y) ∧ Pip w0 w' cs g room L sent closed := by
  have hP := h
  obtain ⟨F, ⟨IV, OV, h1⟩, h2, h3⟩ := h
  have e1 : (L.take room).map Prod.snd ++ (L.drop room).map Prod.snd = L.map Prod.snd := by rw [← List.map_append, List.take_append_drop]
  refine (items_any h1 ?_ (by rw [List.length_drop]; omega) (by rw [List.length_map, List.length_take]; omega)).mono ?_
  · rw [e1]
    intro x hx
    obtain ⟨o, ho, rfl⟩ := List.mem_map.1 hx
    exact hh o ho
  · rintro e w' ⟨A, c, ys, rfl, hr, hb, hy⟩
    have e2 : ((L.take room).map Prod.snd).length + (L.drop room).length = L.length := by rw [List.length_map, List.length_take, List.length_drop]; omega
    rw [e1] at hy
    rw [e2] at hr ⊢
    exact ⟨A, c, ys, rfl, hr, hb, fun j o ho => hy j o.2 (by simp [ho]), hP.below hb⟩
end
theorem pNew (w0 w : World) (room : Nat) (h : room ≤ 64) (hb : Below w0.heap.size w0 w) :
    Calls Try.prog 8 #[.int .i64 (room : Int)] w fun e w' => ∃ g, e = .returned (.tuple #[.pointer (some ⟨g, 0, none⟩), .int .i64 0]) ∧ Pip w0 w' [] g room [] 0 false := by
  refine (new_yes room h w).mono ?_
  rintro e w' ⟨F, g, rfl, ⟨IV, OV, hp⟩, hb'⟩
  refine ⟨g, rfl, F, ⟨IV, OV, { hp with low := fun k hk => ⟨Nat.le_trans hb.size (hp.low k hk).1, (hp.low k hk).2⟩ }⟩, hb.trans (hb'.mono hb.size), fun c hc => by cases hc⟩

/-- The item that has a number, and nothing else. -/
def numIt (n : Int) : It := ⟨n, 0, 0, 0, ⟨#[]⟩, none, 0, 0, [], 0⟩
theorem num_hits (n : Int) (w : World) : HitsAt 0 w (numIt n) := ⟨ReadR.nil_ _ _ _ _, fun _ => ⟨rfl, rfl⟩⟩
/-- Items by their numbers, from a on, each of the sender of its number. -/
def rowN : Nat → Nat → List (Int × It)
  | _, 0 => []
  | a, n + 1 => ((a : Int), numIt (a : Int)) :: rowN (a + 1) n
theorem rowN_length : ∀ (n a : Nat), (rowN a n).length = n
  | 0, _ => rfl
  | n + 1, a => by rw [rowN, List.length_cons, rowN_length n (a + 1)]
theorem rowN_snoc : ∀ (n a : Nat), rowN a (n + 1) = rowN a n ++ [(((a + n : Nat) : Int), numIt ((a + n : Nat) : Int))]
  | 0, a => rfl
  | n + 1, a => by
    rw [rowN, rowN_snoc n (a + 1), rowN]
    rw [show a + 1 + n = a + (n + 1) by omega]
    rfl
theorem rowN_drop : ∀ (k n a : Nat), (rowN a n).drop k = rowN (a + k) (n - k)
  | 0, n, a => rfl
  | k + 1, 0, a => by rw [show 0 - (k + 1) = 0 by omega]; simp [rowN]
  | k + 1, n + 1, a => by
    rw [rowN, List.drop_succ_cons, rowN_drop k n (a + 1), show a + 1 + k = a + (k + 1) by omega, show n + 1 - (k + 1) = n - k by omega]
theorem rowN_at : ∀ (n a : Nat) (who q : Int), atI (rowN a n) who q = if (a : Int) ≤ who ∧ who < (a : Int) + (n : Int) then q + (who - (a : Int)) else -1
  | 0, a, who, q => by rw [rowN, atI, if_neg (by omega)]
  | n + 1, a, who, q => by
    rw [rowN, atI, rowN_at n (a + 1) who (q + 1)]
    by_cases h1 : (a : Int) = who
    · rw [if_pos h1, if_pos (by omega)]; omega
    · rw [if_neg h1]
      by_cases h2 : (a : Int) ≤ who ∧ who < (a : Int) + ((n + 1 : Nat) : Int)
      · rw [if_pos h2, if_pos (by omega)]; omega
      · rw [if_neg h2, if_neg (by omega)]
theorem rowN_off (room a n : Nat) (who : Int) : 0 ≤ offI room (rowN a n) who ↔ ((a + room : Nat) : Int) ≤ who ∧ who < ((a + n : Nat) : Int) := by
  unfold offI
  rw [rowN_drop, rowN_at]
  by_cases h : ((a + room : Nat) : Int) ≤ who ∧ who < ((a + room : Nat) : Int) + ((n - room : Nat) : Int)
  · rw [if_pos h]
    exact ⟨fun _ => by omega, fun _ => by omega⟩
  · rw [if_neg h]
    exact ⟨fun h1 => by omega, fun h1 => by omega⟩
theorem rowN_hits {a n : Nat} {o : Int × It} (h : o ∈ rowN a n) (w : World) : HitsAt 0 w o.2 ∧ o.2.hm ≤ 100000 := by
  induction n generalizing a with
  | zero => cases h
  | succ n ih =>
    rw [rowN] at h
    rcases List.mem_cons.1 h with rfl | h
    · exact ⟨num_hits _ _, Nat.zero_le _⟩
    · exact ih h
end Go.Proofs.Ytmmfioemnoijoaa
