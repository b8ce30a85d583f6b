/- The program's pipe and the document's, side by side; acts. -/
import Derived.Test.YtmmfioemnoijoaaDocU
import Derived.Test.YtmmfioemnoijoaaItSame
import Derived.Test.YtmmfioemnoijoaaPipA
namespace Go.Proofs.Ytmmfioemnoijoaa
open Go Go.RowKit
set_option linter.unusedVariables false
set_option maxRecDepth 20000

/-- The program's pipe in block g, the document's in block r, made since w0; cs: blocks that hold what they hold, and are neither's. -/
def Both14 (w0 w : World) (cs : List (Nat × Obj)) (g r k : Nat) (Lp : List (Int × It)) (sp : Int) (cp : Bool) (Ld : List (Int × It)) (sd : Int) (cd : Bool) : Prop :=
  ∃ F D, LineP w w0.heap.size F g k Lp sp cp ∧ DocS w w0.heap.size D r k Ld cd sd ∧ (∀ b, F b → ¬ D b) ∧ Below w0.heap.size w0 w ∧ ∀ c ∈ cs, w.heap[c.1]? = some c.2 ∧ ¬ F c.1 ∧ ¬ D c.1
section
variable {w0 w w' : World} {cs : List (Nat × Obj)} {g r k : Nat} {Lp Lp' Ld Ld' : List (Int × It)} {sp sp' sd sd' : Int} {cp cp' cd cd' : Bool}
theorem DocS.low {B : Nat} {D : Nat → Prop} {L : List (Int × It)} {s : Int} {c : Bool} (h : DocS w B D r k L c s) {b : Nat} (hb : D b) : B ≤ b ∧ b < w.heap.size := by obtain ⟨A, c, h⟩ := h; exact h.low b hb
theorem Both14.to (h : Both14 w0 w cs g r k Lp sp cp Ld sd cd) : Below w0.heap.size w0 w := by obtain ⟨F, D, _, _, _, hb, _⟩ := h; exact hb
theorem Both14.at (h : Both14 w0 w cs g r k Lp sp cp Ld sd cd) {b : Nat} {o : Obj} (hc : (b, o) ∈ cs) : w.heap[b]? = some o := by obtain ⟨F, D, _, _, _, _, hh⟩ := h; exact (hh _ hc).1
theorem Both14.free (h : Both14 w0 w cs g r k Lp sp cp Ld sd cd) {ds : List (Nat × Obj)} (hd : ∀ c ∈ ds, c ∈ cs) : Both14 w0 w ds g r k Lp sp cp Ld sd cd := by
  obtain ⟨F, D, h1, h2, h3, h4, h5⟩ := h
  exact ⟨F, D, h1, h2, h3, h4, fun c hc => h5 c (hd c hc)⟩
theorem Both14.below (h : Both14 w0 w cs g r k Lp sp cp Ld sd cd) (hb : Below w.heap.size w w') : Both14 w0 w' cs g r k Lp sp cp Ld sd cd := by
  obtain ⟨F, D, h1, h2, h3, h4, h5⟩ := h
  exact ⟨F, D, h1.below hb, h2.below hb, h3, h4.trans (hb.mono h4.size), fun c hc => ⟨(hb.block c.1 (Array.getElem?_eq_some_iff.1 (h5 c hc).1).1).trans (h5 c hc).1, (h5 c hc).2⟩⟩
theorem Both14.alloc (h : Both14 w0 w cs g r k Lp sp cp Ld sd cd) (cells : Array Value) (t : TypeId) : Both14 w0 (w.alloc (.cells cells t)) ((w.heap.size, .cells cells t (0, 0)) :: cs) g r k Lp sp cp Ld sd cd := by
  obtain ⟨F, D, h1, h2, h3, h4, h5⟩ := h
  have hb : Below w.heap.size w (w.alloc (.cells cells t)) := (Below.refl _ _).alloc (Nat.le_refl _) _
  refine ⟨F, D, h1.below hb, h2.below hb, h3, h4.trans (hb.mono h4.size), fun c hc => ?_⟩
  rcases List.mem_cons.1 hc with rfl | hc
  · exact ⟨heap_alloc_new w _, fun hf => by have := (h1.low hf).2; simp only at this; omega, fun hf => by have := (h2.low hf).2; simp only at this; omega⟩
  · exact ⟨(hb.block c.1 (Array.getElem?_eq_some_iff.1 (h5 c hc).1).1).trans (h5 c hc).1, (h5 c hc).2⟩
theorem Both14.stepP {F F' D : Nat → Prop} (h1 : LineP w w0.heap.size F g k Lp sp cp) (h2 : DocS w w0.heap.size D r k Ld cd sd) (h3 : ∀ b, F b → ¬ D b) (h4 : Below w0.heap.size w0 w) (h5 : ∀ c ∈ cs, w.heap[c.1]? = some c.2 ∧ ¬ F c.1 ∧ ¬ D c.1)
    (hp : LineP w' w0.heap.size F' g k Lp' sp' cp') (hs : Step F F' w w') : Both14 w0 w' cs g r k Lp' sp' cp' Ld sd cd := by
  refine ⟨F', D, hp, ?_, fun b hb hd => ?_, h4.trans (hs.1.below (fun k hk => (h1.low hk).1) h4.size), fun c hc => ?_⟩
  · obtain ⟨A, c, hd⟩ := h2
    exact ⟨A, c, hd.moved hs.1 fun b hb hf => h3 b hf hb⟩
  · rcases hs.2 b hb with h | h
    · exact h3 b h hd
    · have := (h2.low hd).2; omega
  · obtain ⟨k1, k2, k3⟩ := h5 c hc
    have hlt := (Array.getElem?_eq_some_iff.1 k1).1
    refine ⟨(hs.1.block c.1 hlt k2).trans k1, fun hf => ?_, k3⟩
    rcases hs.2 c.1 hf with h6 | h6
    · exact k2 h6
    · omega
theorem Both14.stepD {F D D' : Nat → Prop} (h1 : LineP w w0.heap.size F g k Lp sp cp) (h2 : DocS w w0.heap.size D r k Ld cd sd) (h3 : ∀ b, F b → ¬ D b) (h4 : Below w0.heap.size w0 w) (h5 : ∀ c ∈ cs, w.heap[c.1]? = some c.2 ∧ ¬ F c.1 ∧ ¬ D c.1)
    (hp : DocS w' w0.heap.size D' r k Ld' cd' sd') (hs : Step D D' w w') : Both14 w0 w' cs g r k Lp sp cp Ld' sd' cd' := by
  refine ⟨F, D', h1.moved hs.1 h3, hp, fun b hb hd => ?_, h4.trans (hs.1.below (fun k hk => (h2.low hk).1) h4.size), fun c hc => ?_⟩
  · rcases hs.2 b hd with h | h
    · exact h3 b hb h
    · have := (h1.low hb).2; omega
  · obtain ⟨k1, k2, k3⟩ := h5 c hc
    have hlt := (Array.getElem?_eq_some_iff.1 k1).1
    refine ⟨(hs.1.block c.1 hlt k3).trans k1, k2, fun hf => ?_⟩
    rcases hs.2 c.1 hf with h6 | h6
    · exact k3 h6
    · omega
theorem bSendP (h : Both14 w0 w cs g r k Lp sp cp Ld sd cd) (who : Int) (x : It) (hl : Lp.length ≤ 9000) (hr : k ≤ 64) (hs0 : 0 ≤ sp) (hs : sp ≤ 100000) :
    Calls Try.prog 9 #[.pointer (some ⟨g, 0, none⟩), .int .i64 who, x.val] w fun e w' => e = .returned (.tuple #[.bool (sendB k Lp cp who), .int .i64 (sendE k Lp cp who)]) ∧ Both14 w0 w' cs g r k (sendL k Lp cp who x) (sendN k Lp cp who sp) cp Ld sd cd := by
  obtain ⟨F, D, h1, h2, h3, h4, h5⟩ := h
  refine (sendAny h1 who x hl hr hs0 hs).mono ?_
  rintro e w' ⟨rfl, F', hp, hs'⟩
  exact ⟨rfl, Both14.stepP h1 h2 h3 h4 h5 hp hs'⟩
theorem bTakeP (h : Both14 w0 w cs g r k Lp sp cp Ld sd cd) (hl : Lp.length ≤ 9000) :
    Calls Try.prog 11 #[.pointer (some ⟨g, 0, none⟩)] w fun e w' => e = .returned (.tuple #[(takeX Lp).val, .int .i64 (takeE Lp cp)]) ∧ Both14 w0 w' cs g r k Lp.tail sp cp Ld sd cd := by
  obtain ⟨F, D, h1, h2, h3, h4, h5⟩ := h
  refine (takeAny h1 hl).mono ?_
  rintro e w' ⟨rfl, F', hp, hs'⟩
  exact ⟨rfl, Both14.stepP h1 h2 h3 h4 h5 hp hs'⟩
theorem bBackP (h : Both14 w0 w cs g r k Lp sp cp Ld sd cd) (who : Int) (hl : Lp.length ≤ 9000) (hs0 : 0 ≤ sp) (hs : sp ≤ 100000) :
    Calls Try.prog 14 #[.pointer (some ⟨g, 0, none⟩), .int .i64 who] w fun e w' => e = .returned (.bool (decide (0 ≤ offI k Lp who))) ∧ Both14 w0 w' cs g r k (backL k Lp who) (backN k Lp who sp) cp Ld sd cd := by
  obtain ⟨F, D, h1, h2, h3, h4, h5⟩ := h
  refine (withdrawAny h1 who hl hs0 hs).mono ?_
  rintro e w' ⟨rfl, F', hp, hs'⟩
  exact ⟨rfl, Both14.stepP h1 h2 h3 h4 h5 hp hs'⟩
theorem bCloseP (h : Both14 w0 w cs g r k Lp sp cp Ld sd cd) (hl : Lp.length ≤ 9000) :
    Calls Try.prog 16 #[.pointer (some ⟨g, 0, none⟩)] w fun e w' => e = .returned (.int .i64 (shutE k Lp cp)) ∧ Both14 w0 w' cs g r k Lp sp (cp || decide (shutE k Lp cp = 0)) Ld sd cd := by
  obtain ⟨F, D, h1, h2, h3, h4, h5⟩ := h
  refine (shutAny h1 hl).mono ?_
  rintro e w' ⟨rfl, hp, hm⟩
  exact ⟨rfl, Both14.stepP h1 h2 h3 h4 h5 hp ⟨hm, fun k hk => .inl hk⟩⟩
theorem bWaitsP (h : Both14 w0 w cs g r k Lp sp cp Ld sd cd) (who : Int) (hl : Lp.length ≤ 9000) :
    Calls Try.prog 19 #[.pointer (some ⟨g, 0, none⟩), .int .i64 who] w fun e w' => e = .returned (.bool (decide (0 ≤ offI k Lp who))) ∧ Below w.heap.size w w' := by
  obtain ⟨F, D, h1, _⟩ := h
  exact waitsAny h1 who hl
theorem bClosedP (h : Both14 w0 w cs g r k Lp sp cp Ld sd cd) :
    Calls Try.prog 21 #[.pointer (some ⟨g, 0, none⟩)] w fun e w' => e = .returned (.bool cp) ∧ w = w' := by
  obtain ⟨F, D, h1, _⟩ := h
  exact closedAny h1
theorem bSentP (h : Both14 w0 w cs g r k Lp sp cp Ld sd cd) :
    Calls Try.prog 22 #[.pointer (some ⟨g, 0, none⟩)] w fun e w' => e = .returned (.int .i64 sp) ∧ w = w' := by
  obtain ⟨F, D, h1, _⟩ := h
  exact sentAny h1
theorem bReadyP (h : Both14 w0 w cs g r k Lp sp cp Ld sd cd) (hl : Lp.length ≤ 9000) :
    Calls Try.prog 23 #[.pointer (some ⟨g, 0, none⟩)] w fun e w' => e = .returned (.bool (cp || decide (0 < Lp.length))) ∧ ∃ q, w' = w.drewN q := by
  obtain ⟨F, D, h1, _⟩ := h
  exact readyAny h1 hl
theorem bItemsP (h : Both14 w0 w cs g r k Lp sp cp Ld sd cd) (hl : Lp.length ≤ 9000) (hh : ∀ o ∈ Lp, HitsAt 0 w o.2 ∧ o.2.hm ≤ 100000) :
    Calls Try.prog 18 #[.pointer (some ⟨g, 0, none⟩)] w fun e w' => ∃ (A : Option Addr) (c : Nat) (ys : List It), e = .returned (.slice A Lp.length c) ∧ RecW w' w.heap.size 36 7 (.slice A Lp.length c) (ys.map It.cells) ∧ Below w.heap.size w w' ∧
      (∀ (j : Nat) (o : Int × It), Lp[j]? = some o → ∃ y, ys[j]? = some y ∧ Like y o.2 ∧ HitsAt 0 w' y) ∧ Both14 w0 w' cs g r k Lp sp cp Ld sd cd := by
  have hB := h
  obtain ⟨F, D, h1, h2, h3, h4, h5⟩ := h
  have hP : Pip w0 w [] g k Lp sp cp := ⟨F, h1, h4, fun c hc => by cases hc⟩
  refine (pItems hP hl hh).mono ?_
  rintro e w' ⟨A, c, ys, rfl, hr, hb, hy, -⟩
  exact ⟨A, c, ys, rfl, hr, hb, hy, hB.below hb⟩
theorem bSendD (h : Both14 w0 w cs g r k Lp sp cp Ld sd cd) (who : Int) (x : It) (hl : Ld.length ≤ 9000) (hr : k ≤ 64) (hs0 : 0 ≤ sd) (hs : sd ≤ 100000) :
    Calls Try.prog 10 #[.pointer (some ⟨r, 0, none⟩), .int .i64 who, x.val] w fun e w' => e = .returned (.tuple #[.bool (sendB k Ld cd who), .int .i64 (sendE k Ld cd who)]) ∧ Both14 w0 w' cs g r k Lp sp cp (sendL k Ld cd who x) (sendN k Ld cd who sd) cd := by
  obtain ⟨F, D, h1, h2, h3, h4, h5⟩ := h
  refine (dSendAny h2 who x hl hr hs0 hs).mono ?_
  rintro e w' ⟨rfl, F', hp, hs'⟩
  exact ⟨rfl, Both14.stepD h1 h2 h3 h4 h5 hp hs'⟩
theorem bTakeD (h : Both14 w0 w cs g r k Lp sp cp Ld sd cd) (hl : Ld.length ≤ 9000) :
    Calls Try.prog 12 #[.pointer (some ⟨r, 0, none⟩)] w fun e w' => e = .returned (.tuple #[(takeX Ld).val, .int .i64 (takeE Ld cd)]) ∧ Both14 w0 w' cs g r k Lp sp cp Ld.tail sd cd := by
  obtain ⟨F, D, h1, h2, h3, h4, h5⟩ := h
  refine (dTakeAny h2 hl).mono ?_
  rintro e w' ⟨rfl, F', hp, hs'⟩
  exact ⟨rfl, Both14.stepD h1 h2 h3 h4 h5 hp hs'⟩
theorem bBackD (h : Both14 w0 w cs g r k Lp sp cp Ld sd cd) (who : Int) (hl : Ld.length ≤ 9000) (hr : k ≤ 64) (hs0 : 0 ≤ sd) (hs : sd ≤ 100000) :
    Calls Try.prog 15 #[.pointer (some ⟨r, 0, none⟩), .int .i64 who] w fun e w' => e = .returned (.bool (decide (0 ≤ offI k Ld who))) ∧ Both14 w0 w' cs g r k Lp sp cp (backL k Ld who) (backN k Ld who sd) cd := by
  obtain ⟨F, D, h1, h2, h3, h4, h5⟩ := h
  refine (dWithdrawAny h2 who hl hr hs0 hs).mono ?_
  rintro e w' ⟨rfl, F', hp, hs'⟩
  exact ⟨rfl, Both14.stepD h1 h2 h3 h4 h5 hp hs'⟩
theorem bCloseD (h : Both14 w0 w cs g r k Lp sp cp Ld sd cd) (hl : Ld.length ≤ 9000) (hr : k ≤ 64) :
    Calls Try.prog 17 #[.pointer (some ⟨r, 0, none⟩)] w fun e w' => e = .returned (.int .i64 (shutE k Ld cd)) ∧ Both14 w0 w' cs g r k Lp sp cp Ld sd (cd || decide (shutE k Ld cd = 0)) := by
  obtain ⟨F, D, h1, h2, h3, h4, h5⟩ := h
  refine (dCloseAny h2 hl hr).mono ?_
  rintro e w' ⟨rfl, F', hp, hs'⟩
  exact ⟨rfl, Both14.stepD h1 h2 h3 h4 h5 hp hs'⟩
theorem bWaitsD (h : Both14 w0 w cs g r k Lp sp cp Ld sd cd) (who : Int) (hl : Ld.length ≤ 9000) (hr : k ≤ 64) :
    Calls Try.prog 20 #[.pointer (some ⟨r, 0, none⟩), .int .i64 who] w fun e w' => e = .returned (.bool (decide (0 ≤ offI k Ld who))) ∧ Below w.heap.size w w' := by
  obtain ⟨F, D, h1, h2, _⟩ := h
  exact dWaitsAny h2 who hl hr
/-- The document's pipe, laid open. -/
theorem Both14.doc (h : Both14 w0 w cs g r k Lp sp cp Ld sd cd) : ∃ D A c, DocC w w0.heap.size D r A c k Ld cd sd := by
  obtain ⟨F, D, _, ⟨A, c, h⟩, _⟩ := h
  exact ⟨D, A, c, h⟩
end

/-- What is true of a line behind so many acts. -/
def OkL (w0 : World) (i : Nat) (L : List (Int × It)) (s : Int) : Prop := (L.length : Int) ≤ s ∧ s ≤ (i : Int) ∧ ∀ o ∈ L, HitsAt 0 w0 o.2 ∧ o.2.hm ≤ 10
section
variable {w0 : World} {i k : Nat} {L : List (Int × It)} {s : Int} {c : Bool}
theorem OkL.len (h : OkL w0 i L s) : L.length ≤ i := by have := h.1; have := h.2.1; omega
theorem OkL.pos (h : OkL w0 i L s) : 0 ≤ s := by have := h.1; omega
theorem OkL.more (h : OkL w0 i L s) : OkL w0 (i + 1) L s := ⟨h.1, by have := h.2.1; omega, h.2.2⟩
theorem OkL.send (h : OkL w0 i L s) (who : Int) (x : It) (hx : HitsAt 0 w0 x ∧ x.hm ≤ 10) : OkL w0 (i + 1) (sendL k L c who x) (sendN k L c who s) := by
  unfold sendL sendN
  split
  · refine ⟨by have := h.1; rw [List.length_append, List.length_singleton]; omega, by have := h.2.1; omega, fun o ho => ?_⟩
    rcases List.mem_append.1 ho with ho | ho
    · exact h.2.2 o ho
    · rw [List.mem_singleton] at ho
      subst ho
      exact hx
  · exact h.more
theorem OkL.take (h : OkL w0 i L s) : OkL w0 (i + 1) L.tail s := ⟨by have := h.1; rw [List.length_tail]; omega, by have := h.2.1; omega, fun o ho => h.2.2 o (List.mem_of_mem_tail ho)⟩
theorem OkL.back (h : OkL w0 i L s) (who : Int) : OkL w0 (i + 1) (backL k L who) (backN k L who s) := by
  unfold backL backN
  split
  · rename_i h0
    refine ⟨?_, by have := h.2.1; omega, fun o ho => h.2.2 o (List.mem_of_mem_eraseIdx ho)⟩
    rcases docI_cases k L who with ⟨_, h2⟩ | ⟨j, h1, _, h3⟩
    · omega
    · rw [h3, Int.toNat_natCast, List.length_eraseIdx, if_pos h1]
      have := h.1
      omega
  · exact h.more
theorem OkL.hits (h : OkL w0 i L s) {w : World} (hb : Below w0.heap.size w0 w) : ∀ o ∈ L, HitsAt 0 w o.2 ∧ o.2.hm ≤ 100000 := fun o ho => by
  obtain ⟨h1, h2⟩ := h.2.2 o ho
  exact ⟨h1.below hb, by omega⟩
theorem OkL.hitx (h : OkL w0 i L s) {w : World} (hb : Below w0.heap.size w0 w) : HitsAt 0 w (takeX L) ∧ (takeX L).hm ≤ 100000 := by
  rcases L with _ | ⟨o, R⟩
  · exact ⟨⟨ReadR.nil_ _ _ _ _, fun _ => ⟨rfl, rfl⟩⟩, Nat.zero_le _⟩
  · exact h.hits hb o (by simp)
end

/-- An act: what is done, by whom, with which item. -/
structure Act14 where
  kind : Int
  who : Int
  x : It
def Act14.cells (a : Act14) : List Value := .int .i64 a.kind :: .int .i64 a.who :: a.x.cells
/-- A row of acts that came in. -/
def RowA14 (w : World) (A : Option Addr) (n : Nat) (xs : List Act14) : Prop := ReadR 0 w A n 9 (xs.map Act14.cells) ∧ ∀ a ∈ xs, HitsAt 0 w a.x
theorem act_cells : Try.prog.cellsOf 38 = 9 := by kernel_rfl
end Go.Proofs.Ytmmfioemnoijoaa
