/- What the program's teller is to answer, of any representation; the laws' own state. -/
import Derived.Test.YtebmafghekfllaaDoorLinV18
namespace Go.Proofs.YtebmafghekfllaaDoor
open Go Go.RowKit
set_option linter.unusedVariables false
set_option maxRecDepth 20000
/-- The octets of the last rows' texts: as many rows as may be told yet. -/
def heldV (k b : Nat) (l : List Rw) (over : Bool) : Nat := if over = false ∧ k = 3 then ((l.drop (l.length - b)).map fun x => x.tx.size).sum else 0
def Rw.rcd (x : Rw) : Value := .agg #[.int .i64 x.n, .int .i64 x.p, .string x.tx]
/-- A row that a teller is handed. -/
structure RowIn (w : World) (F : Nat → Prop) (x : Rw) : Prop where
  hits : RHits w x
  few : x.hm ≤ 10
  size : x.tx.size ≤ 60
  lo : -9223372036854775808 ≤ x.n
  hi : x.n ≤ 9223372036854775807
  apart : 0 < x.hm → ∀ b o, x.hA = some ⟨b, o, none⟩ → ¬ F b
/-- How a teller lies in memory: in which blocks, at which one; how it tells; what it was handed; whether it is over. -/
abbrev TelP := World → (Nat → Prop) → Nat → Nat → Nat → Nat → List Rw → Bool → Prop
/-- In worlds that are good (those in which what the program reads of its own stands). -/
structure TelF (G : World → Prop) (P : TelP) : Prop where
  gb : ∀ {w w' : World}, G w → Below w.heap.size w w' → G w'
  fr : ∀ {w w' : World} {F : Nat → Prop} {g k b a : Nat} {l : List Rw} {over : Bool}, P w F g k b a l over → (∀ k, F k → w'.heap[k]? = w.heap[k]?) → w.heap.size ≤ w'.heap.size → P w' F g k b a l over
  low : ∀ {w : World} {F : Nat → Prop} {g k b a : Nat} {l : List Rw} {over : Bool}, P w F g k b a l over → ∀ k, F k → k < w.heap.size
  new : ∀ (k b a : Nat) (w : World), G w → k ≤ 3 → b ≤ 16 → a ≤ 16 → Calls Tryd.prog 8 #[.int .i64 (k : Int), .int .i64 (b : Int), .int .i64 (a : Int)] w fun e w' => ∃ g F, e = .returned (.tuple #[.pointer (some ⟨g, 0, none⟩), .int .i64 0]) ∧ P w' F g k b a [] false ∧ Below w.heap.size w w' ∧ ∀ k, F k → w.heap.size ≤ k
  bad : ∀ (k b a : Int) (w : World), G w → (k < 0 ∨ 3 < k) ∨ (b < 0 ∨ 16 < b) ∨ (a < 0 ∨ 16 < a) → Calls Tryd.prog 8 #[.int .i64 k, .int .i64 b, .int .i64 a] w fun e w' => e = .returned (.tuple #[.pointer none, .int .i64 2]) ∧ Below w.heap.size w w'
  add : ∀ {w0 w : World} {F : Nat → Prop} {g k b a : Nat} {l : List Rw} {over : Bool} (x : Rw), G w0 → Below w0.heap.size w0 w → (∀ q, F q → w0.heap.size ≤ q) → P w F g k b a l over → RowIn w F x → l.length ≤ 100 →
    Calls Tryd.prog 9 #[.pointer (some ⟨g, 0, none⟩), x.rcd, .slice x.hA x.hm x.hc] w fun e w' => ∃ (A : Option Addr) (c : Nat) (out : List ByteArray) (F' : Nat → Prop), e = .returned (.slice A out.length c) ∧ RecW w' w.heap.size 9 1 (.slice A out.length c) (strs out) ∧ Step F F' w w' ∧ (∀ q, (Value.slice A out.length c).ownBlock = some q → ¬ F' q) ∧
      (over = false → (linesV k b a (l ++ [x]) false).1 = (linesV k b a l false).1 ++ out ∧ P w' F' g k b a (l ++ [x]) false) ∧ (over = true → out = [] ∧ P w' F' g k b a l true)
  fin : ∀ {w0 w : World} {F : Nat → Prop} {g k b a : Nat} {l : List Rw} {over : Bool}, G w0 → Below w0.heap.size w0 w → (∀ q, F q → w0.heap.size ≤ q) → P w F g k b a l over → l.length ≤ 100 →
    Calls Tryd.prog 14 #[.pointer (some ⟨g, 0, none⟩)] w fun e w' => ∃ (A : Option Addr) (c : Nat) (out : List ByteArray) (F' : Nat → Prop), e = .returned (.slice A out.length c) ∧ RecW w' w.heap.size 9 1 (.slice A out.length c) (strs out) ∧ Step F F' w w' ∧ (∀ q, (Value.slice A out.length c).ownBlock = some q → ¬ F' q) ∧ P w' F' g k b a l true ∧
      (over = false → (linesV k b a l true).1 = (linesV k b a l false).1 ++ out) ∧ (over = true → out = [])
  eno : ∀ {w : World} {F : Nat → Prop} {g k b a : Nat} {l : List Rw} {over : Bool}, P w F g k b a l over → l.length ≤ 100 →
    Calls Tryd.prog 12 #[.pointer (some ⟨g, 0, none⟩)] w fun e w' => e = .returned (.bool (linesV k b a l false).2) ∧ ∃ q, w' = w.drewN q
  hld : ∀ {w : World} {F : Nat → Prop} {g k b a : Nat} {l : List Rw} {over : Bool}, P w F g k b a l over → l.length ≤ 100 →
    Calls Tryd.prog 13 #[.pointer (some ⟨g, 0, none⟩)] w fun e w' => ∃ z : Nat, z ≤ heldV k b l over ∧ e = .returned (.int .i64 (z : Int)) ∧ Below w.heap.size w w'

/-- A teller, made since w0, and a row of texts beside it; K: other blocks. -/
structure Tel (P : TelP) (w0 w : World) (K : Nat → Prop) (g k b a : Nat) (l : List Rw) (over : Bool) : Prop where
  out : ∃ F, P w F g k b a l over ∧ (∀ q, F q → w0.heap.size ≤ q) ∧ ∀ q, K q → ¬ F q ∧ q < w.heap.size
  bel : Below w0.heap.size w0 w
def Keep (K : Nat → Prop) (w w' : World) : Prop := ∀ k, K k → w'.heap[k]? = w.heap[k]?
theorem Keep.refl (K : Nat → Prop) (w : World) : Keep K w w := fun _ _ => rfl
section
variable {P : TelP} {w0 w w' : World} {K : Nat → Prop} {g k b a : Nat} {l : List Rw} {over : Bool}
theorem Tel.lt (h : Tel P w0 w K g k b a l over) : ∀ q, K q → q < w.heap.size := by
  obtain ⟨F, _, _, h⟩ := h.out
  exact fun q hq => (h q hq).2
theorem Tel.sub (h : Tel P w0 w K g k b a l over) {K' : Nat → Prop} (hk : ∀ q, K' q → K q) : Tel P w0 w K' g k b a l over := by
  obtain ⟨F, h1, h2, h3⟩ := h.out
  exact ⟨⟨F, h1, h2, fun q h => h3 q (hk q h)⟩, h.bel⟩
variable {G : World → Prop} (T : TelF G P)
include T
theorem Tel.below (h : Tel P w0 w K g k b a l over) (hb : Below w.heap.size w w') : Tel P w0 w' K g k b a l over ∧ Keep K w w' := by
  obtain ⟨F, h1, h2, h3⟩ := h.out
  exact ⟨⟨⟨F, T.fr h1 (fun q hq => hb.block q (T.low h1 q hq)) hb.size, h2, fun q hq => ⟨(h3 q hq).1, Nat.lt_of_lt_of_le (h3 q hq).2 hb.size⟩⟩, h.bel.trans (hb.mono h.bel.size)⟩, fun q hq => hb.block q (h3 q hq).2⟩
/-- New blocks that aren't the teller's. -/
theorem Tel.grownK (h : Tel P w0 w K g k b a l over) {r : Option Nat} (hg : w.grownBy w' r) (hr : ∀ q, r = some q → K q) (hlo : ∀ q, r = some q → w0.heap.size ≤ q) : Tel P w0 w' (fun q => K q ∨ (w.heap.size ≤ q ∧ q < w'.heap.size)) g k b a l over := by
  obtain ⟨F, h1, h2, h3⟩ := h.out
  refine ⟨⟨F, T.fr h1 (fun q hq => hg.block q (T.low h1 q hq) (fun e => (h3 q (hr q e.symm)).1 hq)) hg.size, h2, fun q hq => ?_⟩, h.bel.grown hg h.bel.size (fun q hq => hlo q hq)⟩
  rcases hq with hq | hq
  · exact ⟨(h3 q hq).1, Nat.lt_of_lt_of_le (h3 q hq).2 hg.size⟩
  · exact ⟨fun e => by have := T.low h1 q e; omega, hq.2⟩
theorem tNew (hG : G w) (k b a : Nat) (hb : Below w0.heap.size w0 w) (h1 : k ≤ 3) (h2 : b ≤ 16) (h3 : a ≤ 16) : Calls Tryd.prog 8 #[.int .i64 (k : Int), .int .i64 (b : Int), .int .i64 (a : Int)] w fun e w' => ∃ g, e = .returned (.tuple #[.pointer (some ⟨g, 0, none⟩), .int .i64 0]) ∧ Tel P w0 w' (fun q => q < w.heap.size) g k b a [] false ∧ Below w.heap.size w w' :=
  (T.new k b a w hG h1 h2 h3).mono fun e w' hh => by
    obtain ⟨g, F, he, hp, hb', hf⟩ := hh
    exact ⟨g, he, ⟨⟨F, hp, fun q hq => Nat.le_trans hb.size (hf q hq), fun q hq => ⟨fun e => by have := hf q e; omega, Nat.lt_of_lt_of_le hq hb'.size⟩⟩, hb.trans (hb'.mono hb.size)⟩, hb'⟩
omit T in
/-- A step of the teller beside other blocks; what it answers is among them then. -/
theorem Tel.step {F F' : Nat → Prop} {l' : List Rw} {over' : Bool} {V : Value} {xs : List (List Value)} (hb : Below w0.heap.size w0 w) (hf : ∀ q, F q → w0.heap.size ≤ q) (hk : ∀ q, K q → ¬ F q ∧ q < w.heap.size) (hp : P w' F' g k b a l' over') (hs : Step F F' w w') (hr : RecW w' w.heap.size 9 1 V xs) (hV : ∀ q, V.ownBlock = some q → ¬ F' q) :
    Tel P w0 w' (fun q => K q ∨ V.ownBlock = some q) g k b a l' over' ∧ Keep K w w' := by
  refine ⟨⟨⟨F', hp, fun q h => ?_, fun q h => ?_⟩, hb.trans (hs.1.below hf hb.size)⟩, fun q h => hs.1.block q (hk q h).2 (hk q h).1⟩
  · rcases hs.2 q h with h1 | h1
    · exact hf q h1
    · exact Nat.le_trans hb.size h1
  · rcases h with h | h
    · refine ⟨fun e => ?_, Nat.lt_of_lt_of_le (hk q h).2 hs.1.size⟩
      rcases hs.2 q e with h1 | h1
      · exact (hk q h).1 h1
      · exact absurd (hk q h).2 (by omega)
    · exact ⟨hV q h, (row_lt hr.1 h).2⟩
/-- A row that came in is apart from the teller. -/
theorem tAdd (hG : G w0) (h : Tel P w0 w K g k b a l over) (x : Rw) (hx : RHits w0 x) (hm : x.hm ≤ 10) (hz : x.tx.size ≤ 60) (hlo : -9223372036854775808 ≤ x.n) (hhi : x.n ≤ 9223372036854775807) (hn : l.length ≤ 100) :
    Calls Tryd.prog 9 #[.pointer (some ⟨g, 0, none⟩), x.rcd, .slice x.hA x.hm x.hc] w fun e w' => ∃ (A : Option Addr) (c : Nat) (out : List ByteArray), e = .returned (.slice A out.length c) ∧ RecW w' w.heap.size 9 1 (.slice A out.length c) (strs out) ∧ Keep K w w' ∧
      (over = false → (linesV k b a (l ++ [x]) false).1 = (linesV k b a l false).1 ++ out ∧ Tel P w0 w' (fun q => K q ∨ (Value.slice A out.length c).ownBlock = some q) g k b a (l ++ [x]) false) ∧ (over = true → out = [] ∧ Tel P w0 w' (fun q => K q ∨ (Value.slice A out.length c).ownBlock = some q) g k b a l true) := by
  obtain ⟨F, h1, h2, h3⟩ := h.out
  have hr : RowIn w F x := ⟨hx.below h.bel, hm, hz, hlo, hhi, fun h0 b' o he hF => by
    obtain ⟨b2, o2, e2, _, hlt, _⟩ := hx.1.2 h0
    rw [he] at e2
    injection e2 with e2
    injection e2 with e2
    have := h2 b' hF
    omega⟩
  refine (T.add x hG h.bel h2 h1 hr hn).mono fun e w' hh => ?_
  obtain ⟨A, c, out, F', he, hr, hs, hap, c1, c2⟩ := hh
  refine ⟨A, c, out, he, hr, fun q hq => hs.1.block q (h3 q hq).2 (h3 q hq).1, fun ho => ?_, fun ho => ?_⟩
  · obtain ⟨hl, hp⟩ := c1 ho
    exact ⟨hl, (Tel.step h.bel h2 h3 hp hs hr hap).1⟩
  · obtain ⟨hl, hp⟩ := c2 ho
    exact ⟨hl, (Tel.step h.bel h2 h3 hp hs hr hap).1⟩
theorem tFin (hG : G w0) (h : Tel P w0 w K g k b a l over) (hn : l.length ≤ 100) :
    Calls Tryd.prog 14 #[.pointer (some ⟨g, 0, none⟩)] w fun e w' => ∃ (A : Option Addr) (c : Nat) (out : List ByteArray), e = .returned (.slice A out.length c) ∧ RecW w' w.heap.size 9 1 (.slice A out.length c) (strs out) ∧ Keep K w w' ∧ Tel P w0 w' (fun q => K q ∨ (Value.slice A out.length c).ownBlock = some q) g k b a l true ∧
      (over = false → (linesV k b a l true).1 = (linesV k b a l false).1 ++ out) ∧ (over = true → out = []) := by
  obtain ⟨F, h1, h2, h3⟩ := h.out
  refine (T.fin hG h.bel h2 h1 hn).mono fun e w' hh => ?_
  obtain ⟨A, c, out, F', he, hr, hs, hap, hp, c1, c2⟩ := hh
  exact ⟨A, c, out, he, hr, fun q hq => hs.1.block q (h3 q hq).2 (h3 q hq).1, (Tel.step h.bel h2 h3 hp hs hr hap).1, c1, c2⟩
theorem tEno (h : Tel P w0 w K g k b a l over) (hn : l.length ≤ 100) (q : Nat) :
    Calls Tryd.prog 12 #[.pointer (some ⟨g, 0, none⟩)] (w.drewN q) fun e w' => e = .returned (.bool (linesV k b a l false).2) ∧ ∃ m, w' = w.drewN m := by
  obtain ⟨F, h1, h2, h3⟩ := h.out
  refine (T.eno (w := w.drewN q) (T.fr h1 (fun _ _ => rfl) (Nat.le_refl _)) hn).mono fun e w' hh => ⟨hh.1, ?_⟩
  obtain ⟨m, rfl⟩ := hh.2
  exact ⟨q + m, World.drewN_drewN _ _ _⟩
theorem tHld (h : Tel P w0 w K g k b a l over) (hn : l.length ≤ 100) (q : Nat) :
    Calls Tryd.prog 13 #[.pointer (some ⟨g, 0, none⟩)] (w.drewN q) fun e w' => ∃ z : Nat, z ≤ heldV k b l over ∧ e = .returned (.int .i64 (z : Int)) ∧ Below w.heap.size w w' := by
  obtain ⟨F, h1, h2, h3⟩ := h.out
  refine (T.hld (w := w.drewN q) (T.fr h1 (fun _ _ => rfl) (Nat.le_refl _)) hn).mono fun e w' hh => ?_
  obtain ⟨z, hz, he, hb⟩ := hh
  exact ⟨z, hz, he, ⟨hb.os, hb.tape, hb.output, hb.size, hb.block⟩⟩
end
end Go.Proofs.YtebmafghekfllaaDoor
