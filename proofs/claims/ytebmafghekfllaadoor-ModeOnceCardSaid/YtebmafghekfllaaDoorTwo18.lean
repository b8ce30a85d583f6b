/- Two tellers beside one another; rows that came in, as far as they were looked at. -/
import Derived.Test.YtebmafghekfllaaDoorAwk18
namespace Go.Proofs.YtebmafghekfllaaDoor
open Go Go.RowKit
set_option linter.unusedVariables false
set_option maxRecDepth 20000
/-- Rows that came in, whatever they are. -/
def RowsIn (w : World) (A : Option Addr) (n : Nat) (l : List Rw) : Prop := ReadR 0 w A n 4 (l.map Rw.cells) ∧ ∀ x ∈ l, RHits w x ∧ -9223372036854775808 ≤ x.n ∧ x.n ≤ 9223372036854775807
/-- Short enough. -/
def okX (x : Rw) : Prop := x.hm ≤ 10 ∧ x.tx.size ≤ 60
theorem RowsIn.len {w : World} {A : Option Addr} {n : Nat} {l : List Rw} (h : RowsIn w A n l) : l.length = n := by have := h.1.1.1; simpa using this
theorem RowsIn.below {w w' : World} {A : Option Addr} {n : Nat} {l : List Rw} (h : RowsIn w A n l) (hb : Below w.heap.size w w') : RowsIn w' A n l := ⟨h.1.below hb, fun x hx => ⟨(h.2 x hx).1.below hb, (h.2 x hx).2⟩⟩
theorem RowsIn.at {w : World} {A : Option Addr} {n : Nat} {l : List Rw} (h : RowsIn w A n l) {i : Nat} {x : Rw} (hx : l[i]? = some x) : ∃ b o, A = some ⟨b, o, none⟩ ∧ b < w.heap.size ∧ w.cell? ⟨b, o + i * 4, none⟩ = some (.int .i64 x.n) ∧ w.cell? ⟨b, o + i * 4 + 1, none⟩ = some (.int .i64 x.p) ∧ w.cell? ⟨b, o + i * 4 + 2, none⟩ = some (.string x.tx) ∧ w.cell? ⟨b, o + i * 4 + 3, none⟩ = some (.slice x.hA x.hm x.hc) := by
  have hi := (List.getElem?_eq_some_iff.1 hx).1
  obtain ⟨b, o, hA, -, hb, hc⟩ := h.1.2 (by rw [← h.len]; omega)
  have hc := fun j v hv => hc i x.cells (by simp [hx]) j v hv
  exact ⟨b, o, hA, hb, hc 0 _ rfl, hc 1 _ rfl, hc 2 _ rfl, hc 3 _ rfl⟩
theorem ReadR.pre {B : Nat} {w : World} {A : Option Addr} {n s : Nat} {xs : List (List Value)} (h : ReadR B w A n s xs) {k : Nat} (hk : k ≤ n) : ReadR B w A k s (xs.take k) := by
  refine ⟨⟨by rw [List.length_take, h.1.1]; omega, h.1.2.sub fun x hx => List.mem_of_mem_take hx⟩, fun h0 => ?_⟩
  obtain ⟨b, o, hA, hB, hb, hc⟩ := h.2 (by omega)
  refine ⟨b, o, hA, hB, hb, fun j x hx i v hv => hc j x ?_ i v hv⟩
  have hj := (List.getElem?_eq_some_iff.1 hx).1
  rw [List.length_take] at hj
  rwa [List.getElem?_take_of_lt (by omega)] at hx
/-- Those that were looked at are rows that Lines takes. -/
theorem RowsIn.pre {w : World} {A : Option Addr} {n : Nat} {l : List Rw} (h : RowsIn w A n l) {k : Nat} (hk : k ≤ n) (hok : ∀ x ∈ l.take k, okX x) : RowsAt w A k (l.take k) :=
  ⟨by rw [List.map_take]; exact h.1.pre hk, fun x hx => ⟨(h.2 x (List.mem_of_mem_take hx)).1, (hok x hx).1, (hok x hx).2, (h.2 x (List.mem_of_mem_take hx)).2⟩⟩
theorem ok_snoc {l : List Rw} {i : Nat} {x : Rw} (hx : l[i]? = some x) (h : ∀ y ∈ l.take i, okX y) (hm : x.hm ≤ 10) (hz : x.tx.size ≤ 60) : ∀ y ∈ l.take (i + 1), okX y := fun y hy => by
  rw [take_snocL hx] at hy
  rcases List.mem_append.1 hy with h1 | h1
  · exact h y h1
  · rw [List.mem_singleton.1 h1]; exact ⟨hm, hz⟩
/-- What a row reads as. -/
theorem rec_read {w : World} {B : Nat} {e : TypeId} {s k c : Nat} {A : Option Addr} {ys : List (List Value)} (h : RecW w B e s (.slice A k c) ys) : ReadR B w A k s ys := by
  have hl := rec_len h
  obtain ⟨A0, c0, e1, hr, _⟩ := h.read
  injection e1 with e1 _ _
  rw [hl] at hr
  rw [e1]
  exact hr
structure Two (P : TelP) (w0 w : World) (g k b a : Nat) (l : List Rw) (o : Bool) (g' k' b' a' : Nat) (l' : List Rw) (o' : Bool) : Prop where
  out : ∃ F F', P w F g k b a l o ∧ P w F' g' k' b' a' l' o' ∧ (∀ q, F q → ¬ F' q) ∧ (∀ q, F q ∨ F' q → w0.heap.size ≤ q)
  bel : Below w0.heap.size w0 w
section
variable {P : TelP} {w0 w w' : World} {g k b a g' k' b' a' : Nat} {l l' : List Rw} {o o' : Bool}
theorem Two.swap (h : Two P w0 w g k b a l o g' k' b' a' l' o') : Two P w0 w g' k' b' a' l' o' g k b a l o := by
  obtain ⟨F, F', h1, h2, h3, h4⟩ := h.out
  exact ⟨⟨F', F, h2, h1, fun q h h' => h3 q h' h, fun q hq => h4 q hq.symm⟩, h.bel⟩
theorem two_step {F F1 F' : Nat → Prop} {l1 : List Rw} {o1 : Bool} {G : World → Prop} (T : TelF G P) (hb : Below w0.heap.size w0 w) (hp : P w' F1 g k b a l1 o1) (hq : P w F' g' k' b' a' l' o') (hd : ∀ q, F q → ¬ F' q) (hl : ∀ q, F q ∨ F' q → w0.heap.size ≤ q) (hs : Step F F1 w w') : Two P w0 w' g k b a l1 o1 g' k' b' a' l' o' := by
  refine ⟨⟨F1, F', hp, T.fr hq (fun q h => hs.1.block q (T.low hq q h) (fun e => hd q e h)) hs.1.size, fun q h h' => ?_, fun q h => ?_⟩, hb.trans (hs.1.below (fun q h => hl q (.inl h)) hb.size)⟩
  · rcases hs.2 q h with h1 | h1
    · exact hd q h1 h'
    · have := T.low hq q h'; omega
  · rcases h with h | h
    · rcases hs.2 q h with h1 | h1
      · exact hl q (.inl h1)
      · exact Nat.le_trans hb.size h1
    · exact hl q (.inr h)
variable {G : World → Prop} (T : TelF G P)
include T
theorem Two.below (h : Two P w0 w g k b a l o g' k' b' a' l' o') (hb : Below w.heap.size w w') : Two P w0 w' g k b a l o g' k' b' a' l' o' := by
  obtain ⟨F, F', h1, h2, h3, h4⟩ := h.out
  exact ⟨⟨F, F', T.fr h1 (fun q hq => hb.block q (T.low h1 q hq)) hb.size, T.fr h2 (fun q hq => hb.block q (T.low h2 q hq)) hb.size, h3, h4⟩, h.bel.trans (hb.mono h.bel.size)⟩
theorem two_new (hG : G w) {K : Nat → Prop} (h : Tel P w0 w K g k b a l o) (k' b' a' : Nat) (h1 : k' ≤ 3) (h2 : b' ≤ 16) (h3 : a' ≤ 16) : Calls Tryd.prog 8 #[.int .i64 (k' : Int), .int .i64 (b' : Int), .int .i64 (a' : Int)] w fun e w' => ∃ g', e = .returned (.tuple #[.pointer (some ⟨g', 0, none⟩), .int .i64 0]) ∧ Two P w0 w' g k b a l o g' k' b' a' [] false := by
  obtain ⟨F, hp, hl, _⟩ := h.out
  refine (T.new k' b' a' w hG h1 h2 h3).mono fun e w' hh => ?_
  obtain ⟨g', F', he, hp', hb, hf⟩ := hh
  refine ⟨g', he, ⟨F, F', T.fr hp (fun q hq => hb.block q (T.low hp q hq)) hb.size, hp', fun q h h' => ?_, fun q h => ?_⟩, h.bel.trans (hb.mono h.bel.size)⟩
  · have := T.low hp q h
    have := hf q h'
    omega
  · rcases h with h | h
    · exact hl q h
    · exact Nat.le_trans ‹Tel P w0 w K g k b a l o›.bel.size (hf q h)
theorem two_add (hG : G w0) (h : Two P w0 w g k b a l false g' k' b' a' l' o') (x : Rw) (hx : RHits w0 x) (hm : x.hm ≤ 10) (hz : x.tx.size ≤ 60) (hlo : -9223372036854775808 ≤ x.n) (hhi : x.n ≤ 9223372036854775807) (hn : l.length ≤ 100) :
    Calls Tryd.prog 9 #[.pointer (some ⟨g, 0, none⟩), x.rcd, .slice x.hA x.hm x.hc] w fun e w' => ∃ (A : Option Addr) (m c : Nat), e = .returned (.slice A m c) ∧ (linesV k b a (l ++ [x]) false).1.length = (linesV k b a l false).1.length + m ∧ Two P w0 w' g k b a (l ++ [x]) false g' k' b' a' l' o' := by
  obtain ⟨F, F', h1, h2, h3, h4⟩ := h.out
  have hr : RowIn w F x := ⟨hx.below h.bel, hm, hz, hlo, hhi, fun h0 b' o he hF => by
    obtain ⟨b2, o2, e2, _, hlt, _⟩ := hx.1.2 h0
    rw [he] at e2
    injection e2 with e2
    injection e2 with e2
    have := h4 b' (.inl hF)
    omega⟩
  refine (T.add x hG h.bel (fun q h => h4 q (.inl h)) h1 hr hn).mono fun e w' hh => ?_
  obtain ⟨A, c, out, F1, he, hr, hs, hap, c1, -⟩ := hh
  obtain ⟨hl, hp⟩ := c1 rfl
  exact ⟨A, out.length, c, he, by rw [hl, List.length_append], two_step T h.bel hp h2 h3 h4 hs⟩
theorem two_fin (hG : G w0) (h : Two P w0 w g k b a l false g' k' b' a' l' o') (hn : l.length ≤ 100) :
    Calls Tryd.prog 14 #[.pointer (some ⟨g, 0, none⟩)] w fun e w' => ∃ (A : Option Addr) (c : Nat) (out : List ByteArray), e = .returned (.slice A out.length c) ∧ (linesV k b a l true).1 = (linesV k b a l false).1 ++ out ∧ RecW w' w.heap.size 9 1 (.slice A out.length c) (strs out) ∧ Tel P w0 w' (fun q => (Value.slice A out.length c).ownBlock = some q) g' k' b' a' l' o' := by
  obtain ⟨F, F', h1, h2, h3, h4⟩ := h.out
  refine (T.fin hG h.bel (fun q h => h4 q (.inl h)) h1 hn).mono fun e w' hh => ?_
  obtain ⟨A, c, out, F1, he, hr, hs, hap, hp, c1, -⟩ := hh
  refine ⟨A, c, out, he, c1 rfl, hr, ⟨F', T.fr h2 (fun q h => hs.1.block q (T.low h2 q h) (fun e => h3 q e h)) hs.1.size, fun q hq => h4 q (.inr hq), fun q hq => ?_⟩, h.bel.trans (hs.1.below (fun q h => h4 q (.inl h)) h.bel.size)⟩
  have hlt := row_lt hr.1 hq
  exact ⟨fun hF => by have := T.low h2 q hF; omega, hlt.2⟩
theorem two_eno (h : Two P w0 w g k b a l o g' k' b' a' l' o') (hn : l.length ≤ 100) (q : Nat) :
    Calls Tryd.prog 12 #[.pointer (some ⟨g, 0, none⟩)] (w.drewN q) fun e w' => e = .returned (.bool (linesV k b a l false).2) ∧ ∃ m, w' = w.drewN m := by
  obtain ⟨F, F', h1, h2, h3, h4⟩ := h.out
  refine (T.eno (w := w.drewN q) (T.fr h1 (fun _ _ => rfl) (Nat.le_refl _)) hn).mono fun e w' hh => ⟨hh.1, ?_⟩
  obtain ⟨m, rfl⟩ := hh.2
  exact ⟨q + m, World.drewN_drewN _ _ _⟩
end
end Go.Proofs.YtebmafghekfllaaDoor
