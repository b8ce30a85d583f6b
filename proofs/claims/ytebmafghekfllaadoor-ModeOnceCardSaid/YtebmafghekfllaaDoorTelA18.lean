/- A teller beside the texts that it told. -/
import Derived.Test.YtebmafghekfllaaDoorTelR18
namespace Go.Proofs.YtebmafghekfllaaDoor
open Go Go.RowKit
set_option linter.unusedVariables false
set_option maxRecDepth 20000
section
variable {P : TelP} {w0 w w' : World} {K : Nat → Prop} {g k b a : Nat} {l : List Rw} {over : Bool}
variable {G : World → Prop} (T : TelF G P)
include T
theorem Tel.fresh (h : Tel P w0 w K g k b a l over) (hb : Below w.heap.size w w') : Tel P w0 w' (fun q => K q ∨ (w.heap.size ≤ q ∧ q < w'.heap.size)) g k b a l over :=
  h.grownK T (r := none) ⟨hb.os, hb.tape, hb.output, hb.size, fun q hq _ => hb.block q hq⟩ (fun _ h => by cases h) (fun _ h => by cases h)
theorem tAddK (hG : G w0) (h : Tel P w0 w K g k b a l over) (x : Rw) (hx : RHits w x) (hm : x.hm ≤ 10) (hz : x.tx.size ≤ 60) (hlo : -9223372036854775808 ≤ x.n) (hhi : x.n ≤ 9223372036854775807) (hn : l.length ≤ 100) (hap : 0 < x.hm → ∀ b o, x.hA = some ⟨b, o, none⟩ → b < w0.heap.size ∨ K b) :
    Calls Tryd.prog 9 #[.pointer (some ⟨g, 0, none⟩), x.rcd, .slice x.hA x.hm x.hc] w fun e w' => ∃ (A : Option Addr) (c : Nat) (out : List ByteArray), e = .returned (.slice A out.length c) ∧ RecW w' w.heap.size 9 1 (.slice A out.length c) (strs out) ∧ Keep K w w' ∧
      (over = false → (linesV k b a (l ++ [x]) false).1 = (linesV k b a l false).1 ++ out ∧ Tel P w0 w' (fun q => K q ∨ (Value.slice A out.length c).ownBlock = some q) g k b a (l ++ [x]) false) ∧ (over = true → out = [] ∧ Tel P w0 w' (fun q => K q ∨ (Value.slice A out.length c).ownBlock = some q) g k b a l true) := by
  obtain ⟨F, h1, h2, h3⟩ := h.out
  have hr : RowIn w F x := ⟨hx, hm, hz, hlo, hhi, fun h0 b' o he hF => by
    rcases hap h0 b' o he with h4 | h4
    · have := h2 b' hF
      omega
    · exact (h3 b' h4).1 hF⟩
  refine (T.add x hG h.bel h2 h1 hr hn).mono fun e w' hh => ?_
  obtain ⟨A, c, out, F', he, hr, hs, hap, c1, c2⟩ := hh
  refine ⟨A, c, out, he, hr, fun q hq => hs.1.block q (h3 q hq).2 (h3 q hq).1, fun ho => ?_, fun ho => ?_⟩
  · obtain ⟨hl, hp⟩ := c1 ho
    exact ⟨hl, (Tel.step h.bel h2 h3 hp hs hr hap).1⟩
  · obtain ⟨hl, hp⟩ := c2 ho
    exact ⟨hl, (Tel.step h.bel h2 h3 hp hs hr hap).1⟩
/-- What was told is appended to the texts. -/
theorem tell_app {A D : Option Addr} {n m c d B : Nat} {told out : List ByteArray} (h : Tel P w0 w K g k b a l over) (hV : RecW w w0.heap.size 9 1 (.slice A n c) (strs told)) (hK : ∀ q, (Value.slice A n c).ownBlock = some q → K q) (hX : RecW w B 9 1 (.slice D m d) (strs out)) (hn : n ≤ 100000) (hm : m ≤ 100000) :
    ∃ A' c' w2, (Builtin.append_ #[29, 29] 29 #[.slice A n c, .slice D m d]).run Tryd.prog w = .ok (.slice A' (n + m) c') w2 ∧ RecW w2 w0.heap.size 9 1 (.slice A' (n + m) c') (strs (told ++ out)) ∧ Tel P w0 w2 (fun q => (Value.slice A' (n + m) c').ownBlock = some q) g k b a l over := by
  have hnl := rec_len hV
  have hml := rec_len hX
  obtain ⟨D', d', e1, hr, h1, h2, h3⟩ := hX.read
  injection e1 with e1 e2 e3
  subst e1
  have e3' : d = d' := e3
  subst e3'
  rw [hml] at hr
  obtain ⟨V', w2, happ, hr2, hg2, hat, -⟩ := hV.app 29 9 _ 1 16 Tryd.underlying29 info_str rfl (by decide) hr (c := d) (fun h => (h3 h).2) (by rw [hnl]; unfold maxLen; omega) (by rw [hnl]; omega) h.bel.size
  obtain ⟨A', c', hV', -⟩ := hr2.slice
  rw [List.length_append, hnl, hml] at hV'
  subst hV'
  rw [← strs_append] at hr2
  refine ⟨A', c', w2, happ, hr2, (h.grownK T hg2 hK (fun q hq => (row_lt hV.1 hq).1)).sub fun q hq => ?_⟩
  rcases hat with e | e
  · rw [e] at hq; exact .inl (hK q hq)
  · rw [e] at hq
    injection hq with hq
    subst hq
    exact .inr ⟨Nat.le_refl _, (row_lt hr2.1 e).2⟩
/-- A row is handed, and what is told appended to what was told. -/
theorem tell_add {A : Option Addr} {n c : Nat} (hG : G w0) (h : Tel P w0 w K g k b a l false) (hV : RecW w w0.heap.size 9 1 (.slice A n c) (strs (linesV k b a l false).1)) (hK : ∀ q, (Value.slice A n c).ownBlock = some q → K q)
    (x : Rw) (hx : RHits w x) (hm : x.hm ≤ 10) (hz : x.tx.size ≤ 60) (hlo : -9223372036854775808 ≤ x.n) (hhi : x.n ≤ 9223372036854775807) (hn : l.length ≤ 100) (hap : 0 < x.hm → ∀ b o, x.hA = some ⟨b, o, none⟩ → b < w0.heap.size ∨ K b) (hN : (linesV k b a (l ++ [x]) false).1.length ≤ 2000) :
    Calls Tryd.prog 9 #[.pointer (some ⟨g, 0, none⟩), x.rcd, .slice x.hA x.hm x.hc] w fun e w' => ∃ (D : Option Addr) (m d : Nat), e = .returned (.slice D m d) ∧ Below w0.heap.size w0 w' ∧ ∃ A' c' w2, (Builtin.append_ #[29, 29] 29 #[.slice A n c, .slice D m d]).run Tryd.prog w' = .ok (.slice A' (n + m) c') w2 ∧
      Hid (n + m = (linesV k b a (l ++ [x]) false).1.length ∧ RecW w2 w0.heap.size 9 1 (.slice A' (n + m) c') (strs (linesV k b a (l ++ [x]) false).1) ∧ Tel P w0 w2 (fun q => (Value.slice A' (n + m) c').ownBlock = some q) g k b a (l ++ [x]) false) := by
  refine (tAddK T hG h x hx hm hz hlo hhi hn hap).mono fun e w' hh => ?_
  obtain ⟨D, d, out, he, hr, hkp, h1, -⟩ := hh
  obtain ⟨hl, ht⟩ := h1 rfl
  have hV' : RecW w' w0.heap.size 9 1 (.slice A n c) (strs (linesV k b a l false).1) := hV.keep fun q _ e => hkp q (hK q e)
  have hnl := rec_len hV
  rw [strs_length] at hnl
  have hnm : n + out.length = (linesV k b a (l ++ [x]) false).1.length := by rw [hl, List.length_append, hnl]
  obtain ⟨A', c', w2, happ, hr2, ht2⟩ := tell_app T ht hV' (fun q hq => .inl (hK q hq)) hr (by omega) (by omega)
  rw [← hl] at hr2
  exact ⟨D, out.length, d, he, ht.bel, A', c', w2, happ, Lib.hid ⟨hnm, hr2, ht2⟩⟩
/-- The end, and what is told appended to what was told. -/
theorem tell_fin {A : Option Addr} {n c : Nat} (hG : G w0) (h : Tel P w0 w K g k b a l false) (hV : RecW w w0.heap.size 9 1 (.slice A n c) (strs (linesV k b a l false).1)) (hK : ∀ q, (Value.slice A n c).ownBlock = some q → K q)
    (hn : l.length ≤ 100) (hN : (linesV k b a l true).1.length ≤ 2000) :
    Calls Tryd.prog 14 #[.pointer (some ⟨g, 0, none⟩)] w fun e w' => ∃ (D : Option Addr) (m d : Nat), e = .returned (.slice D m d) ∧ Below w0.heap.size w0 w' ∧ ∃ A' c' w2, (Builtin.append_ #[29, 29] 29 #[.slice A n c, .slice D m d]).run Tryd.prog w' = .ok (.slice A' (n + m) c') w2 ∧
      Hid (n + m = (linesV k b a l true).1.length ∧ RecW w2 w0.heap.size 9 1 (.slice A' (n + m) c') (strs (linesV k b a l true).1) ∧ Tel P w0 w2 (fun q => (Value.slice A' (n + m) c').ownBlock = some q) g k b a l true) := by
  refine (tFin T hG h hn).mono fun e w' hh => ?_
  obtain ⟨D, d, out, he, hr, hkp, ht, h1, -⟩ := hh
  have hl := h1 rfl
  have hV' : RecW w' w0.heap.size 9 1 (.slice A n c) (strs (linesV k b a l false).1) := hV.keep fun q _ e => hkp q (hK q e)
  have hnl := rec_len hV
  rw [strs_length] at hnl
  have hnm : n + out.length = (linesV k b a l true).1.length := by rw [hl, List.length_append, hnl]
  obtain ⟨A', c', w2, happ, hr2, ht2⟩ := tell_app T ht hV' (fun q hq => .inl (hK q hq)) hr (by omega) (by omega)
  rw [← hl] at hr2
  exact ⟨D, out.length, d, he, ht.bel, A', c', w2, happ, Lib.hid ⟨hnm, hr2, ht2⟩⟩
end
theorem cells_le_good (x : Rw) : (goodH x).length ≤ x.hs.length := List.length_filter_le _ _
/-- How many lines there are at most. -/
theorem linesV_len (k b a : Nat) (fin : Bool) : ∀ (l : List Rw), (∀ x ∈ l, x.hs.length ≤ 10) → (linesV k b a l fin).1.length ≤ 10 * l.length + 1 := by
  intro l hl
  unfold linesV
  split
  · have : ∀ l : List Rw, (∀ x ∈ l, x.hs.length ≤ 10) → (linesA l).length ≤ 10 * l.length := by
      intro l
      induction l with
      | nil => intro _; simp [linesA]
      | cons x r ih =>
        intro h
        have h1 := ih fun y hy => h y (by simp [hy])
        have h2 := cells_le_good x
        have h3 := h x (by simp)
        unfold linesA at h1 ⊢
        rw [List.flatMap_cons, List.length_append, List.length_cons]
        have h4 : (linesX x).length = (goodH x).length := by simp [linesX]
        omega
    have := this l hl
    dsimp only
    omega
  · split
    · unfold linesF
      split
      · split <;> simp
      · simp
    · split
      · unfold linesC
        dsimp only
        split <;> simp
      · have := ctxS_len l b a l.length
        show (ctxL l b a).length ≤ _
        unfold ctxL
        omega
end Go.Proofs.YtebmafghekfllaaDoor
