/- The program's teller answers as its chapter says: Add, by each way of telling. -/
import Derived.Test.YtebmafghekfllaaDoorModF18
namespace Go.Proofs.YtebmafghekfllaaDoor
open Go Go.RowKit
set_option linter.unusedVariables false
set_option maxRecDepth 20000
theorem ok_add {w : World} {F : Nat → Prop} {l : List Rw} {x : Rw} (h : ∀ y ∈ l, okY y) (hx : RowIn w F x) : ∀ y ∈ l ++ [x], okY y := fun y hy => by
  rcases List.mem_append.1 hy with h1 | h1
  · exact h y h1
  · rw [List.mem_singleton.1 h1]
    exact ⟨⟨hx.lo, hx.hi⟩, hx.size, by rw [hx.hits.len]; exact hx.few⟩
theorem good_le {w : World} {F : Nat → Prop} {x : Rw} (hx : RowIn w F x) : (goodH x).length ≤ 10 := by
  have h1 := cells_le_good0 x
  have h2 := hx.hits.len
  have h3 := hx.few
  omega
theorem rec_nil0 {w w' : World} {B : Nat} : RecW w' B 9 1 (.slice none 0 0) (strs []) := RecW.nil _ _ _ _
section
variable {w0 w w' : World} {F : Nat → Prop} {g k b a : Nat} {l : List Rw} {over : Bool}
theorem adds0 (hT : Pow18 w0) (hb : Below w0.heap.size w0 w) (hok : ∀ y ∈ l, okY y) (h : P0 w F g over) (x : Rw) (hx : RowIn w F x) : Calls Tryd.prog 9 #[.pointer (some ⟨g, 0, none⟩), x.rcd, .slice x.hA x.hm x.hc] w (AddsTo w F g 0 b a l over x) := by
  have hP : PM w F g 0 b a l over := ⟨hok, .inl ⟨rfl, h⟩⟩
  obtain ⟨hF, m⟩ := h
  cases over with
  | true => exact adds_over hP m x
  | false =>
    refine (add_way0 m x hx.hits hx.few hx.size F hP.low (fun W A2 n2 c2 w' => n2 = (linesX x).length ∧ RecW w' W.heap.size 9 1 (.slice A2 n2 c2) (strs (linesX x)) ∧ TelM w' g vE .nilFunc [] false false ∧ Moved F W w') ?_ ?_).mono ?_
    · intro W A1 c1 hbW hr
      refine (each_any x A1 _ c1 W (hT.on (hb.trans (hbW.mono hb.size))) hr hx.lo hx.hi (good_le hx) hx.size).mono fun e w' hh => ?_
      obtain ⟨A2, c2, he, hr2, hb2⟩ := hh
      exact ⟨A2, _, c2, he, by unfold linesX; rw [List.length_map], hr2, (m.below hbW).below hb2, Moved.of_below hb2 _⟩
    · rintro W A2 n2 c2 w' ⟨-, -, h1, h2⟩
      exact ⟨h1.c0, h2⟩
    · rintro e w' ⟨W, A2, n2, c2, hbW, he, hn, hr, h1, h2⟩
      obtain ⟨r1, r2, r3⟩ := adds_done hP.low hbW hn hr h2
      exact ⟨A2, c2, linesX x, F, by rw [he, hn], r1, r2, r3, fun _ => ⟨linesA_add l x, ok_add hok hx, .inl ⟨rfl, hF, h1⟩⟩, fun h => by cases h⟩
theorem adds1 (hT : Pow18 w0) (hb : Below w0.heap.size w0 w) (hF0 : ∀ q, F q → w0.heap.size ≤ q) (hok : ∀ y ∈ l, okY y) (h : P1 w F g l over) (x : Rw) (hx : RowIn w F x) : Calls Tryd.prog 9 #[.pointer (some ⟨g, 0, none⟩), x.rcd, .slice x.hA x.hm x.hc] w (AddsTo w F g 1 b a l over x) := by
  have hP : PM w F g 1 b a l over := ⟨hok, .inr (.inl ⟨rfl, h⟩)⟩
  obtain ⟨bt, hF, hbt, m⟩ := h
  have hadd := linesF_add l x
  cases over with
  | true => exact adds_over hP (show TelM w g (fn1 bt) .nilFunc [] (linesF l).2 true by simpa using m) x
  | false =>
    have m' : TelM w g (fn1 bt) .nilFunc [] (linesF l).2 (linesF l).2 := by simpa using m
    cases hf : (linesF l).2 with
    | true =>
      rw [hf] at m' hadd
      rw [if_pos rfl] at hadd
      refine (add_over m' x).mono fun e w' hh => ?_
      obtain ⟨he, hb'⟩ := hh
      have hP' := hP.below hb'
      refine ⟨none, 0, [], F, he, rec_nil0 (w := w), ⟨Moved.of_below hb' F, fun q h => .inl h⟩, (fun q hq => by cases hq), fun _ => ⟨?_, ok_add hok hx, .inr (.inl ⟨rfl, bt, hF, (hb'.block bt (Array.getElem?_eq_some_iff.1 hbt).1).trans hbt, ?_⟩)⟩, fun h => by cases h⟩
      · rw [List.append_nil]
        show (linesF (l ++ [x])).1 = (linesF l).1
        rw [hadd]
      · rw [hadd, hf]
        exact m'.below hb'
    | false =>
      rw [hf] at m' hadd
      rw [if_neg (by decide)] at hadd
      have hno := linesF_no hf
      by_cases hx0 : (goodH x).length = 0
      · have hxx : hitX x = false := by rw [hitX_len, hx0]; rfl
        rw [hxx, if_neg (by decide)] at hadd
        refine (add_way1 bt m' x hx.hits hx.few hx.size F hP.low (fun W A2 n2 c2 w' => n2 = 0 ∧ A2 = none ∧ c2 = 0 ∧ Below W.heap.size W w' ∧ Below w.heap.size w W) ?_ ?_).mono ?_
        · intro W A1 c1 hbW hr
          rw [hx0]
          refine (fst_no x A1 c1 bt W).mono fun e w' hh => ⟨none, 0, 0, hh.1, rfl, rfl, rfl, hh.2, hbW⟩
        · rintro W A2 n2 c2 w' ⟨-, -, -, h1, h2⟩
          exact ⟨((m'.below h2).below h1).c0, Moved.of_below h1 _⟩
        · rintro e w' ⟨W, A2, n2, c2, hbW, he, rfl, rfl, rfl, h1, -⟩
          have hb' : Below w.heap.size w w' := hbW.trans (h1.mono hbW.size)
          refine ⟨none, 0, [], F, he, rec_nil0 (w := w), ⟨Moved.of_below hb' F, fun q h => .inl h⟩, (fun q hq => by cases hq), fun _ => ⟨?_, ok_add hok hx, .inr (.inl ⟨rfl, bt, hF, (hb'.block bt (Array.getElem?_eq_some_iff.1 hbt).1).trans hbt, ?_⟩)⟩, fun h => by cases h⟩
          · rw [List.append_nil]
            show (linesF (l ++ [x])).1 = (linesF l).1
            rw [hadd]
          · rw [hadd, hf]
            exact m'.below hb'
      · have hxx : hitX x = true := by rw [hitX_len]; exact decide_eq_true (by omega)
        rw [hxx, if_pos rfl] at hadd
        have hgF : F g := by rw [hF]; exact .inl rfl
        have hbn : bt ≠ g := by
          obtain ⟨cs, hcs, _⟩ := m'.hp
          exact blk_ne hbt hcs (by decide)
        have hbl := (Array.getElem?_eq_some_iff.1 hbt).1
        refine (add_way1 bt m' x hx.hits hx.few hx.size F hP.low (fun W A2 n2 c2 w' => n2 = [lineF x].length ∧ RecW w' W.heap.size 9 1 (.slice A2 n2 c2) (strs [lineF x]) ∧ TelM w' g (fn1 bt) .nilFunc [] true true ∧ Moved F W w' ∧ w'.heap[bt]? = some (.cells #[.pointer (some ⟨g, 0, none⟩)] 25 (0, 0))) ?_ ?_).mono ?_
        · intro W A1 c1 hbW hr
          have hbt' := (hbW.block bt hbl).trans hbt
          refine (fst_yes x A1 _ c1 bt (m'.below hbW) hbt' (by omega) hT (hb.trans (hbW.mono hb.size)) (hF0 g hgF) hx.lo hx.hi hx.size).mono fun e w' hh => ?_
          obtain ⟨A2, c2, he, hr2, ht2, hm2⟩ := hh
          exact ⟨A2, 1, c2, he, rfl, hr2, ht2, hm2.wide (fun q hq => by rw [hq]; exact hgF), (hm2.block bt (Nat.lt_of_lt_of_le hbl hbW.size) hbn).trans hbt'⟩
        · rintro W A2 n2 c2 w' ⟨-, -, h1, h2, -⟩
          exact ⟨h1.c0, h2⟩
        · rintro e w' ⟨W, A2, n2, c2, hbW, he, hn, hr, h1, h2, h3⟩
          obtain ⟨r1, r2, r3⟩ := adds_done hP.low hbW hn hr h2
          refine ⟨A2, c2, [lineF x], F, by rw [he, hn], r1, r2, r3, fun _ => ⟨?_, ok_add hok hx, .inr (.inl ⟨rfl, bt, hF, h3, ?_⟩)⟩, fun h => by cases h⟩
          · show (linesF (l ++ [x])).1 = (linesF l).1 ++ [lineF x]
            rw [hadd, hno]
            rfl
          · rw [hadd]
            exact h1
theorem adds2 (hT : Pow18 w0) (hok : ∀ y ∈ l, okY y) (hln : l.length ≤ 100) (h : P2 w F g l over) (x : Rw) (hx : RowIn w F x) : Calls Tryd.prog 9 #[.pointer (some ⟨g, 0, none⟩), x.rcd, .slice x.hA x.hm x.hc] w (AddsTo w F g 2 b a l over x) := by
  have hP : PM w F g 2 b a l over := ⟨hok, .inr (.inr (.inl ⟨rfl, h⟩))⟩
  obtain ⟨cr, ch, hne, hF, hr, hh, m⟩ := h
  have hR := cntR_add l x
  have hH := cntH_add l x
  cases over with
  | true => exact adds_over hP m x
  | false =>
    obtain ⟨cs, hcs, _⟩ := m.hp
    have n1 := blk_ne hr hcs (by decide)
    have n2 := blk_ne hh hcs (by decide)
    have l1 := (Array.getElem?_eq_some_iff.1 hr).1
    have l2 := (Array.getElem?_eq_some_iff.1 hh).1
    have hle1 := cntR_le l
    have hle2 := cntH_le l hok
    refine (add_way2 cr ch m x hx.hits hx.few hx.size F hP.low (fun W A2 n2 c2 w' => n2 = 0 ∧ A2 = none ∧ c2 = 0 ∧ TelM w' g (fn2 cr ch) (fe2 cr ch) [] false false ∧ Moved F W w' ∧ w'.heap[cr]? = some (.cells #[.int .i64 (cntR (l ++ [x]) (l ++ [x]).length : Int)] 3 (0, 0)) ∧ w'.heap[ch]? = some (.cells #[.int .i64 (cntH (l ++ [x]) (l ++ [x]).length : Int)] 3 (0, 0))) ?_ ?_).mono ?_
    · intro W A1 c1 hbW hr1
      have hr' := (hbW.block cr l1).trans hr
      have hh' := (hbW.block ch l2).trans hh
      by_cases hx0 : (goodH x).length = 0
      · have hxx : hitX x = false := by rw [hitX_len, hx0]; rfl
        rw [hxx, if_neg (by decide), Nat.add_zero] at hR
        rw [hx0, Nat.add_zero] at hH
        rw [hx0, hR, hH]
        refine (cnt_no x A1 c1 cr ch W).mono fun e w' hq => ?_
        exact ⟨none, 0, 0, hq.1, rfl, rfl, rfl, (m.below hbW).below hq.2, Moved.of_below hq.2 _, (hq.2.block cr (Nat.lt_of_lt_of_le l1 hbW.size)).trans hr', (hq.2.block ch (Nat.lt_of_lt_of_le l2 hbW.size)).trans hh'⟩
      · have hxx : hitX x = true := by rw [hitX_len]; exact decide_eq_true (by omega)
        rw [hxx, if_pos rfl] at hR
        rw [hR, hH]
        refine (cnt_yes x A1 _ c1 cr ch _ _ hr' hh' hne (by omega) (good_le hx) (by omega) (by omega)).mono fun e w' hq => ?_
        obtain ⟨he, q1, q2, q3⟩ := hq
        exact ⟨none, 0, 0, he, rfl, rfl, rfl, (m.below hbW).keep (q3.block g (m.below hbW).lt (fun e => by rcases e with e | e; exact n1 e.symm; exact n2 e.symm)), q3.wide (fun q hq => by rw [hF]; exact .inr hq), q1, q2⟩
    · rintro W A2 n2 c2 w' ⟨-, -, -, h1, h2, -⟩
      exact ⟨h1.c0, h2⟩
    · rintro e w' ⟨W, A2, n2, c2, hbW, he, rfl, rfl, rfl, h1, h2, h3, h4⟩
      obtain ⟨r1, r2, r3⟩ := adds_done (out := []) hP.low hbW rfl (rec_nil0 (w := w)) h2
      exact ⟨none, 0, [], F, he, r1, r2, r3, fun _ => ⟨rfl, ok_add hok hx, .inr (.inr (.inl ⟨rfl, cr, ch, hne, hF, h3, h4, h1⟩))⟩, fun h => by cases h⟩
end
end Go.Proofs.YtebmafghekfllaaDoor
