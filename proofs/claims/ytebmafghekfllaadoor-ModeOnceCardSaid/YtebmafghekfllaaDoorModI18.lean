/- The program's teller answers as its chapter says: all of it. -/
import Derived.Test.YtebmafghekfllaaDoorModH18
namespace Go.Proofs.YtebmafghekfllaaDoor
open Go Go.RowKit
set_option linter.unusedVariables false
set_option maxRecDepth 20000
section
variable {w0 w w' : World} {F : Nat → Prop} {g k b a : Nat} {l : List Rw} {over : Bool}
theorem mem_wait {y : Rw} (hok : ∀ y ∈ l, okY y) (h : y ∈ waitC l b a) : okY y := hok y (List.mem_of_mem_drop h)
theorem adds3 (hT : Pow18 w0) (hb : Below w0.heap.size w0 w) (hF0 : ∀ q, F q → w0.heap.size ≤ q) (hok : ∀ y ∈ l, okY y) (h : P3 w F g b a l over) (x : Rw) (hx : RowIn w F x) : Calls Tryd.prog 9 #[.pointer (some ⟨g, 0, none⟩), x.rcd, .slice x.hA x.hm x.hc] w (AddsTo w F g 3 b a l over x) := by
  have hP : PM w F g 3 b a l over := ⟨hok, .inr (.inr (.inr ⟨rfl, h⟩))⟩
  obtain ⟨hba, ca, cb, cs, ct, cf, cg, cn, hF, m⟩ := h
  have h4 : ∀ q, F4 g cb cg cn q → F q := fun q hq => by
    rw [hF]
    rcases hq with rfl | rfl | rfl | rfl <;> simp
  have h40 : ∀ q, F4 g cb cg cn q → w0.heap.size ≤ q := fun q hq => hF0 q (h4 q hq)
  cases over with
  | true => exact adds_over hP m.tel x
  | false =>
    have m' : Ct3 w g ca cb cs ct cf cg cn b a (behN l a) (awC l b a) (waitC l b a) false false := m
    have hpow := fun (W : World) (hbW : Below w.heap.size w W) => hb.trans (hbW.mono hb.size)
    have hln : ∀ (L : List ByteArray), L = (linesV 3 b a (l ++ [x]) false).1 → L = ctxL (l ++ [x]) b a := fun L h => h
    by_cases hx0 : (goodH x).length = 0
    · have hxx : hitX x = false := by rw [hitX_len, hx0]; rfl
      have hbeh := behN_add l x a
      rw [hxx, if_neg (by decide)] at hbeh
      by_cases hbh : behN l a = 0
      · have hleft : leftB l a = false := by rw [left_beh, hbh]; rfl
        obtain ⟨e1, e2, e3⟩ := ctx_none (b := b) hxx hleft
        rw [hbh] at hbeh m'
        have hw : (if b = 0 then waitC l b a else (if (waitC l b a).length = b then (waitC l b a).drop 1 else waitC l b a) ++ [x]) = waitC (l ++ [x]) b a := by
          rw [e3]
          by_cases hb0 : b = 0
          · rw [if_pos hb0, if_pos hb0]
            have := waitC_len l b a
            exact List.eq_nil_of_length_eq_zero (by omega)
          · rw [if_neg hb0, if_neg hb0]
        refine (add_way3 ca cb cs ct cf m'.tel x hx.hits hx.few hx.size F hP.low (fun W A2 n2 c2 w' => n2 = 0 ∧ A2 = none ∧ c2 = 0 ∧ Ct3 w' g ca cb cs ct cf cg cn b a 0 (awC l b a) (waitC (l ++ [x]) b a) false false ∧ Moved F W w') ?_ ?_).mono ?_
        · intro W A1 c1 hbW hr1
          rw [hx0]
          refine (ctx_wait (m'.below hbW) x A1 c1 (waitC_len l b a) hba.1 hx.size).mono fun e w' hq => ?_
          obtain ⟨he, q1, q2⟩ := hq
          rw [hw] at q1
          exact ⟨none, 0, 0, he, rfl, rfl, rfl, q1, q2.wide h4⟩
        · rintro W A2 n2 c2 w' ⟨-, -, -, h1, h2⟩
          exact ⟨h1.tel.c0, h2⟩
        · rintro e w' ⟨W, A2, n2, c2, hbW, he, rfl, rfl, rfl, h1, h2⟩
          obtain ⟨r1, r2, r3⟩ := adds_done (out := []) hP.low hbW rfl (rec_nil0 (w := w)) h2
          refine ⟨none, 0, [], F, he, r1, r2, r3, fun _ => ⟨?_, ok_add hok hx, .inr (.inr (.inr ⟨rfl, hba, ca, cb, cs, ct, cf, cg, cn, hF, ?_⟩))⟩, fun h => by cases h⟩
          · rw [List.append_nil]
            exact e1
          · rw [hbeh, e2]
            exact h1
      · have hleft : leftB l a = true := by rw [left_beh]; exact decide_eq_true (by omega)
        obtain ⟨e1, e2, e3, e4⟩ := ctx_beh (b := b) hxx hleft
        obtain ⟨n, hn⟩ : ∃ n, behN l a = n + 1 := ⟨behN l a - 1, by omega⟩
        have hle := behN_le a l
        rw [hn] at hbeh m' hle
        rw [e4] at m'
        refine (add_way3 ca cb cs ct cf m'.tel x hx.hits hx.few hx.size F hP.low (fun W A2 n2 c2 w' => n2 = (shw ⟨#[45]⟩ (awC l b a) [x]).1.length ∧ RecW w' W.heap.size 9 1 (.slice A2 n2 c2) (strs (shw ⟨#[45]⟩ (awC l b a) [x]).1) ∧ Ct3 w' g ca cb cs ct cf cg cn b a n (shw ⟨#[45]⟩ (awC l b a) [x]).2 [] false false ∧ Moved F W w') ?_ ?_).mono ?_
        · intro W A1 c1 hbW hr1
          rw [hx0]
          refine (ctx_behind (m'.below hbW) x A1 c1 (by omega) hT (hpow W hbW) h40 hx.lo hx.hi hx.size).mono fun e w' hq => ?_
          obtain ⟨A2, c2, he, q0, q1, q2⟩ := hq
          exact ⟨A2, _, c2, he, rfl, q0, q1, q2.wide h4⟩
        · rintro W A2 n2 c2 w' ⟨-, -, h1, h2⟩
          exact ⟨h1.tel.c0, h2⟩
        · rintro e w' ⟨W, A2, n2, c2, hbW, he, hnn, hr, h1, h2⟩
          obtain ⟨r1, r2, r3⟩ := adds_done hP.low hbW hnn hr h2
          refine ⟨A2, c2, _, F, by rw [he, hnn], r1, r2, r3, fun _ => ⟨e1, ok_add hok hx, .inr (.inr (.inr ⟨rfl, hba, ca, cb, cs, ct, cf, cg, cn, hF, ?_⟩))⟩, fun h => by cases h⟩
          rw [hbeh, e2, Nat.add_sub_cancel, if_neg (by decide), e3]
          exact h1
    · have hxx : hitX x = true := by rw [hitX_len]; exact decide_eq_true (by omega)
      have hbeh := behN_add l x a
      rw [hxx, if_pos rfl] at hbeh
      obtain ⟨e1, e2, e3⟩ := ctx_hit (l := l) (b := b) (a := a) hxx
      obtain ⟨out, ho⟩ : ∃ out, out = (shw ⟨#[45]⟩ (awC l b a) (waitC l b a)).1 ++ (shw ⟨#[58]⟩ (shw ⟨#[45]⟩ (awC l b a) (waitC l b a)).2 [x]).1 := ⟨_, rfl⟩
      obtain ⟨st2, ho2⟩ : ∃ st2, st2 = (shw ⟨#[58]⟩ (shw ⟨#[45]⟩ (awC l b a) (waitC l b a)).2 [x]).2 := ⟨_, rfl⟩
      rw [← ho] at e1
      rw [← ho2] at e2
      refine (add_way3 ca cb cs ct cf m'.tel x hx.hits hx.few hx.size F hP.low (fun W A2 n2 c2 w' => n2 = out.length ∧ RecW w' W.heap.size 9 1 (.slice A2 n2 c2) (strs out) ∧ Ct3 w' g ca cb cs ct cf cg cn b a a st2 [] false false ∧ Moved F W w') ?_ ?_).mono ?_
      · intro W A1 c1 hbW hr1
        refine (ctx_yes (m'.below hbW) x A1 _ c1 (by omega) hT (hpow W hbW) h40 hx.lo hx.hi hx.size (fun y hy => ?_) out st2 ho ho2).mono fun e w' hq => ?_
        · have := mem_wait hok hy
          exact ⟨this.1.1, this.1.2, this.2.1⟩
        · obtain ⟨A2, c2, he, q0, q1, q2⟩ := hq
          exact ⟨A2, _, c2, he, rfl, q0, q1, q2.wide h4⟩
      · rintro W A2 n2 c2 w' ⟨-, -, h1, h2⟩
        exact ⟨h1.tel.c0, h2⟩
      · rintro e w' ⟨W, A2, n2, c2, hbW, he, hnn, hr, h1, h2⟩
        obtain ⟨r1, r2, r3⟩ := adds_done hP.low hbW hnn hr h2
        refine ⟨A2, c2, out, F, by rw [he, hnn], r1, r2, r3, fun _ => ⟨e1, ok_add hok hx, .inr (.inr (.inr ⟨rfl, hba, ca, cb, cs, ct, cf, cg, cn, hF, ?_⟩))⟩, fun h => by cases h⟩
        rw [hbeh, e2, if_neg (by decide), e3]
        exact h1
/-- The end. -/
def EndsTo (w : World) (F : Nat → Prop) (g k b a : Nat) (l : List Rw) (over : Bool) (e : Ending) (w' : World) : Prop := ∃ (A : Option Addr) (c : Nat) (out : List ByteArray) (F' : Nat → Prop), e = .returned (.slice A out.length c) ∧ RecW w' w.heap.size 9 1 (.slice A out.length c) (strs out) ∧ Step F F' w w' ∧ (∀ q, (Value.slice A out.length c).ownBlock = some q → ¬ F' q) ∧ PM w' F' g k b a l true ∧
      (over = false → (linesV k b a l true).1 = (linesV k b a l false).1 ++ out) ∧ (over = true → out = [])
theorem ends_over (h : PM w F g k b a l true) {tv ev : Value} {rs : List Rw} {en : Bool} (hM : TelM w g tv ev rs en true) : Calls Tryd.prog 14 #[.pointer (some ⟨g, 0, none⟩)] w (EndsTo w F g k b a l true) := by
  refine (end_over hM).mono fun e w' hh => ?_
  obtain ⟨rfl, rfl⟩ := hh
  exact ⟨none, 0, [], F, rfl, RecW.nil _ _ _ _, Step.refl _ _, (fun q hq => by cases hq), h, (fun h => by cases h), fun _ => rfl⟩
/-- An end that tells nothing. -/
theorem ends_nil (hg : F g) {tv : Value} {rs : List Rw} {en : Bool} (hM : TelM w g tv .nilFunc rs en false) (hl : (linesV k b a l true).1 = (linesV k b a l false).1) (hP : ∀ w', TelM w' g tv .nilFunc [] en true → Moved (fun q => q = g) w w' → PM w' F g k b a l true) : Calls Tryd.prog 14 #[.pointer (some ⟨g, 0, none⟩)] w (EndsTo w F g k b a l false) := by
  refine (end_nil hM).mono fun e w' hh => ?_
  obtain ⟨he, ht, hm⟩ := hh
  exact ⟨none, 0, [], F, he, RecW.nil _ _ _ _, ⟨hm.wide fun q hq => by rw [hq]; exact hg, fun q h => .inl h⟩, (fun q hq => by cases hq), hP w' ht hm, (fun _ => by rw [hl, List.append_nil]), fun h => by cases h⟩
theorem ends_any (hT : Pow18 w0) (hb : Below w0.heap.size w0 w) (hF0 : ∀ q, F q → w0.heap.size ≤ q) (h : PM w F g k b a l over) (hln : l.length ≤ 100) : Calls Tryd.prog 14 #[.pointer (some ⟨g, 0, none⟩)] w (EndsTo w F g k b a l over) := by
  have hP := h
  obtain ⟨hok, h⟩ := h
  rcases h with ⟨rfl, hF, m⟩ | ⟨rfl, bt, hF, h1, m⟩ | ⟨rfl, cr, ch, hne, hF, h1, h2, m⟩ | ⟨rfl, hba, ca, cb, cs, ct, cf, cg, cn, hF, m⟩
  · cases over with
    | true => exact ends_over hP m
    | false => exact ends_nil (by rw [hF]) m rfl fun w' ht hm => ⟨hok, .inl ⟨rfl, hF, ht⟩⟩
  · cases over with
    | true => exact ends_over hP (show TelM w g (fn1 bt) .nilFunc [] (linesF l).2 true by simpa using m)
    | false =>
      have m' : TelM w g (fn1 bt) .nilFunc [] (linesF l).2 (linesF l).2 := by simpa using m
      obtain ⟨cs, hcs, _⟩ := m'.hp
      have n1 := blk_ne h1 hcs (by decide)
      cases hf : (linesF l).2 with
      | true =>
        rw [hf] at m'
        refine (end_over m').mono fun e w' hh => ?_
        obtain ⟨rfl, rfl⟩ := hh
        exact ⟨none, 0, [], F, rfl, RecW.nil _ _ _ _, Step.refl _ _, (fun q hq => by cases hq), ⟨hok, .inr (.inl ⟨rfl, bt, hF, h1, by rw [hf]; exact m'⟩)⟩, (fun _ => by rw [List.append_nil]; rfl), fun h => by cases h⟩
      | false =>
        rw [hf] at m'
        exact ends_nil (by rw [hF]; exact .inl rfl) m' rfl fun w' ht hm => ⟨hok, .inr (.inl ⟨rfl, bt, hF, (hm.block bt (Array.getElem?_eq_some_iff.1 h1).1 n1).trans h1, by rw [hf]; exact ht⟩)⟩
  · cases over with
    | true => exact ends_over hP m
    | false =>
      obtain ⟨cs, hcs, _⟩ := m.hp
      have n1 := blk_ne h1 hcs (by decide)
      have n2 := blk_ne h2 hcs (by decide)
      have hle1 := cntR_le l
      have hle2 := cntH_le l hok
      have hgF : F g := by rw [hF]; exact .inl rfl
      refine (end_cnt m h1 h2 (by omega) (by omega) hT hb (hF0 g hgF)).mono fun e w' hh => ?_
      obtain ⟨A, c, he, hr, ht, hm⟩ := hh
      refine ⟨A, c, [_], F, he, hr, ⟨hm.wide fun q hq => by rw [hq]; exact hgF, fun q h => .inl h⟩, fun q hq hFq => ?_, ⟨hok, .inr (.inr (.inl ⟨rfl, cr, ch, hne, hF, (hm.block cr (Array.getElem?_eq_some_iff.1 h1).1 n1).trans h1, (hm.block ch (Array.getElem?_eq_some_iff.1 h2).1 n2).trans h2, ht⟩))⟩, fun _ => rfl, fun h => by cases h⟩
      have k1 := (row_lt hr.1 hq).1
      have k2 := hP.low q hFq
      omega
  · cases over with
    | true => exact ends_over hP m.tel
    | false =>
      exact ends_nil (by rw [hF]; exact .inl rfl) m.tel rfl fun w' ht hm => ⟨hok, .inr (.inr (.inr ⟨rfl, hba, ca, cb, cs, ct, cf, cg, cn, hF, m.moveT hm ht⟩))⟩
/-- The numbers of a row's octets. -/
theorem sum_drop (f : Rw → Nat) : ∀ (l : List Rw) (i j : Nat), i ≤ j → ((l.drop j).map f).sum ≤ ((l.drop i).map f).sum := fun l i j h => by
  obtain ⟨d, rfl⟩ : ∃ d, j = i + d := ⟨j - i, by omega⟩
  rw [← List.drop_drop]
  have : ∀ (d : Nat) (m : List Rw), ((m.drop d).map f).sum ≤ (m.map f).sum := by
    intro d
    induction d with
    | zero => intro m; simp
    | succ d ih =>
      intro m
      cases m with
      | nil => simp
      | cons y r =>
        have := ih r
        rw [List.drop_succ_cons, List.map_cons, List.sum_cons]
        omega
  exact this d _
theorem helds_any (h : PM w F g k b a l over) : Calls Tryd.prog 13 #[.pointer (some ⟨g, 0, none⟩)] w fun e w' => ∃ z : Nat, z ≤ heldV k b l over ∧ e = .returned (.int .i64 (z : Int)) ∧ Below w.heap.size w w' := by
  have hnil : ∀ (tv ev : Value) (en ov : Bool), TelM w g tv ev [] en ov → Calls Tryd.prog 13 #[.pointer (some ⟨g, 0, none⟩)] w fun e w' => ∃ z : Nat, z ≤ heldV k b l over ∧ e = .returned (.int .i64 (z : Int)) ∧ Below w.heap.size w w' := fun tv ev en ov m =>
    (held_any m (fun x hx => by simp at hx)).mono fun e w' hh => ⟨0, Nat.zero_le _, hh.1, hh.2⟩
  obtain ⟨hok, h⟩ := h
  rcases h with ⟨rfl, hF, m⟩ | ⟨rfl, bt, hF, h1, m⟩ | ⟨rfl, cr, ch, hne, hF, h1, h2, m⟩ | ⟨rfl, hba, ca, cb, cs, ct, cf, cg, cn, hF, m⟩
  · exact hnil _ _ _ _ m
  · exact hnil _ _ _ _ m
  · exact hnil _ _ _ _ m
  · cases over with
    | true => exact hnil _ _ _ _ m.tel
    | false =>
      refine (held_any m.tel (fun x hx => (mem_wait hok hx).2.1)).mono fun e w' hh => ⟨_, ?_, hh.1, hh.2⟩
      have hv : heldV 3 b l false = ((l.drop (l.length - b)).map fun x => x.tx.size).sum := if_pos ⟨rfl, rfl⟩
      rw [hv, if_neg (by decide)]
      exact sum_drop _ l (l.length - b) (heldC l b a) (by unfold heldC; omega)
/-- THE PROGRAM's TELLER ANSWERS AS ITS CHAPTER SAYS. -/
theorem telF : TelF Pow18 PM where
  gb := fun h hb => h.on hb
  fr := fun h hk _ => h.keep hk
  low := fun h => h.low
  new := fun k b a w hG hk hb ha => by
    rcases k with _ | _ | _ | _ | k
    · refine (new0 b a w hb ha).mono fun e w' hh => ?_
      obtain ⟨g, he, ht, hbw, hg⟩ := hh
      exact ⟨g, fun q => q = g, he, ⟨(fun y hy => by simp at hy), .inl ⟨rfl, rfl, ht⟩⟩, hbw, fun q hq => by rw [hq]; exact hg⟩
    · refine (new1 b a w hb ha).mono fun e w' hh => ?_
      obtain ⟨g, bt, he, ht, h1, hbw, hg, hb1⟩ := hh
      exact ⟨g, fun q => q = g ∨ q = bt, he, ⟨(fun y hy => by simp at hy), .inr (.inl ⟨rfl, bt, rfl, h1, ht⟩)⟩, hbw, fun q hq => by rcases hq with rfl | rfl <;> assumption⟩
    · refine (new2 b a w hb ha).mono fun e w' hh => ?_
      obtain ⟨g, cr, ch, he, ht, h1, h2, hne, hbw, hg, hr, hh⟩ := hh
      exact ⟨g, fun q => q = g ∨ q = cr ∨ q = ch, he, ⟨(fun y hy => by simp at hy), .inr (.inr (.inl ⟨rfl, cr, ch, hne, rfl, h1, h2, ht⟩))⟩, hbw, fun q hq => by rcases hq with rfl | rfl | rfl <;> assumption⟩
    · refine (new3 b a w hb ha).mono fun e w' hh => ?_
      obtain ⟨g, ca, cb, cs, ct, cf, cg, cn, he, ht, hc, hbw, hg, hq0⟩ := hh
      exact ⟨g, _, he, ⟨(fun y hy => by simp at hy), .inr (.inr (.inr ⟨rfl, ⟨hb, ha⟩, ca, cb, cs, ct, cf, cg, cn, rfl, by rw [show (if (false : Bool) = true then [] else waitC [] b a) = ([] : List Rw) by simp [waitC]]; exact ⟨ht, hc⟩⟩))⟩, hbw, fun q hq => by
        rcases hq with rfl | hq
        · exact hg
        · exact hq0 q hq⟩
    · omega
  bad := fun k b a w _ h => new_bad k b a w h
  add := fun x hG hb hF h hx hl => by
    obtain ⟨hok, h⟩ := h
    rcases h with ⟨rfl, h⟩ | ⟨rfl, h⟩ | ⟨rfl, h⟩ | ⟨rfl, h⟩
    · exact adds0 hG hb hok h x hx
    · exact adds1 hG hb hF hok h x hx
    · exact adds2 hG hok hl h x hx
    · exact adds3 hG hb hF hok h x hx
  fin := fun hG hb hF h hl => ends_any hG hb hF h hl
  eno := fun {w F g k b a l over} h hl => by
    obtain ⟨hok, h⟩ := h
    have hz : ∀ (w' : World), w' = w → ∃ q, w' = w.drewN q := fun w' h => ⟨0, h⟩
    rcases h with ⟨rfl, hF, m⟩ | ⟨rfl, bt, hF, h1, m⟩ | ⟨rfl, cr, ch, hne, hF, h1, h2, m⟩ | ⟨rfl, hba, ca, cb, cs, ct, cf, cg, cn, hF, m⟩
    · exact (eno_any m).mono fun e w' hh => ⟨hh.1, hz w' hh.2⟩
    · exact (eno_any m).mono fun e w' hh => ⟨hh.1, hz w' hh.2⟩
    · exact (eno_any m).mono fun e w' hh => ⟨hh.1, hz w' hh.2⟩
    · exact (eno_any m.tel).mono fun e w' hh => ⟨hh.1, hz w' hh.2⟩
  hld := fun h _ => helds_any h
end
end Go.Proofs.YtebmafghekfllaaDoor
