/- A text's code points. -/
import Derived.Test.YtegcebgoiocakaaM03
import Derived.Test.YtegcebgoiocakaaM08
import Derived.Test.YtegcebgoiocakaaM09
import Derived.Test.YtegcebgoiocakaaM15
import Derived.Test.YtegcebgoiocakaaM16
import Derived.Test.YtegcebgoiocakaaM18
import Derived.Deep.RegionHeldLaw
import Derived.BigQuiet
import Derived.Lib.SliceRun
namespace Go.Proofs.Ytegcebgoiocakaa
open Go Go.RowKit
set_option linter.unusedVariables false
set_option maxRecDepth 20000

/-- Octets as code points; none: some are no code point's. -/
def ptsL : Nat → List Int → Option (List Int)
  | _, [] => some []
  | 0, _ :: _ => none
  | f + 1, x :: l => if (getI (x :: l)).2 = szI (getI (x :: l)).1 then (ptsL f ((x :: l).drop (getI (x :: l)).2.toNat)).map fun r => (getI (x :: l)).1 :: r else none
theorem ptsL_fuel : ∀ (f : Nat) (l : List Int), l.length ≤ f → ptsL f l = ptsL l.length l
  | 0, [], _ => rfl
  | 0, _ :: _, h => by simp at h
  | f + 1, [], _ => rfl
  | f + 1, x :: l, h => by
    rw [List.length_cons, ptsL, ptsL]
    have hb := getI_bounds (l := x :: l) (by simp)
    have hd : ((x :: l).drop (getI (x :: l)).2.toNat).length ≤ l.length := by
      rw [List.length_drop, List.length_cons]; omega
    rw [List.length_cons] at h
    rw [ptsL_fuel f _ (by omega), ptsL_fuel l.length _ hd]
def pointsL (l : List Int) : Option (List Int) := ptsL l.length l
theorem pointsL_nil : pointsL [] = some [] := rfl
theorem pointsL_cons {l : List Int} (h : l ≠ []) : pointsL l = if (getI l).2 = szI (getI l).1 then (pointsL (l.drop (getI l).2.toNat)).map fun r => (getI l).1 :: r else none := by
  rcases l with _ | ⟨x, l⟩
  · exact absurd rfl h
  · have hb := getI_bounds (l := x :: l) (by simp)
    have hd : ((x :: l).drop (getI (x :: l)).2.toNat).length ≤ l.length := by
      rw [List.length_drop, List.length_cons]; omega
    unfold pointsL
    rw [List.length_cons, ptsL, ptsL_fuel _ _ hd]
theorem ptsL_is : ∀ (f : Nat) (l xs : List Int), ptsL f l = some xs → ∀ x ∈ xs, isI x = true
  | _, [], xs, h, x, hx => by
    rw [ptsL] at h
    · injection h with h; subst h; simp at hx
  | 0, _ :: _, xs, h, x, hx => by cases h
  | f + 1, y :: l, xs, h, x, hx => by
    rw [ptsL] at h
    split at h
    · obtain ⟨r, hr, rfl⟩ := Option.map_eq_some_iff.1 h
      rcases List.mem_cons.1 hx with rfl | hx
      · exact getI_is _
      · exact ptsL_is f _ r hr x hx
    · cases h
theorem pointsL_is {l xs : List Int} (h : pointsL l = some xs) : ∀ x ∈ xs, 0 ≤ x ∧ x ≤ 1114111 := fun x hx => isI_cases (ptsL_is _ _ _ h x hx)
theorem pointsL_len : ∀ (N : Nat) (l xs : List Int), l.length ≤ N → pointsL l = some xs → xs.length ≤ l.length
  | N, [], xs, _, h => by
    rw [pointsL_nil] at h; injection h with h; subst h; simp
  | 0, _ :: _, _, hN, _ => by simp at hN
  | N + 1, x :: l, xs, hN, h => by
    have hb := getI_bounds (l := x :: l) (by simp)
    rw [pointsL_cons (by simp)] at h
    split at h
    · obtain ⟨r, hr, rfl⟩ := Option.map_eq_some_iff.1 h
      rw [List.length_cons] at hN
      have h2 : ((x :: l).drop (getI (x :: l)).2.toNat).length + 1 ≤ (x :: l).length := by rw [List.length_drop, List.length_cons]; omega
      have := pointsL_len N _ r (by rw [List.length_cons] at h2; omega) hr
      rw [List.length_cons]; omega
    · cases h

/-- What decode answers. -/
def DecV (s : ByteArray) (w : World) (e : Ending) (w' : World) : Prop :=
  Below w.heap.size w w' ∧ ((e = .returned (.tuple #[.slice none 0 0, .bool false]) ∧ pointsL (nums s) = none) ∨
  ∃ P q pc xs, e = .returned (.tuple #[.slice P q pc, .bool true]) ∧ pointsL (nums s) = some xs ∧ w'.ownsRow w.heap.size 3 1 (.slice P q pc) q (xs.map (.int .i64)))
end Go.Proofs.Ytegcebgoiocakaa
/- The document's Get, of whatever text. -/
namespace Go.Proofs.Ytegcebgoiocakaa
open Go Go.RowKit

/-- The document's Get, of whatever text. -/
theorem refGet_any (s : ByteArray) (w : World) (hm : s.size ≤ maxLen) :
    Calls Try.prog 26 #[.string s] w fun e w' => e = .returned (.tuple #[.int .i64 (getI (nums s)).1, .int .i64 (getI (nums s)).2]) ∧ Below w.heap.size w w' := by
  have hl := nums_length s
  rcases Nat.eq_zero_or_pos s.size with h0 | h0
  · have : nums s = [] := List.eq_nil_of_length_eq_zero (by omega)
    rw [this]
    exact refGet_nil s w h0
  · have hb := nums_byte s
    have h := refGet_some s w h0 hm
    cases hq : nums s with
    | nil => rw [hq] at hl; simp at hl; omega
    | cons x t =>
      rw [hq] at h hb
      rw [get_same x t (hb x (by simp)).1]
      exact h

end Go.Proofs.Ytegcebgoiocakaa
/- The document's points. -/
namespace Go.Proofs.Ytegcebgoiocakaa
open Go Go.RowKit
set_option linter.unusedVariables false
set_option maxRecDepth 20000

theorem rgetF_back (l : List Int) : ∀ (f n : Nat), rgetF l f n = (65533, 1) ∨ putI (rgetF l f n).1 = l.take (rgetF l f n).2.toNat
  | 0, n => .inl rfl
  | f + 1, n => by
    unfold rgetF
    by_cases h : okI l n = true
    · rw [if_pos h]
      right
      unfold okI at h
      rw [Bool.and_eq_true, decide_eq_true_iff] at h
      simpa using h.2
    · rw [if_neg h]
      exact rgetF_back l f (n + 1)
/-- A code point put is the octets that it was got of, just where it has as many. -/
theorem get_back {l : List Int} (hl : l ≠ []) (hb : ∀ x ∈ l, 0 ≤ x ∧ x < 256) : (putI (getI l).1 = l.take (getI l).2.toNat) ↔ (getI l).2 = szI (getI l).1 := by
  have hbd := getI_bounds hl
  have his := getI_is l
  rcases l with _ | ⟨x, t⟩
  · exact absurd rfl hl
  have hs := get_same x t (hb x (by simp)).1
  have hsz := szI_len his
  constructor
  · intro h
    have := congrArg List.length h
    rw [List.length_take] at this
    omega
  · intro h
    rcases rgetF_back (x :: t) 4 1 with h1 | h1
    · rw [hs, h1] at h
      exact absurd h (by decide)
    · rw [hs]; exact h1
theorem nums_drop (s : ByteArray) (k : Nat) : nums (s.extract k s.size) = (nums s).drop k := by
  unfold nums
  rw [← List.map_drop]
  congr 1
  rw [ByteArray.data_extract, Array.toList_extract, List.extract_eq_take_drop]
  exact List.take_of_length_le (by rw [List.length_drop]; exact Nat.le_refl _)
set_option maxHeartbeats 4000000 in
theorem rpoints_any (s : ByteArray) (w : World) (hs : s.size ≤ 200) :
    Calls Try.prog 33 #[.string s] w (DecV s w) := by
  go_enter Try.func33, Try.ntmps33
  go_wp2_with fail
  go_loopw [0, 4] (fun vs vo wr => ∃ (S : ByteArray) (q pc : Nat) (P : Option Addr) (xs : List Int), vs = .string S ∧ vo = .slice P q pc ∧ q + S.size ≤ 200 ∧
    Hid (wr.ownsRow w.heap.size 3 1 (.slice P q pc) q (xs.map (.int .i64)) ∧ Below w.heap.size w wr ∧ pointsL (nums s) = (pointsL (nums S)).map (fun r => xs ++ r))) (fun vs _ _ => match vs with | .string S => S.size | _ => 0)
  case atStart => exact ⟨s, 0, 0, none, [], rfl, rfl, by omega, Lib.hid ⟨ownI_nil _ _, Below.refl _ _, by cases pointsL (nums s) <;> rfl⟩⟩
  case round =>
    obtain ⟨S, q, pc, P, xs, rfl, rfl, hq, H⟩ := hrel
    rcases Nat.eq_zero_or_pos S.size with h0 | h0
    · have h1 : ¬ ((0 : Int) < (S.size : Int)) := by omega
      have HN := Lib.hid (show nums S = [] from List.eq_nil_of_length_eq_zero (by rw [nums_length]; exact h0))
      clear h0
      go_wp2
      go_ret2
      refine ⟨H.out.2.1, .inr ⟨P, q, pc, xs, rfl, ?_, H.out.1⟩⟩
      rw [H.out.2.2, HN.out, pointsL_nil]
      simp
    · have hne : nums S ≠ [] := fun e => by have := nums_length S; rw [e] at this; simp at this; omega
      have hgb := getI_bounds hne
      have hgp := pointsL_cons hne
      have hbk := get_back hne (nums_byte S)
      have his := getI_is (nums S)
      rw [nums_length] at hgb
      have HG := Lib.hid fun w => refGet_any S w (by unfold maxLen; omega)
      obtain ⟨g1, hg1⟩ : ∃ g, g = (getI (nums S)).1 := ⟨_, rfl⟩
      obtain ⟨g2, hg2⟩ : ∃ g, g = (getI (nums S)).2 := ⟨_, rfl⟩
      rw [← hg2] at hgb
      rw [← hg1, ← hg2] at HG hgp hbk
      rw [← hg1] at his
      obtain ⟨m, hm⟩ := Int.eq_ofNat_of_zero_le (show 0 ≤ g2 by omega)
      subst hm
      clear hg1 hg2
      have HP := Lib.hid fun w => refPut_is g1 w his
      have hcm := str_cmp (putI g1) (S.extract 0 m) (putI_byte g1 his) (nums_extract S m)
      have hms : m ≤ S.size := by omega
      have hm1 : 1 ≤ m := by omega
      have h1 : ((0 : Int) < (S.size : Int)) := by omega
      have HM := Lib.hid (And.intro hms (And.intro hm1 hq))
      have hms' : (m : Int) ≤ (S.size : Int) := by omega
      have hm0 : (0 : Int) ≤ (m : Int) := by omega
      by_cases hz : (m : Int) = szI g1
      · rw [if_pos hz] at hgp
        rw [decide_eq_true (by simpa using hbk.2 hz)] at hcm
        have HGP := Lib.hid hgp
        clear hz hgp hbk his hgb
        go_wp2_with (go_at_call 26; (with_reducible refine (HG.out _).mono ?_); rintro e w1 ⟨rfl, hb1⟩; have HB1 := Lib.hid hb1; clear hb1)
        clear hq hne h1 hms hm1 HG
        go_region_held_law (fun _ => True) (trivial) ((go_at_call 41; refine (HP.out _).mono ?_; rintro e w2 ⟨rfl, hb2⟩))
        all_goals
          have hb1 := HB1.out
          have hq := HM.out.2.2
          have hb3 : Below wr.heap.size wr w2 := (hb1.trans ((Below.refl _ _).drew.mono (Nat.le_refl _) |>.mono hb1.size)).trans (hb2.mono hb1.size)
          obtain ⟨P', pc', w3, ha, how, hbl, hkp⟩ := appI_at (W := w) (w := w2.alloc (.cells #[.int .i64 g1] 3)) (own_alloc (own_kept H.out.1 hb3) _) (RowI.new .i64 w2 [g1] 3) (fun e => by cases e) (by omega) (by simp) ((H.out.2.1.trans (hb3.mono H.out.2.1.size)).alloc (Nat.le_trans H.out.2.1.size hb3.size) _)
          have HA := Lib.hid ha
          have HW := Lib.hid (And.intro how (And.intro hbl hkp))
          clear ha how hbl hkp
          go_wp2_with (at_builtin; refine wpList_append_run rfl _ _ 27 rfl rfl _ _ _ _ rfl rfl HA.out ?_)
          have hsz : (S.extract m S.size).size = S.size - m := by rw [ByteArray.size_extract]; omega
          have hmm := HM.out
          refine ⟨⟨S.extract m S.size, q + 1, pc', P', xs ++ [g1], rfl, rfl, by omega, Lib.hid ⟨HW.out.1, HW.out.2.1, ?_⟩⟩, by show (S.extract m S.size).size < S.size; omega⟩
          rw [H.out.2.2, HGP.out, nums_drop, show ((m : Int)).toNat = m by simp]
          cases pointsL ((nums S).drop m) with
          | none => rfl
          | some r => simp
      · rw [if_neg hz] at hgp
        rw [decide_eq_false (by simpa using fun h => hz (hbk.1 h))] at hcm
        have HGP := Lib.hid hgp
        clear hz hgp hbk his hgb
        go_wp2_with (go_at_call 26; (with_reducible refine (HG.out _).mono ?_); rintro e w1 ⟨rfl, hb1⟩; have HB1 := Lib.hid hb1; clear hb1)
        clear hq hne h1 hms hm1 HG
        go_region_held_law (fun _ => True) (trivial) ((go_at_call 41; refine (HP.out _).mono ?_; rintro e w2 ⟨rfl, hb2⟩))
        all_goals
          have hb1 := HB1.out
          go_wp2
          go_ret2
          exact ⟨(H.out.2.1.trans (hb1.mono H.out.2.1.size)).trans (((Below.refl w1.heap.size w1).drew.trans hb2).mono (Nat.le_trans H.out.2.1.size hb1.size)), .inl ⟨rfl, by rw [H.out.2.2, HGP.out]; rfl⟩⟩
end Go.Proofs.Ytegcebgoiocakaa
/- The document's tokens in a row that grows. -/
namespace Go.Proofs.Ytegcebgoiocakaa
open Go Go.RowKit
set_option linter.unusedVariables false
set_option maxRecDepth 20000

theorem tokL_ok {l r : List Int} {t : TokL} (h : tokL l = some (t, r)) : TokOk t := by
  rcases l with _ | ⟨x, l⟩
  · cases h
  unfold tokL at h
  dsimp only at h
  unfold TokOk
  split at h
  · rename_i hx
    injection h with h; injection h with h _; subst h
    refine .inr (.inr ⟨rfl, ?_⟩)
    simp only [tokS]; omega
  split at h
  · injection h with h; injection h with h _; subst h; exact .inr (.inl rfl)
  split at h
  · injection h with h; injection h with h _; subst h; exact .inr (.inl rfl)
  split at h
  · injection h with h; injection h with h _; subst h; exact .inr (.inl rfl)
  split at h
  · exact .inr (.inl (braceL_kind h))
  split at h
  · injection h with h; injection h with h _; subst h; exact .inl rfl
  split at h
  · obtain ⟨⟨a, b⟩, h1, h⟩ := Option.map_eq_some_iff.1 h
    injection h with h _; subst h; exact .inl rfl
  split at h
  · rcases l with _ | ⟨e, l⟩
    · cases h
    · obtain ⟨p, _, h⟩ := Option.map_eq_some_iff.1 h
      injection h with h _; subst h; exact .inl rfl
  split at h
  · cases h
  · injection h with h; injection h with h _; subst h; exact .inl rfl
/-- A token as it lies there. -/
structure TV where
  t : TokL
  A : Option Addr
  m : Nat
  c : Nat
def TV.cells (x : TV) : List Value := tokC5 x.t x.A x.m x.c
def cellsT5 (xs : List TV) : List Value := xs.flatMap TV.cells
theorem cellsT5_length (xs : List TV) : (cellsT5 xs).length = xs.length * 5 := by
  induction xs with
  | nil => rfl
  | cons p s ih =>
    show (p.cells ++ cellsT5 s).length = _
    rw [List.length_append, ih, List.length_cons, show p.cells.length = 5 from rfl]
    omega
theorem cellsT5_at : ∀ (xs : List TV) (j : Nat) (x : TV), xs[j]? = some x → ∀ i v, x.cells[i]? = some v → (cellsT5 xs)[j * 5 + i]? = some v
  | [], j, x, h, _, _, _ => by simp at h
  | p :: s, 0, x, h, i, v, hv => by
    simp only [List.getElem?_cons_zero, Option.some.injEq] at h
    subst h
    have hi : i < 5 := (List.getElem?_eq_some_iff.1 hv).1
    show (p.cells ++ cellsT5 s)[0 * 5 + i]? = _
    rw [Nat.zero_mul, Nat.zero_add, List.getElem?_append_left (show i < p.cells.length from hi)]
    exact hv
  | p :: s, j + 1, x, h, i, v, hv => by
    have ih := cellsT5_at s j x (by simpa using h) i v hv
    show (p.cells ++ cellsT5 s)[(j + 1) * 5 + i]? = _
    rw [List.getElem?_append_right (by show 5 ≤ _; omega), show (j + 1) * 5 + i - p.cells.length = j * 5 + i by show _ - 5 = _; omega]
    exact ih
theorem TV.cells_one (x : TV) : ∀ u ∈ x.cells, u.oneCell' = true := by
  intro u hu
  simp only [TV.cells, tokC5, List.mem_cons, List.not_mem_nil, or_false] at hu
  rcases hu with rfl | rfl | rfl | rfl | rfl <;> rfl
theorem info_tok : (Try.prog.info? 71).map (fun i => (i.zero, i.size, i.bytes)) = some (some (.agg #[.int .i64 0, .int .i64 0, .slice none 0 0, .int .i64 0, .int .i64 0]), 5, 56) := by kernel_rfl
/-- Tokens so far: a row that the call owns, and their sets. -/
def ToksG (B : Nat) (w : World) (P : Option Addr) (q pc : Nat) (xs : List TV) : Prop :=
  w.ownsRow B 71 5 (.slice P q pc) q (cellsT5 xs) ∧ ∀ x ∈ xs, RowF (fun b => B ≤ b ∧ (Value.slice P q pc).ownBlock ≠ some b) w x.A x.m x.t.set
section
variable {B q pc : Nat} {w w' : World} {P : Option Addr} {xs : List TV} {x : TV}
theorem ToksG.start (B : Nat) (w : World) : ToksG B w none 0 0 [] := ⟨World.ownsRow_nil _ _ _ _, fun x hx => by cases hx⟩
theorem ToksG.below (h : ToksG B w P q pc xs) (hb : Below w.heap.size w w') : ToksG B w' P q pc xs :=
  ⟨row_keep h.1 fun k hk _ => hb.block k hk, fun x hx => (h.2 x hx).below hb⟩
theorem ToksG.len (h : ToksG B w P q pc xs) : xs.length = q := by have := h.1.1; rw [cellsT5_length] at this; omega
/-- One more. -/
theorem ToksG.push (h : ToksG B w P q pc xs) {d : Nat} (hd : w.heap[d]? = some (.cells x.cells.toArray 71 (0, 0))) (hx : RowF (fun b => B ≤ b ∧ (Value.slice P q pc).ownBlock ≠ some b) w x.A x.m x.t.set) (hq : q ≤ 100000) (hb : B ≤ w.heap.size) :
    ∃ P' pc' w', (Builtin.append_ #[69, 69] 69 #[.slice P q pc, .slice (some ⟨d, 0, none⟩) 1 1]).run Try.prog w = .ok (.slice P' (q + 1) pc') w' ∧ ToksG B w' P' (q + 1) pc' (xs ++ [x]) ∧ Below B w w' := by
  obtain ⟨i0, hi, hz0, hz1, hz2⟩ := info_parts info_tok
  have hcells : ∀ j u, x.cells[j]? = some u → w.cell? ((⟨d, 0, none⟩ : Addr).add j) = some u := by
    intro j u hu
    rw [show (⟨d, 0, none⟩ : Addr).add j = ⟨d, 0 + j, none⟩ by unfold Addr.add; split <;> simp_all, cell_of_row w d (0 + j) _ 71 (0, 0) hd, Nat.zero_add]
    simpa using hu
  obtain ⟨V', w', h1, h2, h3, _, h4⟩ := run_append_own_at (P := Try.prog) w B 69 69 71 i0 _ 5 56 Try.underlying69 hi hz0 hz1 hz2 rfl (by decide) _ q _ h.1 ⟨d, 0, none⟩ 1 1 x.cells rfl hcells x.cells_one (by unfold maxLen; omega) (by omega) hb
  have hb' : Below B w w' := (Below.refl _ _).grown h3 hb (by intro k hk; exact (row_lt h.1 hk).1)
  have key : ∀ b, (B ≤ b ∧ (Value.slice P q pc).ownBlock ≠ some b) → b < w.heap.size → (B ≤ b ∧ V'.ownBlock ≠ some b) ∧ w'.heap[b]? = w.heap[b]? := by
    intro b hF hlt
    refine ⟨⟨hF.1, fun e => ?_⟩, h3.block b hlt fun e => hF.2 e.symm⟩
    rcases h4 with h4 | h4
    · exact hF.2 (h4 ▸ e)
    · rw [h4] at e
      injection e with e
      omega
  have e : cellsT5 xs ++ x.cells = cellsT5 (xs ++ [x]) := by simp [cellsT5]
  rw [e] at h2
  have hN : ∀ y ∈ xs ++ [x], RowF (fun b => B ≤ b ∧ V'.ownBlock ≠ some b) w' y.A y.m y.t.set := fun y hy => by
    rcases List.mem_append.1 hy with hy | hy
    · exact (h.2 y hy).move h3.size key
    · rw [List.mem_singleton] at hy
      subst hy
      exact hx.move h3.size key
  rcases h2.2 with ⟨rfl, h0⟩ | ⟨b, cap, cu, rfl, _⟩
  · omega
  · exact ⟨_, _, w', h1, ⟨h2, hN⟩, hb'⟩
/-- Tokens to be read. -/
theorem ToksG.toks (h : ToksG B w P q pc xs) : ToksAt (fun b => B ≤ b ∧ b < w.heap.size) w P q (xs.map TV.t) ∧ q ≤ pc := by
  have hl := h.len
  have hcap : q ≤ pc := by
    rcases h.1.2 with ⟨e, h0⟩ | ⟨g, cap, cur, e, _, _, hnc, _⟩
    · omega
    · injection e with _ _ e3; omega
  refine ⟨⟨by rw [List.length_map, hl], fun h0 => ?_⟩, hcap⟩
  rcases h.1.2 with ⟨e, h0'⟩ | ⟨g, cap, cur, e, hB, hg, hnc, hcm, hcs, ht⟩
  · omega
  · injection e with e1 _ e3
    subst e1; subst e3
    refine ⟨g, 0, rfl, (Array.getElem?_eq_some_iff.1 hg).1, fun j t htj => ?_⟩
    rw [List.getElem?_map] at htj
    obtain ⟨x, hx, rfl⟩ := Option.map_eq_some_iff.1 htj
    have hj : j < xs.length := (List.getElem?_eq_some_iff.1 hx).1
    refine ⟨x.A, x.m, x.c, fun i v hv => ?_, (h.2 x (List.mem_of_getElem? hx)).1, fun b o hm hA => ?_⟩
    · have hi : i < 5 := (List.getElem?_eq_some_iff.1 hv).1
      have := cellsT5_at xs j x hx i v hv
      rw [cell_of_row w g (0 + j * 5 + i) cur 71 (0, 0) hg, ← this, ← ht, List.getElem?_take_of_lt (by omega), Array.getElem?_toList, Nat.zero_add]
    · obtain ⟨b', o', hA', hlt, _⟩ := (h.2 x (List.mem_of_getElem? hx)).1.2 hm
      rw [hA] at hA'
      injection hA' with hA'
      injection hA' with e1 _
      subst e1
      exact ⟨((h.2 x (List.mem_of_getElem? hx)).2 b o hm hA).1, hlt⟩
end
theorem int_elem9 : Try.prog.elem 27 = 3 := by kernel_rfl
theorem int_size9 (w : World) : (sizeOf 3).run Try.prog w = .ok 1 w := by kernel_rfl
theorem int_slice9 : Try.prog.underlying 27 = some (.slice (Try.prog.elem 27)) := by rw [int_elem9]; exact Try.underlying27
/-- rs[n:], of a slice of numbers at whatever address. -/
theorem cutI_from (A : Option Addr) (n c l : Nat) (hl : l ≤ n) :
    ∃ A', (∀ w : World, (Instr.slice 27 (.slice A n c) (some (.int .i64 (l : Int))) none none).run Try.prog w = .ok (.slice A' (n - l) (c - l)) w) ∧
      (∀ (w : World) (xs : List Int), RowI .i64 w A n xs → n ≤ c → RowI .i64 w A' (n - l) (xs.drop l)) := by
  refine ⟨if c = l then A else A.map (·.add (l * 1)), fun w => ?_, fun w xs h hnc => ?_⟩
  · have hr := run_slice_l (P := Try.prog) (w := w) (t := 27) (a := A) (len := n) (cap := c) (ht := int_slice9) (kl := .i64) (l := (l : Int)) (h0 := by omega) (h1 := by omega)
    rw [hr, int_elem9, int_size9]
    simp [Result.andThen, sliced]
  · refine ⟨by rw [List.length_drop, h.1], fun h0 => ?_⟩
    obtain ⟨b, o, hA, hlt, hc⟩ := h.2 (by omega)
    rw [if_neg (by omega), hA]
    refine ⟨b, o + l, by simp [Addr.add], hlt, fun j hj => ?_⟩
    rw [Nat.add_assoc, hc (l + j) (by omega)]
    simp [List.getD, List.getElem?_drop]
end Go.Proofs.Ytegcebgoiocakaa
/- A text's tree. -/
namespace Go.Proofs.Ytegcebgoiocakaa
open Go Go.RowKit

/-- A text's tree. -/
def parseT (s : ByteArray) : Option Wood := (pointsL (nums s)).bind treeL
end Go.Proofs.Ytegcebgoiocakaa
