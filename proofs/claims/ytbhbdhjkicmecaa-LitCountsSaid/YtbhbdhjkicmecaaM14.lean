/- There and back; the octets of many code points. -/
import Derived.Test.YtbhbdhjkicmecaaM05
import Derived.Test.YtbhbdhjkicmecaaM13
import Derived.Deep.RegionHeldLaw
import Derived.BigQuiet
namespace Go.Proofs.Ytbhbdhjkicmecaa
open Go Go.RowKit
set_option linter.unusedVariables false

theorem valI_put {s : Int} (h : isI s = true) : valI (putI s) = s := by
  have h0 := isI_cases h
  unfold putI
  (repeat' split) <;> simp only [valI, vtailI] <;> unfold vheadI <;> (repeat' split) <;> omega
/-- There and back it is itself, whatever stands behind. -/
theorem get_put {s : Int} (h : isI s = true) (rest : List Int) : getI (putI s ++ rest) = (s, ((putI s).length : Int)) := by
  cases hp : putI s with
  | nil => unfold putI at hp; (repeat' split at hp) <;> cases hp
  | cons x t =>
    have hf := putI_form h hp
    rw [List.cons_append, get_same x _ (putI_byte s h x (by rw [hp]; simp)).1, rgetF_one, hf.1]
    have ht : (x :: (t ++ rest)).take ((t.length : Int) + 1).toNat = putI s := by
      rw [hp, show ((t.length : Int) + 1).toNat = t.length + 1 by omega, List.take_succ_cons, List.take_left]
    have hok : okI (x :: (t ++ rest)) ((t.length : Int) + 1).toNat = true := by
      unfold okI
      rw [ht, valI_put h, h, decide_eq_true rfl, decide_eq_true (by simp)]
      rfl
    rw [if_pos ⟨hok, by omega⟩, ht, valI_put h]
    simp
theorem putI_len (r : Int) : 1 ≤ (putI r).length ∧ (putI r).length ≤ 4 := by unfold putI; (repeat' split) <;> simp

theorem getI_bounds {l : List Int} (h : l ≠ []) : 1 ≤ (getI l).2 ∧ (getI l).2 ≤ l.length := by
  cases l with
  | nil => exact absurd rfl h
  | cons x t =>
    simp only [getI, List.length_cons]
    have := lenI_or x
    (repeat' split) <;> simp <;> omega
theorem getI_is (l : List Int) : isI (getI l).1 = true := by
  cases l with
  | nil => decide
  | cons x t =>
    simp only [getI]
    split
    · decide
    · split
      · rename_i h1 h2
        exact szI_pos_is h2.2 (by have := lenI_or x; omega)
      · decide

/-- The octets of many code points, one behind the other. -/
def putAll : List Int → List Int
  | [] => []
  | c :: cs => putI c ++ putAll cs
theorem putAll_snoc : ∀ (cs : List Int) (c : Int), putAll (cs ++ [c]) = putAll cs ++ putI c
  | [], c => by simp [putAll]
  | d :: cs, c => by simp only [List.cons_append, putAll, putAll_snoc cs c, List.append_assoc]
theorem putAll_append : ∀ (ds bs : List Int), putAll (ds ++ bs) = putAll ds ++ putAll bs
  | [], _ => rfl
  | d :: ds, bs => by simp only [List.cons_append, putAll, putAll_append ds bs, List.append_assoc]
theorem putAll_len : ∀ cs : List Int, cs.length ≤ (putAll cs).length ∧ (putAll cs).length ≤ 4 * cs.length
  | [] => by simp [putAll]
  | c :: cs => by
    have h := putI_len c
    have h2 := putAll_len cs
    simp only [putAll, List.length_append, List.length_cons]
    omega
theorem putAll_byte : ∀ cs : List Int, (∀ c ∈ cs, isI c = true) → ∀ x ∈ putAll cs, 0 ≤ x ∧ x < 256
  | [], _, x, hx => by simp [putAll] at hx
  | c :: cs, h, x, hx => by
    rw [putAll, List.mem_append] at hx
    rcases hx with hx | hx
    · exact putI_byte c (h c (by simp)) x hx
    · exact putAll_byte cs (fun d hd => h d (List.mem_cons_of_mem _ hd)) x hx

end Go.Proofs.Ytbhbdhjkicmecaa
/- A text's code points. -/
namespace Go.Proofs.Ytbhbdhjkicmecaa
open Go Go.RowKit
set_option linter.unusedVariables false
set_option maxRecDepth 20000

/-- Octets as code points; none: some are no code point's. -/
def ptsL : Nat → List Int → Option (List Int)
  | _, [] => some []
  | 0, _ :: _ => none
  | f + 1, x :: l => if (getI (x :: l)).2 = szI (getI (x :: l)).1 then (ptsL f ((x :: l).drop (getI (x :: l)).2.toNat)).map fun r => (getI (x :: l)).1 :: r else none
theorem ptsL_fuel : ∀ (f : Nat) (l : List Int), l.length ≤ f → ptsL f l = ptsL l.length l
  | 0, [], _ => rfl
  | 0, _ :: _, h => by simp at h
  | f + 1, [], _ => rfl
  | f + 1, x :: l, h => by
    rw [List.length_cons, ptsL, ptsL]
    have hb := getI_bounds (l := x :: l) (by simp)
    have hd : ((x :: l).drop (getI (x :: l)).2.toNat).length ≤ l.length := by
      rw [List.length_drop, List.length_cons]; omega
    rw [List.length_cons] at h
    rw [ptsL_fuel f _ (by omega), ptsL_fuel l.length _ hd]
def pointsL (l : List Int) : Option (List Int) := ptsL l.length l
theorem pointsL_nil : pointsL [] = some [] := rfl
theorem pointsL_cons {l : List Int} (h : l ≠ []) : pointsL l = if (getI l).2 = szI (getI l).1 then (pointsL (l.drop (getI l).2.toNat)).map fun r => (getI l).1 :: r else none := by
  rcases l with _ | ⟨x, l⟩
  · exact absurd rfl h
  · have hb := getI_bounds (l := x :: l) (by simp)
    have hd : ((x :: l).drop (getI (x :: l)).2.toNat).length ≤ l.length := by
      rw [List.length_drop, List.length_cons]; omega
    unfold pointsL
    rw [List.length_cons, ptsL, ptsL_fuel _ _ hd]
theorem ptsL_is : ∀ (f : Nat) (l xs : List Int), ptsL f l = some xs → ∀ x ∈ xs, isI x = true
  | _, [], xs, h, x, hx => by
    rw [ptsL] at h
    · injection h with h; subst h; simp at hx
  | 0, _ :: _, xs, h, x, hx => by cases h
  | f + 1, y :: l, xs, h, x, hx => by
    rw [ptsL] at h
    split at h
    · obtain ⟨r, hr, rfl⟩ := Option.map_eq_some_iff.1 h
      rcases List.mem_cons.1 hx with rfl | hx
      · exact getI_is _
      · exact ptsL_is f _ r hr x hx
    · cases h
theorem pointsL_is {l xs : List Int} (h : pointsL l = some xs) : ∀ x ∈ xs, 0 ≤ x ∧ x ≤ 1114111 := fun x hx => isI_cases (ptsL_is _ _ _ h x hx)
theorem pointsL_len : ∀ (N : Nat) (l xs : List Int), l.length ≤ N → pointsL l = some xs → xs.length ≤ l.length
  | N, [], xs, _, h => by
    rw [pointsL_nil] at h; injection h with h; subst h; simp
  | 0, _ :: _, _, hN, _ => by simp at hN
  | N + 1, x :: l, xs, hN, h => by
    have hb := getI_bounds (l := x :: l) (by simp)
    rw [pointsL_cons (by simp)] at h
    split at h
    · obtain ⟨r, hr, rfl⟩ := Option.map_eq_some_iff.1 h
      rw [List.length_cons] at hN
      have h2 : ((x :: l).drop (getI (x :: l)).2.toNat).length + 1 ≤ (x :: l).length := by rw [List.length_drop, List.length_cons]; omega
      have := pointsL_len N _ r (by rw [List.length_cons] at h2; omega) hr
      rw [List.length_cons]; omega
    · cases h

/-- What decode answers. -/
def DecV (s : ByteArray) (w : World) (e : Ending) (w' : World) : Prop :=
  Below w.heap.size w w' ∧ ((e = .returned (.tuple #[.slice none 0 0, .bool false]) ∧ pointsL (nums s) = none) ∨
  ∃ P q pc xs, e = .returned (.tuple #[.slice P q pc, .bool true]) ∧ pointsL (nums s) = some xs ∧ w'.ownsRow w.heap.size 3 1 (.slice P q pc) q (xs.map (.int .i64)))
end Go.Proofs.Ytbhbdhjkicmecaa
/- The document's Get, of whatever text. -/
namespace Go.Proofs.Ytbhbdhjkicmecaa
open Go Go.RowKit

/-- The document's Get, of whatever text. -/
theorem refGet_any (s : ByteArray) (w : World) (hm : s.size ≤ maxLen) :
    Calls Try.prog 19 #[.string s] w fun e w' => e = .returned (.tuple #[.int .i64 (getI (nums s)).1, .int .i64 (getI (nums s)).2]) ∧ Below w.heap.size w w' := by
  have hl := nums_length s
  rcases Nat.eq_zero_or_pos s.size with h0 | h0
  · have : nums s = [] := List.eq_nil_of_length_eq_zero (by omega)
    rw [this]
    exact refGet_nil s w h0
  · have hb := nums_byte s
    have h := refGet_some s w h0 hm
    cases hq : nums s with
    | nil => rw [hq] at hl; simp at hl; omega
    | cons x t =>
      rw [hq] at h hb
      rw [get_same x t (hb x (by simp)).1]
      exact h

end Go.Proofs.Ytbhbdhjkicmecaa
/- The document's points. -/
namespace Go.Proofs.Ytbhbdhjkicmecaa
open Go Go.RowKit
set_option linter.unusedVariables false
set_option maxRecDepth 20000

theorem rgetF_back (l : List Int) : ∀ (f n : Nat), rgetF l f n = (65533, 1) ∨ putI (rgetF l f n).1 = l.take (rgetF l f n).2.toNat
  | 0, n => .inl rfl
  | f + 1, n => by
    unfold rgetF
    by_cases h : okI l n = true
    · rw [if_pos h]
      right
      unfold okI at h
      rw [Bool.and_eq_true, decide_eq_true_iff] at h
      simpa using h.2
    · rw [if_neg h]
      exact rgetF_back l f (n + 1)
/-- A code point put is the octets that it was got of, just where it has as many. -/
theorem get_back {l : List Int} (hl : l ≠ []) (hb : ∀ x ∈ l, 0 ≤ x ∧ x < 256) : (putI (getI l).1 = l.take (getI l).2.toNat) ↔ (getI l).2 = szI (getI l).1 := by
  have hbd := getI_bounds hl
  have his := getI_is l
  rcases l with _ | ⟨x, t⟩
  · exact absurd rfl hl
  have hs := get_same x t (hb x (by simp)).1
  have hsz := szI_len his
  constructor
  · intro h
    have := congrArg List.length h
    rw [List.length_take] at this
    omega
  · intro h
    rcases rgetF_back (x :: t) 4 1 with h1 | h1
    · rw [hs, h1] at h
      exact absurd h (by decide)
    · rw [hs]; exact h1
theorem nums_drop (s : ByteArray) (k : Nat) : nums (s.extract k s.size) = (nums s).drop k := by
  unfold nums
  rw [← List.map_drop]
  congr 1
  rw [ByteArray.data_extract, Array.toList_extract, List.extract_eq_take_drop]
  exact List.take_of_length_le (by rw [List.length_drop]; exact Nat.le_refl _)
set_option maxHeartbeats 4000000 in
theorem rpoints_any (s : ByteArray) (w : World) (hs : s.size ≤ 200) :
    Calls Try.prog 10 #[.string s] w (DecV s w) := by
  go_enter Try.func10, Try.ntmps10
  go_wp2_with fail
  go_loopw [0, 4] (fun vs vo wr => ∃ (S : ByteArray) (q pc : Nat) (P : Option Addr) (xs : List Int), vs = .string S ∧ vo = .slice P q pc ∧ q + S.size ≤ 200 ∧
    Hid (wr.ownsRow w.heap.size 3 1 (.slice P q pc) q (xs.map (.int .i64)) ∧ Below w.heap.size w wr ∧ pointsL (nums s) = (pointsL (nums S)).map (fun r => xs ++ r))) (fun vs _ _ => match vs with | .string S => S.size | _ => 0)
  case atStart => exact ⟨s, 0, 0, none, [], rfl, rfl, by omega, Lib.hid ⟨ownI_nil _ _, Below.refl _ _, by cases pointsL (nums s) <;> rfl⟩⟩
  case round =>
    obtain ⟨S, q, pc, P, xs, rfl, rfl, hq, H⟩ := hrel
    rcases Nat.eq_zero_or_pos S.size with h0 | h0
    · have h1 : ¬ ((0 : Int) < (S.size : Int)) := by omega
      have HN := Lib.hid (show nums S = [] from List.eq_nil_of_length_eq_zero (by rw [nums_length]; exact h0))
      clear h0
      go_wp2
      go_ret2
      refine ⟨H.out.2.1, .inr ⟨P, q, pc, xs, rfl, ?_, H.out.1⟩⟩
      rw [H.out.2.2, HN.out, pointsL_nil]
      simp
    · have hne : nums S ≠ [] := fun e => by have := nums_length S; rw [e] at this; simp at this; omega
      have hgb := getI_bounds hne
      have hgp := pointsL_cons hne
      have hbk := get_back hne (nums_byte S)
      have his := getI_is (nums S)
      rw [nums_length] at hgb
      have HG := Lib.hid fun w => refGet_any S w (by unfold maxLen; omega)
      obtain ⟨g1, hg1⟩ : ∃ g, g = (getI (nums S)).1 := ⟨_, rfl⟩
      obtain ⟨g2, hg2⟩ : ∃ g, g = (getI (nums S)).2 := ⟨_, rfl⟩
      rw [← hg2] at hgb
      rw [← hg1, ← hg2] at HG hgp hbk
      rw [← hg1] at his
      obtain ⟨m, hm⟩ := Int.eq_ofNat_of_zero_le (show 0 ≤ g2 by omega)
      subst hm
      clear hg1 hg2
      have HP := Lib.hid fun w => refPut_is g1 w his
      have hcm := str_cmp (putI g1) (S.extract 0 m) (putI_byte g1 his) (nums_extract S m)
      have hms : m ≤ S.size := by omega
      have hm1 : 1 ≤ m := by omega
      have h1 : ((0 : Int) < (S.size : Int)) := by omega
      have HM := Lib.hid (And.intro hms (And.intro hm1 hq))
      have hms' : (m : Int) ≤ (S.size : Int) := by omega
      have hm0 : (0 : Int) ≤ (m : Int) := by omega
      by_cases hz : (m : Int) = szI g1
      · rw [if_pos hz] at hgp
        rw [decide_eq_true (by simpa using hbk.2 hz)] at hcm
        have HGP := Lib.hid hgp
        clear hz hgp hbk his hgb
        go_wp2_with (go_at_call 19; (with_reducible refine (HG.out _).mono ?_); rintro e w1 ⟨rfl, hb1⟩; have HB1 := Lib.hid hb1; clear hb1)
        clear hq hne h1 hms hm1 HG
        go_region_held_law (fun _ => True) (trivial) ((go_at_call 20; refine (HP.out _).mono ?_; rintro e w2 ⟨rfl, hb2⟩))
        all_goals
          have hb1 := HB1.out
          have hq := HM.out.2.2
          have hb3 : Below wr.heap.size wr w2 := (hb1.trans ((Below.refl _ _).drew.mono (Nat.le_refl _) |>.mono hb1.size)).trans (hb2.mono hb1.size)
          obtain ⟨P', pc', w3, ha, how, hbl, hkp⟩ := appI_at (W := w) (w := w2.alloc (.cells #[.int .i64 g1] 3)) (own_alloc (own_kept H.out.1 hb3) _) (RowI.new .i64 w2 [g1] 3) (fun e => by cases e) (by omega) (by simp) ((H.out.2.1.trans (hb3.mono H.out.2.1.size)).alloc (Nat.le_trans H.out.2.1.size hb3.size) _)
          have HA := Lib.hid ha
          have HW := Lib.hid (And.intro how (And.intro hbl hkp))
          clear ha how hbl hkp
          go_wp2_with (at_builtin; refine wpList_append_run rfl _ _ 39 rfl rfl _ _ _ _ rfl rfl HA.out ?_)
          have hsz : (S.extract m S.size).size = S.size - m := by rw [ByteArray.size_extract]; omega
          have hmm := HM.out
          refine ⟨⟨S.extract m S.size, q + 1, pc', P', xs ++ [g1], rfl, rfl, by omega, Lib.hid ⟨HW.out.1, HW.out.2.1, ?_⟩⟩, by show (S.extract m S.size).size < S.size; omega⟩
          rw [H.out.2.2, HGP.out, nums_drop, show ((m : Int)).toNat = m by simp]
          cases pointsL ((nums S).drop m) with
          | none => rfl
          | some r => simp
      · rw [if_neg hz] at hgp
        rw [decide_eq_false (by simpa using fun h => hz (hbk.1 h))] at hcm
        have HGP := Lib.hid hgp
        clear hz hgp hbk his hgb
        go_wp2_with (go_at_call 19; (with_reducible refine (HG.out _).mono ?_); rintro e w1 ⟨rfl, hb1⟩; have HB1 := Lib.hid hb1; clear hb1)
        clear hq hne h1 hms hm1 HG
        go_region_held_law (fun _ => True) (trivial) ((go_at_call 20; refine (HP.out _).mono ?_; rintro e w2 ⟨rfl, hb2⟩))
        all_goals
          have hb1 := HB1.out
          go_wp2
          go_ret2
          exact ⟨(H.out.2.1.trans (hb1.mono H.out.2.1.size)).trans (((Below.refl w1.heap.size w1).drew.trans hb2).mono (Nat.le_trans H.out.2.1.size hb1.size)), .inl ⟨rfl, by rw [H.out.2.2, HGP.out]; rfl⟩⟩
end Go.Proofs.Ytbhbdhjkicmecaa
