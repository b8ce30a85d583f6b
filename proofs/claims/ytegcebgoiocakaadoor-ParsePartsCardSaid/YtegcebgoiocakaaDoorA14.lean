/- The contract of the document's own Get. -/
import Derived.Test.YtegcebgoiocakaaDoorA01
import Derived.Test.YtegcebgoiocakaaDoorA04
import Derived.Test.YtegcebgoiocakaaDoorA13
import Derived.Deep.RegionHeld
import Derived.WalkSpells
import Derived.Deep.QuietTactic
import Derived.BigQuiet
namespace Go.Proofs.YtegcebgoiocakaaDoor
open Go Go.RowKit

/-- Do the first n octets be a code point's? -/
def okI (l : List Int) (n : Nat) : Bool := decide (n ≤ l.length) && isI (valI (l.take n)) && decide (putI (valI (l.take n)) = l.take n)
def rgetF (l : List Int) : Nat → Nat → Int × Int
  | 0, _ => (65533, 1)
  | f + 1, n => if okI l n = true then (valI (l.take n), n) else rgetF l f (n + 1)

theorem rgetF_end (l : List Int) : ∀ (f n : Nat), l.length < n → rgetF l f n = (65533, 1)
  | 0, _, _ => rfl
  | f + 1, n, h => by
    unfold rgetF
    have : okI l n = false := by unfold okI; rw [decide_eq_false (by omega)]; rfl
    rw [this]
    simp only [Bool.false_eq_true, if_false]
    exact rgetF_end l f (n + 1) (by omega)
theorem nums_extract (s : ByteArray) (k : Nat) : nums (s.extract 0 k) = (nums s).take k := by
  unfold nums
  rw [← List.map_take]
  congr 1
  simp [ByteArray.data_extract]
theorem putI_byte (r : Int) (h : isI r = true) : ∀ c ∈ putI r, 0 ≤ c ∧ c < 256 := by
  have h0 := isI_cases h
  intro c hc
  unfold putI at hc
  (repeat' split at hc) <;> simp at hc <;> omega
/-- Two strings, as their octets' numbers. -/
theorem str_cmp (x : List Int) (s : ByteArray) (hx : ∀ c ∈ x, 0 ≤ c ∧ c < 256) {y : List Int} (hs : nums s = y) : ((strOfNums x).toList == s.toList) = decide (x = y) := by
  subst hs
  rw [Bool.eq_iff_iff, beq_iff_eq, decide_eq_true_iff, ByteArray.toList_eq, ByteArray.toList_eq]
  constructor
  · intro h
    have e : strOfNums x = s := ByteArray.ext (Array.toList_inj.1 h)
    rw [← e, nums_strOfNums x hx]
  · intro h
    rw [h, strOfNums_nums]


end Go.Proofs.YtegcebgoiocakaaDoor
/- What Get of package code gives is what the document's Get gives: numbers alone. -/
namespace Go.Proofs.YtegcebgoiocakaaDoor
open Go Go.RowKit

theorem szI_len {r : Int} (h : isI r = true) : szI r = (putI r).length := by
  unfold szI putI
  rw [h]
  simp only [Bool.true_eq_false, if_false]
  (repeat' split) <;> rfl
/-- The first octet tells how many there are; the others stand in their range. -/
theorem putI_form {r : Int} (h : isI r = true) {x : Int} {t : List Int} (e : putI r = x :: t) : lenI x = (t.length : Int) + 1 ∧ ∀ c ∈ t, 128 ≤ c ∧ c < 192 := by
  have h0 := isI_cases h
  unfold putI at e
  (repeat' split at e) <;> injection e with e1 e2 <;> subst e1 <;> subst e2 <;> (refine ⟨?_, ?_⟩)
  · unfold lenI; simp; omega
  · simp
  · unfold lenI; simp; omega
  · intro c hc; simp at hc; omega
  · unfold lenI; simp; omega
  · intro c hc; simp at hc; omega
  · unfold lenI; simp; omega
  · intro c hc; simp at hc; omega

theorem okI_len {x : Int} {t : List Int} {n : Nat} (h : okI (x :: t) n = true) (hn : 1 ≤ n) : lenI x = n := by
  unfold okI at h
  simp only [Bool.and_eq_true, decide_eq_true_eq] at h
  obtain ⟨⟨h1, h2⟩, h3⟩ := h
  obtain ⟨m, rfl⟩ : ∃ m, n = m + 1 := ⟨n - 1, by omega⟩
  rw [List.take_succ_cons] at h2 h3
  have := (putI_form h2 h3).1
  simp at h1
  rw [List.length_take] at this
  omega

/-- Of the tries one alone can do: the one that the first octet tells. -/
theorem rgetF_one {x : Int} {t : List Int} : rgetF (x :: t) 4 1 = if okI (x :: t) (lenI x).toNat = true ∧ 1 ≤ lenI x then (valI ((x :: t).take (lenI x).toNat), lenI x) else (65533, 1) := by
  have no : ∀ n : Nat, 1 ≤ n → lenI x ≠ n → okI (x :: t) n = false := fun n hn h => by
    cases hq : okI (x :: t) n with
    | false => rfl
    | true => exact absurd (okI_len hq hn) h
  unfold rgetF rgetF rgetF rgetF rgetF
  simp only [Nat.reduceAdd]
  rcases lenI_or x with h | h | h | h | h
  · rw [no 1 (by omega) (by omega), no 2 (by omega) (by omega), no 3 (by omega) (by omega), no 4 (by omega) (by omega), if_neg (show ¬ (okI (x :: t) (lenI x).toNat = true ∧ 1 ≤ lenI x) by omega)]
    rfl
  · rw [no 2 (by omega) (by omega), no 3 (by omega) (by omega), no 4 (by omega) (by omega), h]
    cases hq : okI (x :: t) 1 <;> simp [hq]
  · rw [no 1 (by omega) (by omega), no 3 (by omega) (by omega), no 4 (by omega) (by omega), h]
    cases hq : okI (x :: t) 2 <;> simp [hq]
  · rw [no 1 (by omega) (by omega), no 2 (by omega) (by omega), no 4 (by omega) (by omega), h]
    cases hq : okI (x :: t) 3 <;> simp [hq]
  · rw [no 1 (by omega) (by omega), no 2 (by omega) (by omega), no 3 (by omega) (by omega), h]
    cases hq : okI (x :: t) 4 <;> simp [hq]

theorem gat_conts : ∀ (r : Int) (t : List Int), (∀ c ∈ t, 128 ≤ c ∧ c < 192) → gat r t = (vtailI r t, true)
  | _, [], _ => rfl
  | r, c :: t, h => by
    have hc := h c (by simp)
    unfold gat vtailI
    rw [if_pos hc, show (c + 128) % 256 = c - 128 by omega]
    exact gat_conts _ t fun d hd => h d (List.mem_cons_of_mem _ hd)
theorem gat_not : ∀ (r : Int) (t : List Int), ¬ (∀ c ∈ t, 128 ≤ c ∧ c < 192) → (gat r t).2 = false
  | _, [], h => absurd (by simp) h
  | r, c :: t, h => by
    unfold gat
    split
    · rename_i hc
      exact gat_not _ t fun hh => h fun d hd => by
        rcases List.mem_cons.1 hd with rfl | hd
        · exact hc
        · exact hh d hd
    · rfl

theorem head_v {x : Int} (h0 : 0 ≤ x) (h : 1 ≤ lenI x) : headI (lenI x) x = vheadI x := by
  unfold lenI at h
  unfold headI vheadI lenI
  (repeat' split at h) <;> (repeat' split) <;> omega

theorem back2 {x b : Int} (hb : 128 ≤ b ∧ b < 192) (hs : szI ((x - 192) * 64 + (b - 128)) = 2) : putI ((x - 192) * 64 + (b - 128)) = [x, b] := by
  unfold szI at hs
  unfold putI
  (repeat' split at hs) <;> first | omega | skip
  rw [if_neg (by omega), if_pos (by omega)]
  congr 1
  · omega
  · congr 1; omega
theorem back3 {x b c : Int} (hb : 128 ≤ b ∧ b < 192) (hc : 128 ≤ c ∧ c < 192) (hs : szI (((x - 224) * 64 + (b - 128)) * 64 + (c - 128)) = 3) : putI (((x - 224) * 64 + (b - 128)) * 64 + (c - 128)) = [x, b, c] := by
  unfold szI at hs
  unfold putI
  (repeat' split at hs) <;> first | omega | skip
  rw [if_neg (by omega), if_neg (by omega), if_pos (by omega)]
  congr 1
  · omega
  · congr 1
    · omega
    · congr 1; omega
theorem back4 {x b c d : Int} (hb : 128 ≤ b ∧ b < 192) (hc : 128 ≤ c ∧ c < 192) (hd : 128 ≤ d ∧ d < 192) (hs : szI ((((x - 240) * 64 + (b - 128)) * 64 + (c - 128)) * 64 + (d - 128)) = 4) : putI ((((x - 240) * 64 + (b - 128)) * 64 + (c - 128)) * 64 + (d - 128)) = [x, b, c, d] := by
  unfold szI at hs
  unfold putI
  (repeat' split at hs) <;> first | omega | skip
  rw [if_neg (by omega), if_neg (by omega), if_neg (by omega)]
  congr 1
  · omega
  · congr 1
    · omega
    · congr 1
      · omega
      · congr 1; omega

theorem lenI_range (x : Int) : (lenI x = 2 → 192 ≤ x ∧ x < 224) ∧ (lenI x = 3 → 224 ≤ x ∧ x < 240) ∧ (lenI x = 4 → 240 ≤ x ∧ x < 248) ∧ (lenI x = 1 → x < 128) := by
  unfold lenI; (repeat' split) <;> omega
theorem szI_pos_is {r n : Int} (h : szI r = n) (hn : 1 ≤ n) : isI r = true := by
  cases hq : isI r with
  | true => rfl
  | false => unfold szI at h; rw [hq] at h; simp at h; omega

/-- .. whatever octets. -/
theorem get_same (x : Int) (t : List Int) (hx : 0 ≤ x) : getI (x :: t) = rgetF (x :: t) 4 1 := by
  rw [rgetF_one]
  have hr := lenI_range x
  simp only [getI]
  by_cases hf : lenI x = 0 ∨ (t.length : Int) + 1 < lenI x
  · rw [if_pos hf, if_neg]
    rintro ⟨h1, h2⟩
    unfold okI at h1
    simp only [Bool.and_eq_true, decide_eq_true_eq, List.length_cons] at h1
    omega
  rw [if_neg hf]
  obtain ⟨N, hN⟩ : ∃ N : Nat, lenI x = ((N + 1 : Nat) : Int) := ⟨(lenI x).toNat - 1, by have := lenI_or x; omega⟩
  have hh := head_v hx (by omega)
  rw [hN] at hf hh ⊢
  rw [hh, Int.toNat_natCast, Nat.add_sub_cancel, List.take_succ_cons]
  have hlen : (t.take N).length = N := by rw [List.length_take]; omega
  have hok : okI (x :: t) (N + 1) = (isI (valI (x :: t.take N)) && decide (putI (valI (x :: t.take N)) = x :: t.take N)) := by
    unfold okI
    rw [decide_eq_true (by simp; omega), Bool.true_and, List.take_succ_cons]
  rw [hok]
  generalize t.take N = u at *
  have hval : valI (x :: u) = vtailI (vheadI x) u := rfl
  rw [hval]
  by_cases hc : ∀ c ∈ u, 128 ≤ c ∧ c < 192
  · rw [gat_conts _ _ hc]
    simp only [true_and]
    obtain ⟨v, hv⟩ : ∃ v, v = vtailI (vheadI x) u := ⟨_, rfl⟩
    rw [← hv]
    have key : szI v = ((N + 1 : Nat) : Int) ↔ ((isI v && decide (putI v = x :: u)) = true ∧ 1 ≤ ((N + 1 : Nat) : Int)) := by
      constructor
      · intro hs
        refine ⟨?_, by omega⟩
        have hi := szI_pos_is hs (by omega)
        rw [hi, Bool.true_and, decide_eq_true_iff]
        have hor := lenI_or x
        rcases u with _ | ⟨b, _ | ⟨c, _ | ⟨d, _ | ⟨e, u⟩⟩⟩⟩
        · have hx1 := hr.2.2.2 (by simp at hlen; omega)
          have : v = x := by rw [hv]; unfold vtailI vheadI; (repeat' split) <;> omega
          rw [this]; unfold putI; rw [if_pos hx1]
        · have hx2 := hr.1 (by simp at hlen; omega)
          have hb := hc b (by simp)
          have : v = (x - 192) * 64 + (b - 128) := by rw [hv]; simp only [vtailI]; unfold vheadI; (repeat' split) <;> omega
          subst this
          exact back2 hb (by simp at hlen; omega)
        · have hx2 := hr.2.1 (by simp at hlen; omega)
          have hb := hc b (by simp)
          have hc' := hc c (by simp)
          have : v = ((x - 224) * 64 + (b - 128)) * 64 + (c - 128) := by rw [hv]; simp only [vtailI]; unfold vheadI; (repeat' split) <;> omega
          subst this
          exact back3 hb hc' (by simp at hlen; omega)
        · have hx2 := hr.2.2.1 (by simp at hlen; omega)
          have hb := hc b (by simp)
          have hc' := hc c (by simp)
          have hd := hc d (by simp)
          have : v = (((x - 240) * 64 + (b - 128)) * 64 + (c - 128)) * 64 + (d - 128) := by rw [hv]; simp only [vtailI]; unfold vheadI; (repeat' split) <;> omega
          subst this
          exact back4 hb hc' hd (by simp at hlen; omega)
        · simp at hlen; omega
      · rintro ⟨h, _⟩
        simp only [Bool.and_eq_true, decide_eq_true_eq] at h
        rw [szI_len h.1, h.2, List.length_cons, hlen]
    by_cases hs : szI v = ((N + 1 : Nat) : Int)
    · rw [if_pos hs, if_pos (key.1 hs)]
    · rw [if_neg hs, if_neg (fun h => hs (key.2 h))]
  · rw [gat_not _ _ hc, if_neg (by simp), if_neg]
    rintro ⟨h, _⟩
    simp only [Bool.and_eq_true, decide_eq_true_eq] at h
    exact hc (putI_form h.1 h.2).2
end Go.Proofs.YtegcebgoiocakaaDoor
/- There and back; the octets of many code points. -/
namespace Go.Proofs.YtegcebgoiocakaaDoor
open Go Go.RowKit
set_option linter.unusedVariables false

theorem valI_put {s : Int} (h : isI s = true) : valI (putI s) = s := by
  have h0 := isI_cases h
  unfold putI
  (repeat' split) <;> simp only [valI, vtailI] <;> unfold vheadI <;> (repeat' split) <;> omega
/-- There and back it is itself, whatever stands behind. -/
theorem get_put {s : Int} (h : isI s = true) (rest : List Int) : getI (putI s ++ rest) = (s, ((putI s).length : Int)) := by
  cases hp : putI s with
  | nil => unfold putI at hp; (repeat' split at hp) <;> cases hp
  | cons x t =>
    have hf := putI_form h hp
    rw [List.cons_append, get_same x _ (putI_byte s h x (by rw [hp]; simp)).1, rgetF_one, hf.1]
    have ht : (x :: (t ++ rest)).take ((t.length : Int) + 1).toNat = putI s := by
      rw [hp, show ((t.length : Int) + 1).toNat = t.length + 1 by omega, List.take_succ_cons, List.take_left]
    have hok : okI (x :: (t ++ rest)) ((t.length : Int) + 1).toNat = true := by
      unfold okI
      rw [ht, valI_put h, h, decide_eq_true rfl, decide_eq_true (by simp)]
      rfl
    rw [if_pos ⟨hok, by omega⟩, ht, valI_put h]
    simp
theorem putI_len (r : Int) : 1 ≤ (putI r).length ∧ (putI r).length ≤ 4 := by unfold putI; (repeat' split) <;> simp

theorem getI_bounds {l : List Int} (h : l ≠ []) : 1 ≤ (getI l).2 ∧ (getI l).2 ≤ l.length := by
  cases l with
  | nil => exact absurd rfl h
  | cons x t =>
    simp only [getI, List.length_cons]
    have := lenI_or x
    (repeat' split) <;> simp <;> omega
theorem getI_is (l : List Int) : isI (getI l).1 = true := by
  cases l with
  | nil => decide
  | cons x t =>
    simp only [getI]
    split
    · decide
    · split
      · rename_i h1 h2
        exact szI_pos_is h2.2 (by have := lenI_or x; omega)
      · decide

/-- The octets of many code points, one behind the other. -/
def putAll : List Int → List Int
  | [] => []
  | c :: cs => putI c ++ putAll cs
theorem putAll_snoc : ∀ (cs : List Int) (c : Int), putAll (cs ++ [c]) = putAll cs ++ putI c
  | [], c => by simp [putAll]
  | d :: cs, c => by simp only [List.cons_append, putAll, putAll_snoc cs c, List.append_assoc]
theorem putAll_append : ∀ (ds bs : List Int), putAll (ds ++ bs) = putAll ds ++ putAll bs
  | [], _ => rfl
  | d :: ds, bs => by simp only [List.cons_append, putAll, putAll_append ds bs, List.append_assoc]
theorem putAll_len : ∀ cs : List Int, cs.length ≤ (putAll cs).length ∧ (putAll cs).length ≤ 4 * cs.length
  | [] => by simp [putAll]
  | c :: cs => by
    have h := putI_len c
    have h2 := putAll_len cs
    simp only [putAll, List.length_append, List.length_cons]
    omega
theorem putAll_byte : ∀ cs : List Int, (∀ c ∈ cs, isI c = true) → ∀ x ∈ putAll cs, 0 ≤ x ∧ x < 256
  | [], _, x, hx => by simp [putAll] at hx
  | c :: cs, h, x, hx => by
    rw [putAll, List.mem_append] at hx
    rcases hx with hx | hx
    · exact putI_byte c (h c (by simp)) x hx
    · exact putAll_byte cs (fun d hd => h d (List.mem_cons_of_mem _ hd)) x hx

end Go.Proofs.YtegcebgoiocakaaDoor
/- A text's code points. -/
namespace Go.Proofs.YtegcebgoiocakaaDoor
open Go Go.RowKit
set_option linter.unusedVariables false
set_option maxRecDepth 20000

/-- Octets as code points; none: some are no code point's. -/
def ptsL : Nat → List Int → Option (List Int)
  | _, [] => some []
  | 0, _ :: _ => none
  | f + 1, x :: l => if (getI (x :: l)).2 = szI (getI (x :: l)).1 then (ptsL f ((x :: l).drop (getI (x :: l)).2.toNat)).map fun r => (getI (x :: l)).1 :: r else none
theorem ptsL_fuel : ∀ (f : Nat) (l : List Int), l.length ≤ f → ptsL f l = ptsL l.length l
  | 0, [], _ => rfl
  | 0, _ :: _, h => by simp at h
  | f + 1, [], _ => rfl
  | f + 1, x :: l, h => by
    rw [List.length_cons, ptsL, ptsL]
    have hb := getI_bounds (l := x :: l) (by simp)
    have hd : ((x :: l).drop (getI (x :: l)).2.toNat).length ≤ l.length := by
      rw [List.length_drop, List.length_cons]; omega
    rw [List.length_cons] at h
    rw [ptsL_fuel f _ (by omega), ptsL_fuel l.length _ hd]
def pointsL (l : List Int) : Option (List Int) := ptsL l.length l
theorem pointsL_nil : pointsL [] = some [] := rfl
theorem pointsL_cons {l : List Int} (h : l ≠ []) : pointsL l = if (getI l).2 = szI (getI l).1 then (pointsL (l.drop (getI l).2.toNat)).map fun r => (getI l).1 :: r else none := by
  rcases l with _ | ⟨x, l⟩
  · exact absurd rfl h
  · have hb := getI_bounds (l := x :: l) (by simp)
    have hd : ((x :: l).drop (getI (x :: l)).2.toNat).length ≤ l.length := by
      rw [List.length_drop, List.length_cons]; omega
    unfold pointsL
    rw [List.length_cons, ptsL, ptsL_fuel _ _ hd]
theorem ptsL_is : ∀ (f : Nat) (l xs : List Int), ptsL f l = some xs → ∀ x ∈ xs, isI x = true
  | _, [], xs, h, x, hx => by
    rw [ptsL] at h
    · injection h with h; subst h; simp at hx
  | 0, _ :: _, xs, h, x, hx => by cases h
  | f + 1, y :: l, xs, h, x, hx => by
    rw [ptsL] at h
    split at h
    · obtain ⟨r, hr, rfl⟩ := Option.map_eq_some_iff.1 h
      rcases List.mem_cons.1 hx with rfl | hx
      · exact getI_is _
      · exact ptsL_is f _ r hr x hx
    · cases h
theorem pointsL_is {l xs : List Int} (h : pointsL l = some xs) : ∀ x ∈ xs, 0 ≤ x ∧ x ≤ 1114111 := fun x hx => isI_cases (ptsL_is _ _ _ h x hx)
theorem pointsL_len : ∀ (N : Nat) (l xs : List Int), l.length ≤ N → pointsL l = some xs → xs.length ≤ l.length
  | N, [], xs, _, h => by
    rw [pointsL_nil] at h; injection h with h; subst h; simp
  | 0, _ :: _, _, hN, _ => by simp at hN
  | N + 1, x :: l, xs, hN, h => by
    have hb := getI_bounds (l := x :: l) (by simp)
    rw [pointsL_cons (by simp)] at h
    split at h
    · obtain ⟨r, hr, rfl⟩ := Option.map_eq_some_iff.1 h
      rw [List.length_cons] at hN
      have h2 : ((x :: l).drop (getI (x :: l)).2.toNat).length + 1 ≤ (x :: l).length := by rw [List.length_drop, List.length_cons]; omega
      have := pointsL_len N _ r (by rw [List.length_cons] at h2; omega) hr
      rw [List.length_cons]; omega
    · cases h

/-- What decode answers. -/
def DecV (s : ByteArray) (w : World) (e : Ending) (w' : World) : Prop :=
  Below w.heap.size w w' ∧ ((e = .returned (.tuple #[.slice none 0 0, .bool false]) ∧ pointsL (nums s) = none) ∨
  ∃ P q pc xs, e = .returned (.tuple #[.slice P q pc, .bool true]) ∧ pointsL (nums s) = some xs ∧ w'.ownsRow w.heap.size 3 1 (.slice P q pc) q (xs.map (.int .i64)))
end Go.Proofs.YtegcebgoiocakaaDoor
