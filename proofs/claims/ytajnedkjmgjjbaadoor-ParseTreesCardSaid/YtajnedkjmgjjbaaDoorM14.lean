/- What Get of package code gives is what the document's Get gives: numbers alone. -/
import Derived.Test.YtajnedkjmgjjbaaDoorM02
import Derived.Test.YtajnedkjmgjjbaaDoorM04
import Derived.Test.YtajnedkjmgjjbaaDoorM13
import Derived.Lib.SliceRun
namespace Go.Proofs.YtajnedkjmgjjbaaDoor
open Go Go.RowKit

theorem szI_len {r : Int} (h : isI r = true) : szI r = (putI r).length := by
  unfold szI putI
  rw [h]
  simp only [Bool.true_eq_false, if_false]
  (repeat' split) <;> rfl
/-- The first octet tells how many there are; the others stand in their range. -/
theorem putI_form {r : Int} (h : isI r = true) {x : Int} {t : List Int} (e : putI r = x :: t) : lenI x = (t.length : Int) + 1 ∧ ∀ c ∈ t, 128 ≤ c ∧ c < 192 := by
  have h0 := isI_cases h
  unfold putI at e
  (repeat' split at e) <;> injection e with e1 e2 <;> subst e1 <;> subst e2 <;> (refine ⟨?_, ?_⟩)
  · unfold lenI; simp; omega
  · simp
  · unfold lenI; simp; omega
  · intro c hc; simp at hc; omega
  · unfold lenI; simp; omega
  · intro c hc; simp at hc; omega
  · unfold lenI; simp; omega
  · intro c hc; simp at hc; omega

theorem okI_len {x : Int} {t : List Int} {n : Nat} (h : okI (x :: t) n = true) (hn : 1 ≤ n) : lenI x = n := by
  unfold okI at h
  simp only [Bool.and_eq_true, decide_eq_true_eq] at h
  obtain ⟨⟨h1, h2⟩, h3⟩ := h
  obtain ⟨m, rfl⟩ : ∃ m, n = m + 1 := ⟨n - 1, by omega⟩
  rw [List.take_succ_cons] at h2 h3
  have := (putI_form h2 h3).1
  simp at h1
  rw [List.length_take] at this
  omega

/-- Of the tries one alone can do: the one that the first octet tells. -/
theorem rgetF_one {x : Int} {t : List Int} : rgetF (x :: t) 4 1 = if okI (x :: t) (lenI x).toNat = true ∧ 1 ≤ lenI x then (valI ((x :: t).take (lenI x).toNat), lenI x) else (65533, 1) := by
  have no : ∀ n : Nat, 1 ≤ n → lenI x ≠ n → okI (x :: t) n = false := fun n hn h => by
    cases hq : okI (x :: t) n with
    | false => rfl
    | true => exact absurd (okI_len hq hn) h
  unfold rgetF rgetF rgetF rgetF rgetF
  simp only [Nat.reduceAdd]
  rcases lenI_or x with h | h | h | h | h
  · rw [no 1 (by omega) (by omega), no 2 (by omega) (by omega), no 3 (by omega) (by omega), no 4 (by omega) (by omega), if_neg (show ¬ (okI (x :: t) (lenI x).toNat = true ∧ 1 ≤ lenI x) by omega)]
    rfl
  · rw [no 2 (by omega) (by omega), no 3 (by omega) (by omega), no 4 (by omega) (by omega), h]
    cases hq : okI (x :: t) 1 <;> simp [hq]
  · rw [no 1 (by omega) (by omega), no 3 (by omega) (by omega), no 4 (by omega) (by omega), h]
    cases hq : okI (x :: t) 2 <;> simp [hq]
  · rw [no 1 (by omega) (by omega), no 2 (by omega) (by omega), no 4 (by omega) (by omega), h]
    cases hq : okI (x :: t) 3 <;> simp [hq]
  · rw [no 1 (by omega) (by omega), no 2 (by omega) (by omega), no 3 (by omega) (by omega), h]
    cases hq : okI (x :: t) 4 <;> simp [hq]

theorem gat_conts : ∀ (r : Int) (t : List Int), (∀ c ∈ t, 128 ≤ c ∧ c < 192) → gat r t = (vtailI r t, true)
  | _, [], _ => rfl
  | r, c :: t, h => by
    have hc := h c (by simp)
    unfold gat vtailI
    rw [if_pos hc, show (c + 128) % 256 = c - 128 by omega]
    exact gat_conts _ t fun d hd => h d (List.mem_cons_of_mem _ hd)
theorem gat_not : ∀ (r : Int) (t : List Int), ¬ (∀ c ∈ t, 128 ≤ c ∧ c < 192) → (gat r t).2 = false
  | _, [], h => absurd (by simp) h
  | r, c :: t, h => by
    unfold gat
    split
    · rename_i hc
      exact gat_not _ t fun hh => h fun d hd => by
        rcases List.mem_cons.1 hd with rfl | hd
        · exact hc
        · exact hh d hd
    · rfl

theorem head_v {x : Int} (h0 : 0 ≤ x) (h : 1 ≤ lenI x) : headI (lenI x) x = vheadI x := by
  unfold lenI at h
  unfold headI vheadI lenI
  (repeat' split at h) <;> (repeat' split) <;> omega

theorem back2 {x b : Int} (hb : 128 ≤ b ∧ b < 192) (hs : szI ((x - 192) * 64 + (b - 128)) = 2) : putI ((x - 192) * 64 + (b - 128)) = [x, b] := by
  unfold szI at hs
  unfold putI
  (repeat' split at hs) <;> first | omega | skip
  rw [if_neg (by omega), if_pos (by omega)]
  congr 1
  · omega
  · congr 1; omega
theorem back3 {x b c : Int} (hb : 128 ≤ b ∧ b < 192) (hc : 128 ≤ c ∧ c < 192) (hs : szI (((x - 224) * 64 + (b - 128)) * 64 + (c - 128)) = 3) : putI (((x - 224) * 64 + (b - 128)) * 64 + (c - 128)) = [x, b, c] := by
  unfold szI at hs
  unfold putI
  (repeat' split at hs) <;> first | omega | skip
  rw [if_neg (by omega), if_neg (by omega), if_pos (by omega)]
  congr 1
  · omega
  · congr 1
    · omega
    · congr 1; omega
theorem back4 {x b c d : Int} (hb : 128 ≤ b ∧ b < 192) (hc : 128 ≤ c ∧ c < 192) (hd : 128 ≤ d ∧ d < 192) (hs : szI ((((x - 240) * 64 + (b - 128)) * 64 + (c - 128)) * 64 + (d - 128)) = 4) : putI ((((x - 240) * 64 + (b - 128)) * 64 + (c - 128)) * 64 + (d - 128)) = [x, b, c, d] := by
  unfold szI at hs
  unfold putI
  (repeat' split at hs) <;> first | omega | skip
  rw [if_neg (by omega), if_neg (by omega), if_neg (by omega)]
  congr 1
  · omega
  · congr 1
    · omega
    · congr 1
      · omega
      · congr 1; omega

theorem lenI_range (x : Int) : (lenI x = 2 → 192 ≤ x ∧ x < 224) ∧ (lenI x = 3 → 224 ≤ x ∧ x < 240) ∧ (lenI x = 4 → 240 ≤ x ∧ x < 248) ∧ (lenI x = 1 → x < 128) := by
  unfold lenI; (repeat' split) <;> omega
theorem szI_pos_is {r n : Int} (h : szI r = n) (hn : 1 ≤ n) : isI r = true := by
  cases hq : isI r with
  | true => rfl
  | false => unfold szI at h; rw [hq] at h; simp at h; omega

/-- .. whatever octets. -/
theorem get_same (x : Int) (t : List Int) (hx : 0 ≤ x) : getI (x :: t) = rgetF (x :: t) 4 1 := by
  rw [rgetF_one]
  have hr := lenI_range x
  simp only [getI]
  by_cases hf : lenI x = 0 ∨ (t.length : Int) + 1 < lenI x
  · rw [if_pos hf, if_neg]
    rintro ⟨h1, h2⟩
    unfold okI at h1
    simp only [Bool.and_eq_true, decide_eq_true_eq, List.length_cons] at h1
    omega
  rw [if_neg hf]
  obtain ⟨N, hN⟩ : ∃ N : Nat, lenI x = ((N + 1 : Nat) : Int) := ⟨(lenI x).toNat - 1, by have := lenI_or x; omega⟩
  have hh := head_v hx (by omega)
  rw [hN] at hf hh ⊢
  rw [hh, Int.toNat_natCast, Nat.add_sub_cancel, List.take_succ_cons]
  have hlen : (t.take N).length = N := by rw [List.length_take]; omega
  have hok : okI (x :: t) (N + 1) = (isI (valI (x :: t.take N)) && decide (putI (valI (x :: t.take N)) = x :: t.take N)) := by
    unfold okI
    rw [decide_eq_true (by simp; omega), Bool.true_and, List.take_succ_cons]
  rw [hok]
  generalize t.take N = u at *
  have hval : valI (x :: u) = vtailI (vheadI x) u := rfl
  rw [hval]
  by_cases hc : ∀ c ∈ u, 128 ≤ c ∧ c < 192
  · rw [gat_conts _ _ hc]
    simp only [true_and]
    obtain ⟨v, hv⟩ : ∃ v, v = vtailI (vheadI x) u := ⟨_, rfl⟩
    rw [← hv]
    have key : szI v = ((N + 1 : Nat) : Int) ↔ ((isI v && decide (putI v = x :: u)) = true ∧ 1 ≤ ((N + 1 : Nat) : Int)) := by
      constructor
      · intro hs
        refine ⟨?_, by omega⟩
        have hi := szI_pos_is hs (by omega)
        rw [hi, Bool.true_and, decide_eq_true_iff]
        have hor := lenI_or x
        rcases u with _ | ⟨b, _ | ⟨c, _ | ⟨d, _ | ⟨e, u⟩⟩⟩⟩
        · have hx1 := hr.2.2.2 (by simp at hlen; omega)
          have : v = x := by rw [hv]; unfold vtailI vheadI; (repeat' split) <;> omega
          rw [this]; unfold putI; rw [if_pos hx1]
        · have hx2 := hr.1 (by simp at hlen; omega)
          have hb := hc b (by simp)
          have : v = (x - 192) * 64 + (b - 128) := by rw [hv]; simp only [vtailI]; unfold vheadI; (repeat' split) <;> omega
          subst this
          exact back2 hb (by simp at hlen; omega)
        · have hx2 := hr.2.1 (by simp at hlen; omega)
          have hb := hc b (by simp)
          have hc' := hc c (by simp)
          have : v = ((x - 224) * 64 + (b - 128)) * 64 + (c - 128) := by rw [hv]; simp only [vtailI]; unfold vheadI; (repeat' split) <;> omega
          subst this
          exact back3 hb hc' (by simp at hlen; omega)
        · have hx2 := hr.2.2.1 (by simp at hlen; omega)
          have hb := hc b (by simp)
          have hc' := hc c (by simp)
          have hd := hc d (by simp)
          have : v = (((x - 240) * 64 + (b - 128)) * 64 + (c - 128)) * 64 + (d - 128) := by rw [hv]; simp only [vtailI]; unfold vheadI; (repeat' split) <;> omega
          subst this
          exact back4 hb hc' hd (by simp at hlen; omega)
        · simp at hlen; omega
      · rintro ⟨h, _⟩
        simp only [Bool.and_eq_true, decide_eq_true_eq] at h
        rw [szI_len h.1, h.2, List.length_cons, hlen]
    by_cases hs : szI v = ((N + 1 : Nat) : Int)
    · rw [if_pos hs, if_pos (key.1 hs)]
    · rw [if_neg hs, if_neg (fun h => hs (key.2 h))]
  · rw [gat_not _ _ hc, if_neg (by simp), if_neg]
    rintro ⟨h, _⟩
    simp only [Bool.and_eq_true, decide_eq_true_eq] at h
    exact hc (putI_form h.1 h.2).2
end Go.Proofs.YtajnedkjmgjjbaaDoor
/- There and back; the octets of many code points. -/
namespace Go.Proofs.YtajnedkjmgjjbaaDoor
open Go Go.RowKit
set_option linter.unusedVariables false

theorem valI_put {s : Int} (h : isI s = true) : valI (putI s) = s := by
  have h0 := isI_cases h
  unfold putI
  (repeat' split) <;> simp only [valI, vtailI] <;> unfold vheadI <;> (repeat' split) <;> omega
/-- There and back it is itself, whatever stands behind. -/
theorem get_put {s : Int} (h : isI s = true) (rest : List Int) : getI (putI s ++ rest) = (s, ((putI s).length : Int)) := by
  cases hp : putI s with
  | nil => unfold putI at hp; (repeat' split at hp) <;> cases hp
  | cons x t =>
    have hf := putI_form h hp
    rw [List.cons_append, get_same x _ (putI_byte s h x (by rw [hp]; simp)).1, rgetF_one, hf.1]
    have ht : (x :: (t ++ rest)).take ((t.length : Int) + 1).toNat = putI s := by
      rw [hp, show ((t.length : Int) + 1).toNat = t.length + 1 by omega, List.take_succ_cons, List.take_left]
    have hok : okI (x :: (t ++ rest)) ((t.length : Int) + 1).toNat = true := by
      unfold okI
      rw [ht, valI_put h, h, decide_eq_true rfl, decide_eq_true (by simp)]
      rfl
    rw [if_pos ⟨hok, by omega⟩, ht, valI_put h]
    simp
theorem putI_len (r : Int) : 1 ≤ (putI r).length ∧ (putI r).length ≤ 4 := by unfold putI; (repeat' split) <;> simp

theorem getI_bounds {l : List Int} (h : l ≠ []) : 1 ≤ (getI l).2 ∧ (getI l).2 ≤ l.length := by
  cases l with
  | nil => exact absurd rfl h
  | cons x t =>
    simp only [getI, List.length_cons]
    have := lenI_or x
    (repeat' split) <;> simp <;> omega
theorem getI_is (l : List Int) : isI (getI l).1 = true := by
  cases l with
  | nil => decide
  | cons x t =>
    simp only [getI]
    split
    · decide
    · split
      · rename_i h1 h2
        exact szI_pos_is h2.2 (by have := lenI_or x; omega)
      · decide

/-- The octets of many code points, one behind the other. -/
def putAll : List Int → List Int
  | [] => []
  | c :: cs => putI c ++ putAll cs
theorem putAll_snoc : ∀ (cs : List Int) (c : Int), putAll (cs ++ [c]) = putAll cs ++ putI c
  | [], c => by simp [putAll]
  | d :: cs, c => by simp only [List.cons_append, putAll, putAll_snoc cs c, List.append_assoc]
theorem putAll_append : ∀ (ds bs : List Int), putAll (ds ++ bs) = putAll ds ++ putAll bs
  | [], _ => rfl
  | d :: ds, bs => by simp only [List.cons_append, putAll, putAll_append ds bs, List.append_assoc]
theorem putAll_len : ∀ cs : List Int, cs.length ≤ (putAll cs).length ∧ (putAll cs).length ≤ 4 * cs.length
  | [] => by simp [putAll]
  | c :: cs => by
    have h := putI_len c
    have h2 := putAll_len cs
    simp only [putAll, List.length_append, List.length_cons]
    omega
theorem putAll_byte : ∀ cs : List Int, (∀ c ∈ cs, isI c = true) → ∀ x ∈ putAll cs, 0 ≤ x ∧ x < 256
  | [], _, x, hx => by simp [putAll] at hx
  | c :: cs, h, x, hx => by
    rw [putAll, List.mem_append] at hx
    rcases hx with hx | hx
    · exact putI_byte c (h c (by simp)) x hx
    · exact putAll_byte cs (fun d hd => h d (List.mem_cons_of_mem _ hd)) x hx

end Go.Proofs.YtajnedkjmgjjbaaDoor
/- []byte(s), which is never nil. -/
namespace Go.Proofs.YtajnedkjmgjjbaaDoor
open Go Go.RowKit

/-- []byte(s): never nil. -/
theorem bytes_some (s : ByteArray) (w : World) (hs : s.size ≤ maxLen) : ∃ A c w', (convert 9 39 (.string s)).run Tryd.prog w = .ok (.slice (some A) s.size c) w' ∧ RowI .u8 w' (some A) s.size (nums s) ∧ s.size ≤ c ∧ c ≤ maxLen ∧ Below w.heap.size w w' := by
  refine ⟨_, _, _, run_bytes_of_string w _ _ _ s Tryd.underlying9 Tryd.underlying39 Tryd.underlying5, ⟨nums_length s, fun h0 => ⟨_, _, rfl, ?_, fun j hj => ?_⟩⟩, ?_, ?_, ?_⟩
  · show w.heap.size < (w.heap.push _).size
    rw [Array.size_push]; omega
  · rw [Nat.zero_add]
    refine (World.cell?_alloc_mark w.drew _ _ _ j).trans ?_
    unfold bytesRow
    rw [Array.getElem?_append_left (by rw [Array.size_map]; exact hj), Array.getElem?_map]
    have hj' : j < s.data.size := hj
    have hn : j < (nums s).length := by rw [nums_length]; exact hj
    rw [Array.getElem?_eq_getElem hj']
    have e := nums_get s j hj hn
    rw [List.getD, List.getElem?_eq_getElem hn, Option.getD_some, e]
    rfl
  · exact grownCap_ge w s.size 0 _
  · exact grownCap_le_maxLen w s.size 0 _ hs
  · exact ((Below.refl _ _).drew).alloc (Nat.le_refl _) _
end Go.Proofs.YtajnedkjmgjjbaaDoor
/- A text's code points; the parser's decode. -/
namespace Go.Proofs.YtajnedkjmgjjbaaDoor
open Go Go.RowKit
set_option linter.unusedVariables false
set_option maxRecDepth 20000

/-- Octets as code points; none: some are no code point's. -/
def ptsL : Nat → List Int → Option (List Int)
  | _, [] => some []
  | 0, _ :: _ => none
  | f + 1, x :: l => if (getI (x :: l)).2 = szI (getI (x :: l)).1 then (ptsL f ((x :: l).drop (getI (x :: l)).2.toNat)).map fun r => (getI (x :: l)).1 :: r else none
theorem ptsL_fuel : ∀ (f : Nat) (l : List Int), l.length ≤ f → ptsL f l = ptsL l.length l
  | 0, [], _ => rfl
  | 0, _ :: _, h => by simp at h
  | f + 1, [], _ => rfl
  | f + 1, x :: l, h => by
    rw [List.length_cons, ptsL, ptsL]
    have hb := getI_bounds (l := x :: l) (by simp)
    have hd : ((x :: l).drop (getI (x :: l)).2.toNat).length ≤ l.length := by
      rw [List.length_drop, List.length_cons]; omega
    rw [List.length_cons] at h
    rw [ptsL_fuel f _ (by omega), ptsL_fuel l.length _ hd]
def pointsL (l : List Int) : Option (List Int) := ptsL l.length l
theorem pointsL_nil : pointsL [] = some [] := rfl
theorem pointsL_cons {l : List Int} (h : l ≠ []) : pointsL l = if (getI l).2 = szI (getI l).1 then (pointsL (l.drop (getI l).2.toNat)).map fun r => (getI l).1 :: r else none := by
  rcases l with _ | ⟨x, l⟩
  · exact absurd rfl h
  · have hb := getI_bounds (l := x :: l) (by simp)
    have hd : ((x :: l).drop (getI (x :: l)).2.toNat).length ≤ l.length := by
      rw [List.length_drop, List.length_cons]; omega
    unfold pointsL
    rw [List.length_cons, ptsL, ptsL_fuel _ _ hd]
theorem ptsL_is : ∀ (f : Nat) (l xs : List Int), ptsL f l = some xs → ∀ x ∈ xs, isI x = true
  | _, [], xs, h, x, hx => by
    rw [ptsL] at h
    · injection h with h; subst h; simp at hx
  | 0, _ :: _, xs, h, x, hx => by cases h
  | f + 1, y :: l, xs, h, x, hx => by
    rw [ptsL] at h
    split at h
    · obtain ⟨r, hr, rfl⟩ := Option.map_eq_some_iff.1 h
      rcases List.mem_cons.1 hx with rfl | hx
      · exact getI_is _
      · exact ptsL_is f _ r hr x hx
    · cases h
theorem pointsL_is {l xs : List Int} (h : pointsL l = some xs) : ∀ x ∈ xs, 0 ≤ x ∧ x ≤ 1114111 := fun x hx => isI_cases (ptsL_is _ _ _ h x hx)
theorem pointsL_len : ∀ (N : Nat) (l xs : List Int), l.length ≤ N → pointsL l = some xs → xs.length ≤ l.length
  | N, [], xs, _, h => by
    rw [pointsL_nil] at h; injection h with h; subst h; simp
  | 0, _ :: _, _, hN, _ => by simp at hN
  | N + 1, x :: l, xs, hN, h => by
    have hb := getI_bounds (l := x :: l) (by simp)
    rw [pointsL_cons (by simp)] at h
    split at h
    · obtain ⟨r, hr, rfl⟩ := Option.map_eq_some_iff.1 h
      rw [List.length_cons] at hN
      have h2 : ((x :: l).drop (getI (x :: l)).2.toNat).length + 1 ≤ (x :: l).length := by rw [List.length_drop, List.length_cons]; omega
      have := pointsL_len N _ r (by rw [List.length_cons] at h2; omega) hr
      rw [List.length_cons]; omega
    · cases h

theorem u8_elem9 : Tryd.prog.elem 39 = 5 := by kernel_rfl
theorem u8_size9 (w : World) : (sizeOf 5).run Tryd.prog w = .ok 1 w := by kernel_rfl
theorem u8_slice9 : Tryd.prog.underlying 39 = some (.slice (Tryd.prog.elem 39)) := by rw [u8_elem9]; exact Tryd.underlying39
/-- b[l:], of a slice of octets at whatever address. -/
theorem cut_from (A : Option Addr) (n c l : Nat) (hl : l ≤ n) :
    ∃ A', (∀ w : World, (Instr.slice 39 (.slice A n c) (some (.int .i64 (l : Int))) none none).run Tryd.prog w = .ok (.slice A' (n - l) (c - l)) w) ∧
      (∀ (w : World) (xs : List Int), RowI .u8 w A n xs → n ≤ c → RowI .u8 w A' (n - l) (xs.drop l)) ∧ ∀ B, (∀ a, A = some a → a.block = B) → ∀ a, A' = some a → a.block = B := by
  refine ⟨if c = l then A else A.map (·.add (l * 1)), fun w => ?_, fun w xs h hnc => ?_, fun B hB a ha => ?_⟩
  · have hr := run_slice_l (P := Tryd.prog) (w := w) (t := 39) (a := A) (len := n) (cap := c) (ht := u8_slice9) (kl := .i64) (l := (l : Int)) (h0 := by omega) (h1 := by omega)
    rw [hr, u8_elem9, u8_size9]
    simp [Result.andThen, sliced]
  · refine ⟨by rw [List.length_drop, h.1], fun h0 => ?_⟩
    obtain ⟨b, o, hA, hlt, hc⟩ := h.2 (by omega)
    rw [if_neg (by omega), hA]
    refine ⟨b, o + l, by simp [Addr.add], hlt, fun j hj => ?_⟩
    rw [Nat.add_assoc, hc (l + j) (by omega)]
    simp [List.getD, List.getElem?_drop]
  · split at ha
    · exact hB a ha
    · rcases A with _ | x
      · cases ha
      · have h1 := hB x rfl
        simp at ha
        subst ha
        unfold Addr.add
        split <;> exact h1

/-- What decode answers. -/
def DecV (s : ByteArray) (w : World) (e : Ending) (w' : World) : Prop :=
  Below w.heap.size w w' ∧ ((e = .returned (.tuple #[.slice none 0 0, .bool false]) ∧ pointsL (nums s) = none) ∨
  ∃ P q pc xs, e = .returned (.tuple #[.slice P q pc, .bool true]) ∧ pointsL (nums s) = some xs ∧ w'.ownsRow w.heap.size 3 1 (.slice P q pc) q (xs.map (.int .i64)))
set_option maxHeartbeats 4000000 in
theorem decode_any (s : ByteArray) (w : World) (hs : s.size ≤ 200) :
    Calls Tryd.prog 20 #[.string s] w (DecV s w) := by
  obtain ⟨A0, c0, w0, hcv, hrow, hc1, hc2, hb0⟩ := bytes_some s w (by unfold maxLen; omega)
  have HB := Lib.hid (And.intro hrow (And.intro hc1 (And.intro hc2 hb0)))
  have hby := Lib.hid (nums_byte s)
  clear hrow hc1 hc2 hb0
  go_enter Tryd.func20, Tryd.ntmps20
  go_wp2_with fail
  go_loopw [4, 5] (fun vp vb wr => ∃ (q pc n c : Nat) (P A : Option Addr) (xs lr : List Int), vp = .slice P q pc ∧ vb = .slice A n c ∧ q + n ≤ 200 ∧
    Hid (wr.ownsRow w.heap.size 3 1 (.slice P q pc) q (xs.map (.int .i64)) ∧ Below w.heap.size w wr ∧ RowI .u8 wr A n lr ∧ n ≤ c ∧ c ≤ maxLen ∧ (∀ x ∈ lr, 0 ≤ x ∧ x < 256) ∧ pointsL (nums s) = (pointsL lr).map (fun r => xs ++ r) ∧ (∀ a, A = some a → a.block = A0.block) ∧ (Value.slice P q pc).ownBlock ≠ some A0.block)) (fun _ vb _ => match vb with | .slice _ n _ => n | _ => 0)
  case atStart => exact ⟨0, 0, s.size, c0, none, some A0, [], nums s, rfl, rfl, by omega, Lib.hid ⟨ownI_nil _ _, HB.out.2.2.2, HB.out.1, HB.out.2.1, HB.out.2.2.1, hby.out, by cases pointsL (nums s) <;> rfl, fun a e => by injection e with e; rw [e], by intro e; cases e⟩⟩
  case round =>
    obtain ⟨q, pc, n, c, P, A, xs, lr, rfl, rfl, hqn, H⟩ := hrel
    rcases Nat.eq_zero_or_pos n with h0 | h0
    · subst h0
      go_wp2
      go_ret2
      have hl : lr = [] := List.eq_nil_of_length_eq_zero H.out.2.2.1.1
      refine ⟨H.out.2.1, .inr ⟨P, q, pc, xs, rfl, ?_, H.out.1⟩⟩
      have := H.out.2.2.2.2.2.2.1
      rw [hl, pointsL_nil] at this
      rw [this]
      simp
    · have hne : lr ≠ [] := fun e => by have := H.out.2.2.1.1; rw [e] at this; simp at this; omega
      have hgb := getI_bounds hne
      have hgp := pointsL_cons hne
      rw [H.out.2.2.1.1] at hgb
      have HG := Lib.hid (get_any A n c lr wr H.out.2.2.1 H.out.2.2.2.2.2.1 H.out.2.2.2.1 H.out.2.2.2.2.1 (by omega))
      obtain ⟨g1, hg1⟩ : ∃ g, g = (getI lr).1 := ⟨_, rfl⟩
      obtain ⟨g2, hg2⟩ : ∃ g, g = (getI lr).2 := ⟨_, rfl⟩
      rw [← hg2] at hgb
      rw [← hg1, ← hg2] at HG hgp
      obtain ⟨m, hm⟩ := Int.eq_ofNat_of_zero_le (show 0 ≤ g2 by omega)
      subst hm
      have HSz := Lib.hid fun w => size_any g1 w
      clear hg1 hg2
      by_cases hz : (m : Int) = szI g1
      · rw [if_pos hz] at hgp
        have hneq : ((m : Int) != szI g1) = false := by simpa using hz
        obtain ⟨A', hcut, hrc, hblk⟩ := cut_from A n c m (by omega)
        have HBK := Lib.hid hblk
        have HGP := Lib.hid hgp
        have HRC := Lib.hid hrc
        have hnm : m ≤ n := by omega
        have hm1 : 1 ≤ m := by omega
        have h00 : ((0 : Int) < (n : Int)) := by omega
        clear hz hgp hrc hgb hblk
        go_wp2_with (first
          | (go_at_call 30; (with_reducible refine HG.out.mono ?_); rintro e w1 ⟨rfl, k, rfl⟩; obtain ⟨P', pc', w3, ha, how, hb3, hkp⟩ := appI_at (W := w) (w := (wr.drewN k).alloc (.cells #[.int .i64 g1] 3)) (own_alloc (w := wr.drewN k) H.out.1 _) (RowI.new .i64 (wr.drewN k) [g1] 3) (fun e => by cases e) (by omega) (by simp) ((below_drewN H.out.2.1 k).alloc H.out.2.1.size _); have HA := Lib.hid ha; have HW := Lib.hid (And.intro how (And.intro hb3 hkp)); clear ha how hb3 hkp)
          | (go_at_call 31; (with_reducible refine (HSz.out _).mono ?_); rintro e w2 ⟨rfl, rfl⟩)
          | (at_builtin; refine wpList_append_run rfl _ _ 44 rfl rfl _ _ _ _ rfl rfl HA.out ?_))
        have hA0 : A0.block < wr.heap.size ∧ RowI .u8 w3 A n lr := by
          obtain ⟨b, o, hA, hlt, _⟩ := H.out.2.2.1.2 h0
          have hb : b = A0.block := H.out.2.2.2.2.2.2.2.1 _ hA
          have hk := HW.out.2.2 A0.block (by rw [← hb]; simp; omega) H.out.2.2.2.2.2.2.2.2
          refine ⟨by omega, rowI_keep H.out.2.2.1 fun b' o' hA' hlt' => ?_⟩
          have hb' : b' = A0.block := H.out.2.2.2.2.2.2.2.1 _ hA'
          rw [hb', hk.2]
          exact Below.heap_alloc (wr.drewN k) _ _ (by rw [← hb]; exact hlt)
        refine ⟨⟨q + 1, pc', n - m, c - m, P', A', xs ++ [g1], lr.drop m, rfl, rfl, by omega, Lib.hid ⟨HW.out.1, HW.out.2.1, HRC.out w3 lr hA0.2 H.out.2.2.2.1, by have := H.out.2.2.2.1; omega, Nat.le_trans (Nat.sub_le _ _) H.out.2.2.2.2.1, fun x hx => H.out.2.2.2.2.2.1 x (List.mem_of_mem_drop hx), ?_, HBK.out _ H.out.2.2.2.2.2.2.2.1, (HW.out.2.2 A0.block (by simp; omega) H.out.2.2.2.2.2.2.2.2).1⟩⟩, ?_⟩
        · rw [H.out.2.2.2.2.2.2.1, HGP.out]
          rw [show ((m : Int)).toNat = m by simp]
          cases pointsL (lr.drop m) with
          | none => rfl
          | some r => simp
        · show n - m < n
          omega
      · rw [if_neg hz] at hgp
        have hneq : ((m : Int) != szI g1) = true := by simpa using hz
        have HGP := Lib.hid hgp
        have h00 : ((0 : Int) < (n : Int)) := by omega
        clear hz hgp hgb
        go_wp2_with (first
          | (go_at_call 30; (with_reducible refine HG.out.mono ?_); rintro e w1 ⟨rfl, k, rfl⟩)
          | (go_at_call 31; (with_reducible refine (HSz.out _).mono ?_); rintro e w2 ⟨rfl, rfl⟩))
        go_ret2
        refine ⟨below_drewN H.out.2.1 k, .inl ⟨rfl, ?_⟩⟩
        rw [H.out.2.2.2.2.2.2.1, HGP.out]; rfl
end Go.Proofs.YtajnedkjmgjjbaaDoor
