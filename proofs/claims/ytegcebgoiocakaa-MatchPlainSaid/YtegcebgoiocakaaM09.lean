/- The contract of the document's own Get. -/
import Derived.Test.YtegcebgoiocakaaM01
import Derived.Test.YtegcebgoiocakaaM02
import Derived.Test.YtegcebgoiocakaaM03
import Derived.Test.YtegcebgoiocakaaM08
import Derived.Deep.RegionHeld
import Derived.WalkSpells
import Derived.Deep.QuietTactic
import Derived.BigQuiet
import Derived.Lib.MinMax
namespace Go.Proofs.Ytegcebgoiocakaa
open Go Go.RowKit

/-- Do the first n octets be a code point's? -/
def okI (l : List Int) (n : Nat) : Bool := decide (n ≤ l.length) && isI (valI (l.take n)) && decide (putI (valI (l.take n)) = l.take n)
def rgetF (l : List Int) : Nat → Nat → Int × Int
  | 0, _ => (65533, 1)
  | f + 1, n => if okI l n = true then (valI (l.take n), n) else rgetF l f (n + 1)

theorem rgetF_end (l : List Int) : ∀ (f n : Nat), l.length < n → rgetF l f n = (65533, 1)
  | 0, _, _ => rfl
  | f + 1, n, h => by
    unfold rgetF
    have : okI l n = false := by unfold okI; rw [decide_eq_false (by omega)]; rfl
    rw [this]
    simp only [Bool.false_eq_true, if_false]
    exact rgetF_end l f (n + 1) (by omega)
theorem nums_extract (s : ByteArray) (k : Nat) : nums (s.extract 0 k) = (nums s).take k := by
  unfold nums
  rw [← List.map_take]
  congr 1
  simp [ByteArray.data_extract]
theorem putI_byte (r : Int) (h : isI r = true) : ∀ c ∈ putI r, 0 ≤ c ∧ c < 256 := by
  have h0 := isI_cases h
  intro c hc
  unfold putI at hc
  (repeat' split at hc) <;> simp at hc <;> omega
/-- Two strings, as their octets' numbers. -/
theorem str_cmp (x : List Int) (s : ByteArray) (hx : ∀ c ∈ x, 0 ≤ c ∧ c < 256) {y : List Int} (hs : nums s = y) : ((strOfNums x).toList == s.toList) = decide (x = y) := by
  subst hs
  rw [Bool.eq_iff_iff, beq_iff_eq, decide_eq_true_iff, ByteArray.toList_eq, ByteArray.toList_eq]
  constructor
  · intro h
    have e : strOfNums x = s := ByteArray.ext (Array.toList_inj.1 h)
    rw [← e, nums_strOfNums x hx]
  · intro h
    rw [h, strOfNums_nums]

theorem refGet_nil (s : ByteArray) (w : World) (h : s.size = 0) : Calls Try.prog 26 #[.string s] w fun e w' => e = .returned (.tuple #[.int .i64 65533, .int .i64 0]) ∧ Below w.heap.size w w' := by
  go_enter Try.func26, Try.ntmps26
  go_wp2
  go_ret2
  exact ⟨rfl, Below.refl _ _⟩

set_option maxHeartbeats 1000000 in
theorem refGet_some (s : ByteArray) (w : World) (h1 : 1 ≤ s.size) (hm : s.size ≤ maxLen) :
    Calls Try.prog 26 #[.string s] w fun e w' => e = .returned (.tuple #[.int .i64 (rgetF (nums s) 4 1).1, .int .i64 (rgetF (nums s) 4 1).2]) ∧ Below w.heap.size w w' := by
  unfold maxLen at hm
  have hz : ((s.size : Int) == 0) = false := by rw [beq_eq_false_iff_ne]; omega
  obtain ⟨G, hG⟩ : ∃ G, G = rgetF (nums s) 4 1 := ⟨_, rfl⟩
  rw [← hG]
  have HG := Lib.hid hG; clear hG
  go_enter Try.func26, Try.ntmps26
  go_wp2
  go_loopw [4] (fun vi wr => ∃ (k : Nat), 1 ≤ k ∧ k ≤ 5 ∧ vi = .int .i64 k ∧ Hid (rgetF (nums s) (5 - k) k = G) ∧ Below w.heap.size w wr) (fun vi _ => 5 - (intOf vi).toNat)
  case atStart => exact ⟨1, by omega, by omega, rfl, Lib.hid HG.out.symm, Below.refl _ _⟩
  case round =>
    obtain ⟨k, hk1, hk5, rfl, HK, hbel⟩ := hrel
    by_cases hk : k ≤ 4
    · by_cases hks : k ≤ s.size
      · have hsz : (s.extract 0 k).size = k := by rw [ByteArray.size_extract]; omega
        have hv := value_any (s.extract 0 k)
        rw [nums_extract] at hv
        have hok : okI (nums s) k = (isI (valI ((nums s).take k)) && decide (putI (valI ((nums s).take k)) = (nums s).take k)) := by
          unfold okI; rw [nums_length, decide_eq_true hks, Bool.true_and]
        have hstep : rgetF (nums s) (5 - k) k = if okI (nums s) k = true then (valI ((nums s).take k), (k : Int)) else rgetF (nums s) (5 - (k + 1)) (k + 1) := by
          rw [show 5 - k = (5 - (k + 1)) + 1 by omega]; rfl
        rw [HK.out, hok] at hstep
        clear hok
        have hcmp : ∀ x : List Int, (∀ c ∈ x, 0 ≤ c ∧ c < 256) → ((strOfNums x).toList == (s.extract 0 k).toList) = decide (x = (nums s).take k) := fun x hx => str_cmp x _ hx (nums_extract s k)
        obtain ⟨v, hv'⟩ : ∃ v, v = valI ((nums s).take k) := ⟨_, rfl⟩
        rw [← hv'] at hv hstep
        have HSZ := Lib.hid hsz; clear hsz
        have HV := Lib.hid hv; clear hv
        have HST := Lib.hid hstep; clear hstep
        have HCM := Lib.hid hcmp; clear hcmp
        clear hv'
        rcases hi : isI v with _ | _
        · have ia := fun w => (refIs_any v w)
          rw [hi] at ia
          have HI := Lib.hid hi; clear hi
          have HIA := Lib.hid ia; clear ia
          go_wp2_with fail
          refine (HV.out _ (by rw [HSZ.out]; omega) (by rw [HSZ.out]; omega)).mono ?_; rintro e w' ⟨rfl, rfl⟩
          go_wp2_with fail
          go_quiet ((go_at_call 40; exact Calls.quiet_of_same ((HIA.out _).mono fun e w' ⟨he, hw⟩ => ⟨he, hw.symm⟩)))
          go_wp2
          refine ⟨⟨k + 1, by omega, by omega, by go_num, Lib.hid ?_, below_drewN hbel nq⟩, by simp [intOf]; omega⟩
          have := HST.out
          rw [HI.out] at this
          simp only [Bool.false_and, Bool.false_eq_true, if_false] at this
          exact this.symm
        · have ia := fun w => (refIs_any v w)
          rw [hi] at ia
          have hp := fun w => refPut_is v w hi
          have hcm := HCM.out (putI v) (putI_byte v hi)
          have HI := Lib.hid hi; clear hi
          have HIA := Lib.hid ia; clear ia
          have HP := Lib.hid hp; clear hp
          by_cases heq : putI v = (nums s).take k
          · rw [decide_eq_true heq] at hcm
            have HGG : Hid (G = (v, (k : Int))) := by
              have := HST.out
              rw [HI.out, decide_eq_true heq] at this
              simp only [Bool.true_and, if_true] at this
              exact this
            clear heq
            go_wp2_with fail
            refine (HV.out _ (by rw [HSZ.out]; omega) (by rw [HSZ.out]; omega)).mono ?_; rintro e w' ⟨rfl, rfl⟩
            go_wp2_with fail
            go_region_held (fun _ => True) (trivial) (first
              | (go_at_call 40; refine (HIA.out _).mono ?_; rintro e w' ⟨rfl, rfl⟩)
              | (go_at_call 41; refine (HP.out _).mono ?_; rintro e w2 ⟨rfl, hb2⟩))
            all_goals
              go_wp2
              go_ret2
              exact ⟨by rw [HGG.out]; rfl, hbel.trans (Below.mono (((Below.refl wr.heap.size wr).drew).trans hb2) hbel.size)⟩
          · rw [decide_eq_false heq] at hcm
            have HGG : Hid (G = rgetF (nums s) (5 - (k + 1)) (k + 1)) := by
              have := HST.out
              rw [HI.out, decide_eq_false heq] at this
              simp only [Bool.true_and, Bool.false_eq_true, if_false] at this
              exact this
            clear heq
            go_wp2_with fail
            refine (HV.out _ (by rw [HSZ.out]; omega) (by rw [HSZ.out]; omega)).mono ?_; rintro e w' ⟨rfl, rfl⟩
            go_wp2_with fail
            go_region_held (fun _ => True) (trivial) (first
              | (go_at_call 40; refine (HIA.out _).mono ?_; rintro e w' ⟨rfl, rfl⟩)
              | (go_at_call 41; refine (HP.out _).mono ?_; rintro e w2 ⟨rfl, hb2⟩))
            all_goals
              go_wp2
              refine ⟨⟨k + 1, by omega, by omega, by go_num, Lib.hid HGG.out.symm, hbel.trans (Below.mono (((Below.refl wr.heap.size wr).drew).trans hb2) hbel.size)⟩, by simp [intOf]; omega⟩
      · have HE : Hid (G = (65533, 1)) := Lib.hid (by rw [← HK.out]; exact rgetF_end _ _ _ (by rw [nums_length]; omega))
        go_wp2
        go_ret2
        exact ⟨by rw [HE.out]; rfl, hbel⟩
    · obtain rfl : k = 5 := by omega
      have HE : Hid (G = (65533, 1)) := Lib.hid (by rw [← HK.out]; rfl)
      go_wp2
      go_ret2
      exact ⟨by rw [HE.out]; rfl, hbel⟩
end Go.Proofs.Ytegcebgoiocakaa
/- What Get of package code gives is what the document's Get gives: numbers alone. -/
namespace Go.Proofs.Ytegcebgoiocakaa
open Go Go.RowKit

theorem szI_len {r : Int} (h : isI r = true) : szI r = (putI r).length := by
  unfold szI putI
  rw [h]
  simp only [Bool.true_eq_false, if_false]
  (repeat' split) <;> rfl
/-- The first octet tells how many there are; the others stand in their range. -/
theorem putI_form {r : Int} (h : isI r = true) {x : Int} {t : List Int} (e : putI r = x :: t) : lenI x = (t.length : Int) + 1 ∧ ∀ c ∈ t, 128 ≤ c ∧ c < 192 := by
  have h0 := isI_cases h
  unfold putI at e
  (repeat' split at e) <;> injection e with e1 e2 <;> subst e1 <;> subst e2 <;> (refine ⟨?_, ?_⟩)
  · unfold lenI; simp; omega
  · simp
  · unfold lenI; simp; omega
  · intro c hc; simp at hc; omega
  · unfold lenI; simp; omega
  · intro c hc; simp at hc; omega
  · unfold lenI; simp; omega
  · intro c hc; simp at hc; omega

theorem okI_len {x : Int} {t : List Int} {n : Nat} (h : okI (x :: t) n = true) (hn : 1 ≤ n) : lenI x = n := by
  unfold okI at h
  simp only [Bool.and_eq_true, decide_eq_true_eq] at h
  obtain ⟨⟨h1, h2⟩, h3⟩ := h
  obtain ⟨m, rfl⟩ : ∃ m, n = m + 1 := ⟨n - 1, by omega⟩
  rw [List.take_succ_cons] at h2 h3
  have := (putI_form h2 h3).1
  simp at h1
  rw [List.length_take] at this
  omega

/-- Of the tries one alone can do: the one that the first octet tells. -/
theorem rgetF_one {x : Int} {t : List Int} : rgetF (x :: t) 4 1 = if okI (x :: t) (lenI x).toNat = true ∧ 1 ≤ lenI x then (valI ((x :: t).take (lenI x).toNat), lenI x) else (65533, 1) := by
  have no : ∀ n : Nat, 1 ≤ n → lenI x ≠ n → okI (x :: t) n = false := fun n hn h => by
    cases hq : okI (x :: t) n with
    | false => rfl
    | true => exact absurd (okI_len hq hn) h
  unfold rgetF rgetF rgetF rgetF rgetF
  simp only [Nat.reduceAdd]
  rcases lenI_or x with h | h | h | h | h
  · rw [no 1 (by omega) (by omega), no 2 (by omega) (by omega), no 3 (by omega) (by omega), no 4 (by omega) (by omega), if_neg (show ¬ (okI (x :: t) (lenI x).toNat = true ∧ 1 ≤ lenI x) by omega)]
    rfl
  · rw [no 2 (by omega) (by omega), no 3 (by omega) (by omega), no 4 (by omega) (by omega), h]
    cases hq : okI (x :: t) 1 <;> simp [hq]
  · rw [no 1 (by omega) (by omega), no 3 (by omega) (by omega), no 4 (by omega) (by omega), h]
    cases hq : okI (x :: t) 2 <;> simp [hq]
  · rw [no 1 (by omega) (by omega), no 2 (by omega) (by omega), no 4 (by omega) (by omega), h]
    cases hq : okI (x :: t) 3 <;> simp [hq]
  · rw [no 1 (by omega) (by omega), no 2 (by omega) (by omega), no 3 (by omega) (by omega), h]
    cases hq : okI (x :: t) 4 <;> simp [hq]

theorem gat_conts : ∀ (r : Int) (t : List Int), (∀ c ∈ t, 128 ≤ c ∧ c < 192) → gat r t = (vtailI r t, true)
  | _, [], _ => rfl
  | r, c :: t, h => by
    have hc := h c (by simp)
    unfold gat vtailI
    rw [if_pos hc, show (c + 128) % 256 = c - 128 by omega]
    exact gat_conts _ t fun d hd => h d (List.mem_cons_of_mem _ hd)
theorem gat_not : ∀ (r : Int) (t : List Int), ¬ (∀ c ∈ t, 128 ≤ c ∧ c < 192) → (gat r t).2 = false
  | _, [], h => absurd (by simp) h
  | r, c :: t, h => by
    unfold gat
    split
    · rename_i hc
      exact gat_not _ t fun hh => h fun d hd => by
        rcases List.mem_cons.1 hd with rfl | hd
        · exact hc
        · exact hh d hd
    · rfl

theorem head_v {x : Int} (h0 : 0 ≤ x) (h : 1 ≤ lenI x) : headI (lenI x) x = vheadI x := by
  unfold lenI at h
  unfold headI vheadI lenI
  (repeat' split at h) <;> (repeat' split) <;> omega

theorem back2 {x b : Int} (hb : 128 ≤ b ∧ b < 192) (hs : szI ((x - 192) * 64 + (b - 128)) = 2) : putI ((x - 192) * 64 + (b - 128)) = [x, b] := by
  unfold szI at hs
  unfold putI
  (repeat' split at hs) <;> first | omega | skip
  rw [if_neg (by omega), if_pos (by omega)]
  congr 1
  · omega
  · congr 1; omega
theorem back3 {x b c : Int} (hb : 128 ≤ b ∧ b < 192) (hc : 128 ≤ c ∧ c < 192) (hs : szI (((x - 224) * 64 + (b - 128)) * 64 + (c - 128)) = 3) : putI (((x - 224) * 64 + (b - 128)) * 64 + (c - 128)) = [x, b, c] := by
  unfold szI at hs
  unfold putI
  (repeat' split at hs) <;> first | omega | skip
  rw [if_neg (by omega), if_neg (by omega), if_pos (by omega)]
  congr 1
  · omega
  · congr 1
    · omega
    · congr 1; omega
theorem back4 {x b c d : Int} (hb : 128 ≤ b ∧ b < 192) (hc : 128 ≤ c ∧ c < 192) (hd : 128 ≤ d ∧ d < 192) (hs : szI ((((x - 240) * 64 + (b - 128)) * 64 + (c - 128)) * 64 + (d - 128)) = 4) : putI ((((x - 240) * 64 + (b - 128)) * 64 + (c - 128)) * 64 + (d - 128)) = [x, b, c, d] := by
  unfold szI at hs
  unfold putI
  (repeat' split at hs) <;> first | omega | skip
  rw [if_neg (by omega), if_neg (by omega), if_neg (by omega)]
  congr 1
  · omega
  · congr 1
    · omega
    · congr 1
      · omega
      · congr 1; omega

theorem lenI_range (x : Int) : (lenI x = 2 → 192 ≤ x ∧ x < 224) ∧ (lenI x = 3 → 224 ≤ x ∧ x < 240) ∧ (lenI x = 4 → 240 ≤ x ∧ x < 248) ∧ (lenI x = 1 → x < 128) := by
  unfold lenI; (repeat' split) <;> omega
theorem szI_pos_is {r n : Int} (h : szI r = n) (hn : 1 ≤ n) : isI r = true := by
  cases hq : isI r with
  | true => rfl
  | false => unfold szI at h; rw [hq] at h; simp at h; omega

/-- .. whatever octets. -/
theorem get_same (x : Int) (t : List Int) (hx : 0 ≤ x) : getI (x :: t) = rgetF (x :: t) 4 1 := by
  rw [rgetF_one]
  have hr := lenI_range x
  simp only [getI]
  by_cases hf : lenI x = 0 ∨ (t.length : Int) + 1 < lenI x
  · rw [if_pos hf, if_neg]
    rintro ⟨h1, h2⟩
    unfold okI at h1
    simp only [Bool.and_eq_true, decide_eq_true_eq, List.length_cons] at h1
    omega
  rw [if_neg hf]
  obtain ⟨N, hN⟩ : ∃ N : Nat, lenI x = ((N + 1 : Nat) : Int) := ⟨(lenI x).toNat - 1, by have := lenI_or x; omega⟩
  have hh := head_v hx (by omega)
  rw [hN] at hf hh ⊢
  rw [hh, Int.toNat_natCast, Nat.add_sub_cancel, List.take_succ_cons]
  have hlen : (t.take N).length = N := by rw [List.length_take]; omega
  have hok : okI (x :: t) (N + 1) = (isI (valI (x :: t.take N)) && decide (putI (valI (x :: t.take N)) = x :: t.take N)) := by
    unfold okI
    rw [decide_eq_true (by simp; omega), Bool.true_and, List.take_succ_cons]
  rw [hok]
  generalize t.take N = u at *
  have hval : valI (x :: u) = vtailI (vheadI x) u := rfl
  rw [hval]
  by_cases hc : ∀ c ∈ u, 128 ≤ c ∧ c < 192
  · rw [gat_conts _ _ hc]
    simp only [true_and]
    obtain ⟨v, hv⟩ : ∃ v, v = vtailI (vheadI x) u := ⟨_, rfl⟩
    rw [← hv]
    have key : szI v = ((N + 1 : Nat) : Int) ↔ ((isI v && decide (putI v = x :: u)) = true ∧ 1 ≤ ((N + 1 : Nat) : Int)) := by
      constructor
      · intro hs
        refine ⟨?_, by omega⟩
        have hi := szI_pos_is hs (by omega)
        rw [hi, Bool.true_and, decide_eq_true_iff]
        have hor := lenI_or x
        rcases u with _ | ⟨b, _ | ⟨c, _ | ⟨d, _ | ⟨e, u⟩⟩⟩⟩
        · have hx1 := hr.2.2.2 (by simp at hlen; omega)
          have : v = x := by rw [hv]; unfold vtailI vheadI; (repeat' split) <;> omega
          rw [this]; unfold putI; rw [if_pos hx1]
        · have hx2 := hr.1 (by simp at hlen; omega)
          have hb := hc b (by simp)
          have : v = (x - 192) * 64 + (b - 128) := by rw [hv]; simp only [vtailI]; unfold vheadI; (repeat' split) <;> omega
          subst this
          exact back2 hb (by simp at hlen; omega)
        · have hx2 := hr.2.1 (by simp at hlen; omega)
          have hb := hc b (by simp)
          have hc' := hc c (by simp)
          have : v = ((x - 224) * 64 + (b - 128)) * 64 + (c - 128) := by rw [hv]; simp only [vtailI]; unfold vheadI; (repeat' split) <;> omega
          subst this
          exact back3 hb hc' (by simp at hlen; omega)
        · have hx2 := hr.2.2.1 (by simp at hlen; omega)
          have hb := hc b (by simp)
          have hc' := hc c (by simp)
          have hd := hc d (by simp)
          have : v = (((x - 240) * 64 + (b - 128)) * 64 + (c - 128)) * 64 + (d - 128) := by rw [hv]; simp only [vtailI]; unfold vheadI; (repeat' split) <;> omega
          subst this
          exact back4 hb hc' hd (by simp at hlen; omega)
        · simp at hlen; omega
      · rintro ⟨h, _⟩
        simp only [Bool.and_eq_true, decide_eq_true_eq] at h
        rw [szI_len h.1, h.2, List.length_cons, hlen]
    by_cases hs : szI v = ((N + 1 : Nat) : Int)
    · rw [if_pos hs, if_pos (key.1 hs)]
    · rw [if_neg hs, if_neg (fun h => hs (key.2 h))]
  · rw [gat_not _ _ hc, if_neg (by simp), if_neg]
    rintro ⟨h, _⟩
    simp only [Bool.and_eq_true, decide_eq_true_eq] at h
    exact hc (putI_form h.1 h.2).2
end Go.Proofs.Ytegcebgoiocakaa
/- There and back; the octets of many code points. -/
namespace Go.Proofs.Ytegcebgoiocakaa
open Go Go.RowKit
set_option linter.unusedVariables false

theorem valI_put {s : Int} (h : isI s = true) : valI (putI s) = s := by
  have h0 := isI_cases h
  unfold putI
  (repeat' split) <;> simp only [valI, vtailI] <;> unfold vheadI <;> (repeat' split) <;> omega
/-- There and back it is itself, whatever stands behind. -/
theorem get_put {s : Int} (h : isI s = true) (rest : List Int) : getI (putI s ++ rest) = (s, ((putI s).length : Int)) := by
  cases hp : putI s with
  | nil => unfold putI at hp; (repeat' split at hp) <;> cases hp
  | cons x t =>
    have hf := putI_form h hp
    rw [List.cons_append, get_same x _ (putI_byte s h x (by rw [hp]; simp)).1, rgetF_one, hf.1]
    have ht : (x :: (t ++ rest)).take ((t.length : Int) + 1).toNat = putI s := by
      rw [hp, show ((t.length : Int) + 1).toNat = t.length + 1 by omega, List.take_succ_cons, List.take_left]
    have hok : okI (x :: (t ++ rest)) ((t.length : Int) + 1).toNat = true := by
      unfold okI
      rw [ht, valI_put h, h, decide_eq_true rfl, decide_eq_true (by simp)]
      rfl
    rw [if_pos ⟨hok, by omega⟩, ht, valI_put h]
    simp
theorem putI_len (r : Int) : 1 ≤ (putI r).length ∧ (putI r).length ≤ 4 := by unfold putI; (repeat' split) <;> simp

theorem getI_bounds {l : List Int} (h : l ≠ []) : 1 ≤ (getI l).2 ∧ (getI l).2 ≤ l.length := by
  cases l with
  | nil => exact absurd rfl h
  | cons x t =>
    simp only [getI, List.length_cons]
    have := lenI_or x
    (repeat' split) <;> simp <;> omega
theorem getI_is (l : List Int) : isI (getI l).1 = true := by
  cases l with
  | nil => decide
  | cons x t =>
    simp only [getI]
    split
    · decide
    · split
      · rename_i h1 h2
        exact szI_pos_is h2.2 (by have := lenI_or x; omega)
      · decide

/-- The octets of many code points, one behind the other. -/
def putAll : List Int → List Int
  | [] => []
  | c :: cs => putI c ++ putAll cs
theorem putAll_snoc : ∀ (cs : List Int) (c : Int), putAll (cs ++ [c]) = putAll cs ++ putI c
  | [], c => by simp [putAll]
  | d :: cs, c => by simp only [List.cons_append, putAll, putAll_snoc cs c, List.append_assoc]
theorem putAll_append : ∀ (ds bs : List Int), putAll (ds ++ bs) = putAll ds ++ putAll bs
  | [], _ => rfl
  | d :: ds, bs => by simp only [List.cons_append, putAll, putAll_append ds bs, List.append_assoc]
theorem putAll_len : ∀ cs : List Int, cs.length ≤ (putAll cs).length ∧ (putAll cs).length ≤ 4 * cs.length
  | [] => by simp [putAll]
  | c :: cs => by
    have h := putI_len c
    have h2 := putAll_len cs
    simp only [putAll, List.length_append, List.length_cons]
    omega
theorem putAll_byte : ∀ cs : List Int, (∀ c ∈ cs, isI c = true) → ∀ x ∈ putAll cs, 0 ≤ x ∧ x < 256
  | [], _, x, hx => by simp [putAll] at hx
  | c :: cs, h, x, hx => by
    rw [putAll, List.mem_append] at hx
    rcases hx with hx | hx
    · exact putI_byte c (h c (by simp)) x hx
    · exact putAll_byte cs (fun d hd => h d (List.mem_cons_of_mem _ hd)) x hx

end Go.Proofs.Ytegcebgoiocakaa
/- A text's places and code points. -/
namespace Go.Proofs.Ytegcebgoiocakaa
open Go Go.RowKit
set_option linter.unusedVariables false

theorem getI_take {l : List Int} {n : Nat} (h1 : (getI l).2 ≤ n) (h4 : l.length ≤ n ∨ 4 ≤ n ∨ (getI l).2 = n) (h0 : 0 < n) : getI (l.take n) = getI l := by
  cases l with
  | nil => simp
  | cons x t =>
    obtain ⟨m, rfl⟩ : ∃ m, n = m + 1 := ⟨n - 1, by omega⟩
    rw [List.take_succ_cons]
    have hl := lenI_or x
    rcases h4 with h4 | h4 | h4
    · rw [List.take_of_length_le (by simpa using h4)]
    · simp only [getI, List.length_take, List.take_take]
      rw [show min ((lenI x).toNat - 1) m = (lenI x).toNat - 1 by omega]
      have e : ((min m t.length : Nat) : Int) + 1 < lenI x ↔ (t.length : Int) + 1 < lenI x := by omega
      simp only [e]
    · simp only [getI, List.length_take, List.take_take] at h4 ⊢
      by_cases hc : lenI x = 0 ∨ (t.length : Int) + 1 < lenI x
      · have hc2 : lenI x = 0 ∨ ((min m t.length : Nat) : Int) + 1 < lenI x := by omega
        rw [if_pos hc, if_pos hc2]
      · rw [if_neg hc] at h4 ⊢
        split at h4
        · rename_i hg
          have hc2 : ¬ (lenI x = 0 ∨ ((min m t.length : Nat) : Int) + 1 < lenI x) := by simp at h4; omega
          rw [if_neg hc2, show min ((lenI x).toNat - 1) m = (lenI x).toNat - 1 by simp at h4; omega]
        · rename_i hg
          have hm : m = 0 := by simp at h4; omega
          subst hm
          rw [if_neg hg]
          by_cases hc2 : lenI x = 0 ∨ ((min 0 t.length : Nat) : Int) + 1 < lenI x
          · rw [if_pos hc2]
          · rw [if_neg hc2, show min ((lenI x).toNat - 1) 0 = (lenI x).toNat - 1 by omega, if_neg hg]
theorem getI_two (x : Int) (t : List Int) : (getI (x :: t)).2 = 1 ∨ (getI (x :: t)).2 = lenI x := by
  simp only [getI]
  (repeat' split) <;> simp
/-- How many octets the code point at a place has; which it is. -/
def szT (T : List Int) (a : Nat) : Nat := (getI (T.drop a)).2.toNat
def cpT (T : List Int) (a : Nat) : Int := (getI (T.drop a)).1
section
variable {T : List Int} {a : Nat}
theorem szT_pos (h : a < T.length) : 1 ≤ szT T a ∧ a + szT T a ≤ T.length ∧ szT T a ≤ 4 := by
  have hne : T.drop a ≠ [] := fun e => by have := congrArg List.length e; simp at this; omega
  have hb := getI_bounds hne
  rw [List.length_drop] at hb
  unfold szT
  refine ⟨by omega, by omega, ?_⟩
  cases hd : T.drop a with
  | nil => exact absurd hd hne
  | cons x t => have := getI_two x t; have := lenI_or x; omega
theorem szT_eq (h : a < T.length) : ((szT T a : Nat) : Int) = (getI (T.drop a)).2 := by
  have := szT_pos h
  unfold szT at *
  omega
theorem szT_end (h : T.length ≤ a) : szT T a = 0 := by unfold szT; rw [List.drop_eq_nil_of_le h]; rfl
/-- Within a code point there are other octets. -/
theorem szT_in (h : a < T.length) {i : Nat} (h0 : 0 < i) (hi : i < szT T a) : szT T (a + i) = 1 := by
  have hp := szT_pos h
  have hd : T.drop (a + i) = (T.drop a).drop i := by rw [List.drop_drop]
  unfold szT at hi ⊢
  rw [hd]
  cases hx : T.drop a with
  | nil => have := congrArg List.length hx; simp at this; omega
  | cons x t =>
    rw [hx] at hi
    obtain ⟨j, rfl⟩ : ∃ j, i = j + 1 := ⟨i - 1, by omega⟩
    rw [List.drop_succ_cons]
    have hlen : t.length + 1 = T.length - a := by have := congrArg List.length hx; simp at this; omega
    unfold szT at hp
    rw [hx] at hp
    simp only [getI] at hi hp
    split at hi
    · simp at hi
    · rename_i h1
      split at hi
      · rename_i h2
        rw [if_neg h1, if_pos h2] at hp
        simp only at hi hp
        have hc : ∀ c ∈ t.take ((lenI x).toNat - 1), 128 ≤ c ∧ c < 192 := by
          apply Classical.byContradiction
          intro hn
          have := gat_not (headI (lenI x) x) _ hn
          rw [this] at h2
          exact absurd h2.1 (by decide)
        cases hy : t.drop j with
        | nil => have := congrArg List.length hy; simp at this; omega
        | cons y u =>
          have hyt : t[j]? = some y := by
            have := congrArg (fun l => l[0]?) hy
            simpa using this
          have hym : y ∈ t.take ((lenI x).toNat - 1) := by
            have : (t.take ((lenI x).toNat - 1))[j]? = some y := by rw [List.getElem?_take_of_lt (by omega)]; exact hyt
            exact List.mem_of_getElem? this
          have := hc y hym
          have hl : lenI y = 0 := by unfold lenI; rw [if_neg (by omega), if_pos (by omega)]
          simp [getI, hl]
      · simp at hi
end
/-- Code points with the places behind them. -/
def goT : Nat → List Int → Nat → List (Int × Nat)
  | 0, _, _ => []
  | f + 1, T, a => if a < T.length then (cpT T a, a + szT T a) :: goT f T (a + szT T a) else []
def rsT (T : List Int) : List Int := (goT T.length T 0).map Prod.fst
def atT (T : List Int) : List Nat := 0 :: (goT T.length T 0).map Prod.snd
/-- The k-th place. -/
theorem goT_spec : ∀ (f : Nat) (T : List Int) (a : Nat), T.length ≤ a + f → a ≤ T.length →
    (∀ (k : Nat) (x : Int × Nat), (goT f T a)[k]? = some x → ∃ b, (a :: (goT f T a).map Prod.snd)[k]? = some b ∧ b < T.length ∧ x = (cpT T b, b + szT T b)) ∧ (a :: (goT f T a).map Prod.snd)[(goT f T a).length]? = some T.length
  | 0, T, a, h1, h2 => by
    have : a = T.length := by omega
    subst this
    exact ⟨fun k x hx => by simp [goT] at hx, by simp [goT]⟩
  | f + 1, T, a, h1, h2 => by
    by_cases hlt : a < T.length
    · have hp := szT_pos hlt
      obtain ⟨k1, k2⟩ := goT_spec f T (a + szT T a) (by omega) hp.2.1
      rw [goT, if_pos hlt]
      refine ⟨fun k x hx => ?_, by simpa using k2⟩
      cases k with
      | zero =>
        simp at hx
        exact ⟨a, rfl, hlt, hx.symm⟩
      | succ k =>
        obtain ⟨b, h3, h4, h5⟩ := k1 k x (by simpa using hx)
        exact ⟨b, by simpa using h3, h4, h5⟩
    · have : a = T.length := by omega
      subst this
      rw [goT, if_neg hlt]
      exact ⟨fun k x hx => by simp at hx, by simp⟩
section
variable {T : List Int}
theorem atT_len : (atT T).length = (rsT T).length + 1 := by simp [atT, rsT]
theorem atT_zero : (atT T)[0]? = some 0 := rfl
theorem atT_last : (atT T)[(rsT T).length]? = some T.length := by
  have := (goT_spec T.length T 0 (by omega) (by omega)).2
  simpa [atT, rsT] using this
theorem atT_at {k : Nat} (hk : k ≤ (rsT T).length) : ∃ a, (atT T)[k]? = some a := ⟨_, List.getElem?_eq_getElem (by rw [atT_len]; omega)⟩
theorem atT_next {k a : Nat} (hk : k < (rsT T).length) (ha : (atT T)[k]? = some a) : a < T.length ∧ (atT T)[k + 1]? = some (a + szT T a) ∧ (rsT T)[k]? = some (cpT T a) := by
  have hk' : k < (goT T.length T 0).length := by simpa [rsT] using hk
  obtain ⟨x, hx⟩ : ∃ x, (goT T.length T 0)[k]? = some x := ⟨_, List.getElem?_eq_getElem hk'⟩
  obtain ⟨b, h1, h2, h3⟩ := (goT_spec T.length T 0 (by omega) (by omega)).1 k x hx
  have : b = a := by
    unfold atT at ha
    rw [h1] at ha
    exact Option.some.inj ha
  subst this
  refine ⟨h2, ?_, ?_⟩
  · simp [atT, hx, h3]
  · simp [rsT, hx, h3]
theorem atT_le {k a : Nat} (ha : (atT T)[k]? = some a) : a ≤ T.length := by
  have hk := (List.getElem?_eq_some_iff.1 ha).1
  rw [atT_len] at hk
  rcases Nat.lt_or_ge k (rsT T).length with h | h
  · exact Nat.le_of_lt (atT_next h ha).1
  · obtain rfl : k = (rsT T).length := by omega
    rw [atT_last] at ha
    injection ha with ha
    omega
theorem atT_lt : ∀ {j i a b : Nat}, i < j → (atT T)[i]? = some a → (atT T)[j]? = some b → a < b
  | 0, _, _, _, h, _, _ => by omega
  | j + 1, i, a, b, h, ha, hb => by
    have hj := (List.getElem?_eq_some_iff.1 hb).1
    rw [atT_len] at hj
    obtain ⟨c, hc⟩ := atT_at (T := T) (k := j) (by omega)
    obtain ⟨h1, h2, _⟩ := atT_next (by omega) hc
    rw [h2] at hb
    injection hb with hb
    have := szT_pos h1
    rcases Nat.lt_or_ge i j with h3 | h3
    · have := atT_lt h3 ha hc
      omega
    · obtain rfl : i = j := by omega
      rw [hc] at ha
      injection ha with ha
      omega
theorem atT_inj {i j a : Nat} (hi : (atT T)[i]? = some a) (hj : (atT T)[j]? = some a) : i = j := by
  rcases Nat.lt_trichotomy i j with h | h | h
  · have := atT_lt h hi hj; omega
  · exact h
  · have := atT_lt h hj hi; omega
theorem atT_end {k a : Nat} (hk : k ≤ (rsT T).length) (ha : (atT T)[k]? = some a) : a = T.length ↔ k = (rsT T).length := by
  constructor
  · rintro rfl
    exact atT_inj ha atT_last
  · rintro rfl
    rw [atT_last] at ha
    injection ha with ha
    exact ha.symm
theorem rsT_le : (rsT T).length ≤ T.length := by
  have key : ∀ (k a : Nat), (atT T)[k]? = some a → k ≤ a := by
    intro k
    induction k with
    | zero => intro a _; omega
    | succ k ih =>
      intro a ha
      have hj := (List.getElem?_eq_some_iff.1 ha).1
      rw [atT_len] at hj
      obtain ⟨c, hc⟩ := atT_at (T := T) (k := k) (by omega)
      have := ih c hc
      have := atT_lt (Nat.lt_succ_self k) hc ha
      omega
  exact key _ _ atT_last
/-- Is a number a place? -/
def IsPl (T : List Int) (a : Nat) : Prop := ∃ k : Nat, (atT T)[k]? = some a
/-- The last place up to a number. -/
theorem last_place {a : Nat} (ha : a ≤ T.length) : ∃ (k b : Nat), (atT T)[k]? = some b ∧ b ≤ a ∧ (b = a ∨ k < (rsT T).length ∧ a < b + szT T b) := by
  have key : ∀ (n : Nat), n ≤ (rsT T).length → ∀ (b : Nat), (atT T)[n]? = some b → (∃ (k b : Nat), (atT T)[k]? = some b ∧ b ≤ a ∧ (b = a ∨ k < (rsT T).length ∧ a < b + szT T b)) ∨ b ≤ a := by
    intro n
    induction n with
    | zero =>
      intro _ b hb
      rw [atT_zero] at hb; injection hb with hb
      exact .inr (by omega)
    | succ n ih =>
      intro hn b hb
      obtain ⟨c, hc⟩ := atT_at (T := T) (k := n) (by omega)
      rcases ih (by omega) c hc with h | h
      · exact .inl h
      · obtain ⟨_, h2, _⟩ := atT_next (by omega) hc
        rw [h2] at hb; injection hb with hb
        rcases Nat.lt_or_ge a b with h3 | h3
        · exact .inl ⟨n, c, hc, h, .inr ⟨by omega, by omega⟩⟩
        · exact .inr h3
  rcases key _ (Nat.le_refl _) _ atT_last with h | h
  · exact h
  · exact ⟨_, _, atT_last, h, .inl (by omega)⟩
/-- A number that no code point ahead goes past is a place. -/
theorem isPl_iff {a : Nat} (ha : a ≤ T.length) : IsPl T a ↔ ∀ b, b < a → a - 3 ≤ b → ¬ a - b < szT T b := by
  constructor
  · rintro ⟨k, hk⟩ b hb h3 hs
    obtain ⟨j, c, hj, hcb, h⟩ := last_place (T := T) (a := b) (by omega)
    have hbl : b < T.length := by
      rcases Nat.lt_or_ge b T.length with h4 | h4
      · exact h4
      · omega
    rcases h with rfl | ⟨hjm, hlt⟩
    · have hjm : j < (rsT T).length := by
        rcases Nat.lt_or_ge j (rsT T).length with h5 | h5
        · exact h5
        · have h6 := (List.getElem?_eq_some_iff.1 hj).1
          rw [atT_len] at h6
          have := (atT_end (by omega) hj).2 (by omega)
          omega
      obtain ⟨_, h2, _⟩ := atT_next hjm hj
      rcases Nat.lt_trichotomy k (j + 1) with h4 | h4 | h4
      · rcases Nat.lt_or_ge k j with h5 | h5
        · have := atT_lt h5 hk hj; omega
        · obtain rfl : k = j := by omega
          rw [hj] at hk; injection hk with hk; omega
      · subst h4; rw [h2] at hk; injection hk with hk; omega
      · have := atT_lt h4 h2 hk; omega
    · rcases Nat.eq_or_lt_of_le hcb with h4 | h4
      · obtain ⟨_, h2, _⟩ := atT_next hjm hj
        subst h4
        rcases Nat.lt_trichotomy k (j + 1) with h4 | h4 | h4
        · rcases Nat.lt_or_ge k j with h5 | h5
          · have := atT_lt h5 hk hj; omega
          · obtain rfl : k = j := by omega
            rw [hj] at hk; injection hk with hk; omega
        · subst h4; rw [h2] at hk; injection hk with hk; omega
        · have := atT_lt h4 h2 hk; omega
      · have := szT_in (T := T) (a := c) (by omega) (i := b - c) (by omega) (by omega)
        rw [show c + (b - c) = b by omega] at this
        omega
  · intro h
    obtain ⟨j, c, hj, hca, h2⟩ := last_place (T := T) ha
    rcases h2 with rfl | ⟨hjm, hlt⟩
    · exact ⟨j, hj⟩
    · rcases Nat.eq_or_lt_of_le hca with h4 | h4
      · exact ⟨j, h4 ▸ hj⟩
      · have hp := szT_pos (atT_next hjm hj).1
        exact absurd (show a - c < szT T c by omega) (h c h4 (by omega))
end
end Go.Proofs.Ytegcebgoiocakaa
/- size, Places, isPlace. -/
namespace Go.Proofs.Ytegcebgoiocakaa
open Go Go.RowKit
set_option linter.unusedVariables false
set_option maxRecDepth 20000

theorem nums_cut (s : ByteArray) (a b : Nat) : nums (s.extract a b) = ((nums s).drop a).take (b - a) := by
  unfold nums
  rw [← List.map_drop, ← List.map_take]
  congr 1
  rw [ByteArray.data_extract, Array.toList_extract]
/-- A text cut. -/
theorem cut_str (s : ByteArray) {a b : Nat} (hab : a ≤ b) (hb : b ≤ s.size) : ∃ S : ByteArray, S.size = b - a ∧ nums S = ((nums s).drop a).take (b - a) ∧ ∀ w : World, (Instr.slice 9 (.string s) (some (.int .i64 (a : Int))) (some (.int .i64 (b : Int))) none).run Try.prog w = .ok (.string S) w := by
  refine ⟨s.extract a b, by rw [ByteArray.size_extract]; omega, nums_cut s a b, fun w => ?_⟩
  have hr := run_slice_string (P := Try.prog) w 9 s .i64 .i64 (a : Int) (b : Int) Try.underlying9 (by omega) (by omega) (by omega)
  rw [Int.toNat_natCast, Int.toNat_natCast] at hr
  exact hr
set_option maxHeartbeats 2000000 in
theorem msize_any (s : ByteArray) (a : Nat) (w : World) (ha : a < s.size) (hs : s.size ≤ 1000000) :
    Calls Try.prog 25 #[.string s, .int .i64 (a : Int)] w fun e w' => e = .returned (.int .i64 (szT (nums s) a : Nat)) ∧ Below w.heap.size w w' := by
  have hnl := nums_length s
  obtain ⟨m, hm⟩ : ∃ m : Nat, m = min (a + 4) s.size := ⟨_, rfl⟩
  have hmi : min ((a : Int) + 4) (s.size : Int) = (m : Int) := by omega
  obtain ⟨S, hS1, hS2, hcut⟩ := cut_str s (a := a) (b := m) (by omega) (by omega)
  obtain ⟨A, c, w1, hrun, hrow, hc1, hc2, hb⟩ := bytes_run S w (by unfold maxLen; omega)
  have hget := get_any A S.size c (nums S) w1 hrow (nums_byte S) hc1 hc2 (by omega)
  have hp := szT_pos (T := nums s) (a := a) (by omega)
  have hgt : getI (nums S) = getI ((nums s).drop a) := by
    rw [hS2]
    have h2 := szT_eq (T := nums s) (a := a) (by omega)
    refine getI_take (by rw [← h2]; have := hp.2.2; have := hp.2.1; omega) ?_ (by omega)
    rcases Nat.lt_or_ge s.size (a + 4) with h3 | h3
    · left; rw [List.length_drop]; omega
    · right; left; omega
  rw [hgt, show (getI ((nums s).drop a)).2 = (szT (nums s) a : Nat) from (szT_eq (by omega)).symm] at hget
  have HG := Lib.hid hget
  have HB := Lib.hid hb
  have HH := Lib.hid (And.intro hm (And.intro hS1 (And.intro hS2 hrow)))
  have h1 : (a : Int) + 4 ≤ 1000004 := by omega
  clear hget hb hrow hS2 hgt hp hnl hc1 hc2 hm hS1
  go_enter Try.func25, Try.ntmps25
  go_wp2_with (go_at_call 38; (with_reducible refine HG.out.mono ?_); rintro e w2 ⟨rfl, q, rfl⟩)
  go_ret
  exact ⟨rfl, below_drewN HB.out q⟩
/-- Is a number a place? -/
def plB (T : List Int) (a : Int) : Bool := decide (0 ≤ a) && decide (a.toNat ∈ atT T)
theorem plB_iff {T : List Int} {a : Int} : plB T a = true ↔ 0 ≤ a ∧ IsPl T a.toNat := by
  unfold plB IsPl
  rw [Bool.and_eq_true, decide_eq_true_eq, decide_eq_true_eq, List.mem_iff_getElem?]
theorem plB_false {T : List Int} {a : Int} (h : ¬ (0 ≤ a ∧ IsPl T a.toNat)) : plB T a = false := by
  cases hb : plB T a with
  | false => rfl
  | true => exact absurd (plB_iff.1 hb) h
set_option maxHeartbeats 2000000 in
theorem isPlace_any (s : ByteArray) (a : Int) (w : World) (hs : s.size ≤ 1000000) :
    Calls Try.prog 28 #[.string s, .int .i64 a] w fun e w' => e = .returned (.bool (plB (nums s) a)) ∧ Below w.heap.size w w' := by
  have hnl := nums_length s
  obtain ⟨R, hR⟩ : ∃ R, R = plB (nums s) a := ⟨_, rfl⟩
  rw [← hR]
  by_cases h0 : a < 0
  · have hf : R = false := by rw [hR]; exact plB_false (by omega)
    subst hf
    clear hR
    go_enter Try.func28, Try.ntmps28
    go_wp2
    go_ret
    exact ⟨rfl, Below.refl _ _⟩
  by_cases h1 : a > (s.size : Int)
  · have hf : R = false := by
      rw [hR]
      refine plB_false fun ⟨h2, k, hk⟩ => ?_
      have := atT_le hk
      omega
    subst hf
    clear hR
    go_enter Try.func28, Try.ntmps28
    go_wp2
    go_ret
    exact ⟨rfl, Below.refl _ _⟩
  obtain ⟨n, rfl⟩ : ∃ n : Nat, a = (n : Int) := Int.eq_ofNat_of_zero_le (by omega)
  have hn : n ≤ s.size := by omega
  clear h0
  obtain ⟨b0, hb0⟩ : ∃ b0 : Nat, b0 = n - 3 := ⟨_, rfl⟩
  have hmx : max ((n : Int) - 4 + 1) 0 = (b0 : Int) := by omega
  have hiff := isPl_iff (T := nums s) (a := n) (by omega)
  have HN := Lib.hid (And.intro hnl (And.intro hb0 (And.intro hR hiff)))
  clear hnl hb0 hR hiff
  go_enter Try.func28, Try.ntmps28
  go_wp2_with fail
  go_loopw [5] (fun v5 wr => ∃ b : Nat, v5 = .int .i64 (b : Int) ∧ Hid ((b ≤ n ∨ b = b0) ∧ (∀ c, c < b → n - 3 ≤ c → ¬ n - c < szT (nums s) c) ∧ Below w.heap.size w wr)) (fun v5 _ => n - (intOf v5).toNat)
  case atStart => exact ⟨b0, rfl, Lib.hid ⟨.inr rfl, fun c h1 h2 => by have := HN.out.2.1; omega, Below.refl _ _⟩⟩
  case round =>
    obtain ⟨b, rfl, H⟩ := hrel
    by_cases hlt : b < n
    · have hb1 : (b : Int) < (n : Int) := by omega
      have HS := Lib.hid (msize_any s b wr (by omega) hs)
      obtain ⟨z, hz⟩ : ∃ z, z = szT (nums s) b := ⟨_, rfl⟩
      rw [← hz] at HS
      have hp := szT_pos (T := nums s) (a := b) (by have := HN.out.1; omega)
      rw [← hz] at hp
      have hz4 : (z : Int) ≤ 4 := by omega
      have HZ := Lib.hid hz
      clear hz hp
      by_cases hgt : n - b < z
      · have hg : (n : Int) - (b : Int) < (z : Int) := by omega
        have hf : R = false := by
          rw [HN.out.2.2.1]
          refine plB_false fun ⟨_, h⟩ => ?_
          rw [Int.toNat_natCast] at h
          exact HN.out.2.2.2.1 h b hlt (by have := HZ.out; have := szT_pos (T := nums s) (a := b) (by have := HN.out.1; omega); omega) (by rw [← HZ.out]; exact hgt)
        subst hf
        go_wp2_with (go_at_call 25; (with_reducible refine HS.out.mono ?_); rintro e w2 ⟨rfl, hb2⟩; have HB := Lib.hid (H.out.2.2.trans (hb2.mono H.out.2.2.size)); clear hb2)
        go_ret
        exact ⟨rfl, HB.out⟩
      · have hg : ¬ (n : Int) - (b : Int) < (z : Int) := by omega
        have HG := Lib.hid hgt
        clear hgt
        go_wp2_with (go_at_call 25; (with_reducible refine HS.out.mono ?_); rintro e w2 ⟨rfl, hb2⟩; have HB := Lib.hid (H.out.2.2.trans (hb2.mono H.out.2.2.size)); clear hb2)
        refine ⟨⟨b + 1, rfl, Lib.hid ⟨.inl hlt, fun c h1 h2 => ?_, HB.out⟩⟩, by simp [intOf]; omega⟩
        rcases Nat.lt_or_ge c b with h3 | h3
        · exact H.out.2.1 c h3 h2
        · obtain rfl : c = b := by omega
          rw [← HZ.out]
          exact HG.out
    · have hb1 : ¬ (b : Int) < (n : Int) := by omega
      have ht : R = true := by
        rw [HN.out.2.2.1]
        exact plB_iff.2 ⟨by omega, HN.out.2.2.2.2 fun c h1 h2 => H.out.2.1 c (by omega) h2⟩
      subst ht
      go_wp2
      go_ret
      exact ⟨rfl, H.out.2.2⟩
def iN (l : List Nat) : List Int := l.map fun x : Nat => (x : Int)
set_option maxHeartbeats 2000000 in
/-- Places. -/
theorem places_any (s : ByteArray) (w : World) (hs : s.size ≤ 10000) :
    Calls Try.prog 12 #[.string s] w fun e w' => ∃ P q pc, e = .returned (.slice P q pc) ∧ w'.ownsRow w.heap.size 3 1 (.slice P q pc) q ((iN (atT (nums s))).map (.int .i64)) ∧ Below w.heap.size w w' := by
  have hnl := nums_length s
  have HN := Lib.hid hnl
  clear hnl
  go_enter Try.func12, Try.ntmps12
  go_wp2_with fail
  go_loopw [3, 4] (fun v3 v4 wr => ∃ (k a : Nat) (P : Option Addr) (pc : Nat), v3 = .slice P (k + 1) pc ∧ v4 = .int .i64 (a : Int) ∧ k ≤ s.size ∧ Hid (k ≤ (rsT (nums s)).length ∧ (atT (nums s))[k]? = some a ∧ wr.ownsRow w.heap.size 3 1 (.slice P (k + 1) pc) (k + 1) ((iN ((atT (nums s)).take (k + 1))).map (.int .i64)) ∧ Below w.heap.size w wr)) (fun _ v4 _ => s.size - (intOf v4).toNat)
  case atStart =>
    refine ⟨0, 0, _, _, rfl, rfl, Nat.zero_le _, Lib.hid ⟨Nat.zero_le _, rfl, ?_, (Below.refl _ _).alloc (Nat.le_refl _) _⟩⟩
    exact ⟨rfl, .inr ⟨w.heap.size, 1, #[.int .i64 0], rfl, Nat.le_refl _, heap_alloc_new _ _, by decide, by unfold maxLen; omega, rfl, rfl⟩⟩
  case round =>
    obtain ⟨k, a, P, pc, rfl, rfl, hks, H⟩ := hrel
    by_cases hlt : a < s.size
    · have hkm : k < (rsT (nums s)).length := by
        rcases Nat.lt_or_ge k (rsT (nums s)).length with h | h
        · exact h
        · have := (atT_end H.out.1 H.out.2.1).2 (by have := H.out.1; omega)
          have := HN.out
          omega
      obtain ⟨h1, h2, h3⟩ := atT_next hkm H.out.2.1
      have hp := szT_pos h1
      obtain ⟨z, hz⟩ : ∃ z, z = szT (nums s) a := ⟨_, rfl⟩
      have HS := Lib.hid (msize_any s a wr hlt (by omega))
      rw [← hz] at HS hp h2
      have hz4 : (z : Int) ≤ 4 := by omega
      have ha1 : (a : Int) < (s.size : Int) := by omega
      have hrl := rsT_le (T := nums s)
      have HZ := Lib.hid (And.intro hkm (And.intro h2 (And.intro hp hrl)))
      clear h1 h2 h3 hp hz hkm hrl
      go_wp2_with (first
        | (go_at_call 25; (with_reducible refine HS.out.mono ?_); rintro e w2 ⟨rfl, hb2⟩; have HB2 := Lib.hid hb2; obtain ⟨P', pc', w3, happ, ho, hb3, _⟩ := pushI_at (ownI_kept H.out.2.2.1 hb2) (by omega) (H.out.2.2.2.trans (hb2.mono H.out.2.2.2.size)) ((a : Int) + (z : Int)); have HAPP := Lib.hid happ; have HO := Lib.hid (And.intro ho hb3); clear happ ho hb3 hb2)
        | (at_builtin; refine wpList_append_run rfl (.tmp 15) (.tmp 17) 27 rfl rfl _ _ _ _ rfl rfl HAPP.out ?_))
      have hz := HZ.out
      refine ⟨⟨k + 1, a + z, P', pc', rfl, rfl, by have := HN.out; omega, Lib.hid ⟨hz.1, hz.2.1, ?_, HO.out.2⟩⟩, by simp [intOf]; omega⟩
      have htk : (atT (nums s)).take (k + 1 + 1) = (atT (nums s)).take (k + 1) ++ [a + z] := by rw [List.take_add_one (i := k + 1), hz.2.1]; rfl
      have hi : iN ((atT (nums s)).take (k + 1 + 1)) = iN ((atT (nums s)).take (k + 1)) ++ [(a : Int) + (z : Int)] := by rw [htk]; simp [iN]
      rw [hi]
      exact HO.out.1
    · have hkm : k = (rsT (nums s)).length := by
        have := atT_le H.out.2.1
        exact (atT_end H.out.1 H.out.2.1).1 (by have := HN.out; omega)
      have HK := Lib.hid hkm
      clear hkm
      have ha1 : ¬ (a : Int) < (s.size : Int) := by omega
      go_wp2
      go_ret
      refine ⟨P, k + 1, pc, rfl, ?_, H.out.2.2.2⟩
      have := H.out.2.2.1
      rwa [List.take_of_length_le (by rw [atT_len, HK.out]; exact Nat.le_refl _)] at this
end Go.Proofs.Ytegcebgoiocakaa
