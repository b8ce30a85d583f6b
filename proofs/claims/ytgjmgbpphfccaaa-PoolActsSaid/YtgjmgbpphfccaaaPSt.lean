/- What a pool holds, in plain words; what each call makes of it; what stays true of it. -/
import Derived.Test.YtgjmgbpphfccaaaPNew
namespace Go.Proofs.Ytgjmgbpphfccaaa
open Go Go.RowKit
set_option linter.unusedVariables false

/-- Each buffer's octets, how often each is held, the line. -/
structure St where
  os : List (List Int)
  hs : List Nat
  ln : List Nat

def takeS (s : St) : St := match s.ln with
  | [] => s
  | i :: r => ⟨s.os, s.hs.set i 1, r⟩
def takeX (s : St) : Int := match s.ln with
  | [] => 0
  | i :: _ => i
def takeE (s : St) : Int := match s.ln with
  | [] => 19
  | _ :: _ => 0
def fillE (size : Nat) (s : St) (i : Int) (m : Nat) : Int := if heldL s.hs i = 0 then 2 else if 1 < heldL s.hs i then 18 else if size < m then 16 else 0
def fillS (size : Nat) (s : St) (i : Int) (ys : List Int) : St := if fillE size s i ys.length = 0 then ⟨s.os.set i.toNat ys, s.hs, s.ln⟩ else s
def turnE (s : St) (i : Int) : Int := if heldL s.hs i = 0 then 2 else 0
def holdS (s : St) (i : Int) : St := if heldL s.hs i = 0 then s else ⟨s.os, s.hs.set i.toNat (heldL s.hs i + 1), s.ln⟩
def dropS (s : St) (i : Int) : St := if heldL s.hs i = 0 then s else if heldL s.hs i = 1 then ⟨s.os.set i.toNat [], s.hs.set i.toNat 0, s.ln ++ [i.toNat]⟩ else ⟨s.os, s.hs.set i.toNat (heldL s.hs i - 1), s.ln⟩

/-- What is true of it at every step: n buffers of at most size octets; each is free or held; the free ones are empty and stand once in the line; none is held more than M times. -/
structure Good (n size M : Nat) (s : St) : Prop where
  hn : s.hs.length = n
  lo : s.os.length = n
  fr : ∀ i : Nat, i ∈ s.ln → s.hs[i]? = some 0
  nd : s.ln.Nodup
  cnt : s.hs.countP (fun h => decide (0 < h)) + s.ln.length = n
  len : ∀ o ∈ s.os, o.length ≤ size
  emp : ∀ i : Nat, s.hs[i]? = some 0 → s.os[i]? = some []
  low : ∀ h ∈ s.hs, h ≤ M

theorem mem_of_get? {α : Type} {l : List α} {i : Nat} {x : α} (h : l[i]? = some x) : x ∈ l := by
  obtain ⟨h1, rfl⟩ := List.getElem?_eq_some_iff.1 h
  exact List.getElem_mem h1
theorem count_set (l : List Nat) (i x : Nat) (hi : i < l.length) : (l.set i x).countP (fun h => decide (0 < h)) + (if 0 < l.getD i 0 then 1 else 0) = l.countP (fun h => decide (0 < h)) + (if 0 < x then 1 else 0) := by
  induction l generalizing i with
  | nil => simp at hi
  | cons y l ih =>
    rcases i with _ | i
    · simp only [List.set_cons_zero, List.countP_cons, List.getD_cons_zero]
      by_cases h1 : 0 < x <;> by_cases h2 : 0 < y <;> simp [h1, h2] <;> omega
    · have := ih i (by simpa using hi)
      simp only [List.set_cons_succ, List.countP_cons, List.getD_cons_succ]
      omega

section
variable {n size M : Nat} {s : St}
theorem Good.line (h : Good n size M s) : s.ln.length ≤ n := by have := h.cnt; omega
theorem Good.lt (h : Good n size M s) {i : Nat} (hi : i ∈ s.ln) : i < n := by
  have := (List.getElem?_eq_some_iff.1 (h.fr i hi)).1
  have := h.hn; omega
theorem Good.more (h : Good n size M s) {M' : Nat} (hM : M ≤ M') : Good n size M' s := { h with low := fun x hx => Nat.le_trans (h.low x hx) hM }
theorem Good.held (h : Good n size M s) (i : Int) : heldL s.hs i ≤ M := by
  by_cases h0 : heldL s.hs i = 0
  · omega
  · obtain ⟨k, rfl, hk, he⟩ := heldL_pos (show 0 < heldL s.hs i by omega)
    rw [← he]
    simp only [List.getD, List.getElem?_eq_getElem hk, Option.getD_some]
    exact h.low _ (List.getElem_mem hk)
theorem good_new (n size : Nat) : Good n size 0 ⟨List.replicate n [], List.replicate n 0, List.range n⟩ where
  hn := by simp
  lo := by simp
  fr := fun i hi => by simpa [List.getElem?_replicate] using hi
  nd := List.nodup_range
  cnt := by simp [List.countP_replicate]
  len := fun o ho => by rw [(List.mem_replicate.1 ho).2]; simp
  emp := fun i hi => by
    simp only [List.getElem?_replicate] at hi ⊢
    split at hi
    · rename_i h; rw [if_pos h]
    · cases hi
  low := fun h hh => by rw [(List.mem_replicate.1 hh).2]; omega
theorem good_take (h : Good n size M s) : Good n size (M + 1) (takeS s) := by
  obtain ⟨os, hs, ln⟩ := s
  rcases ln with _ | ⟨i, r⟩
  · exact h.more (by omega)
  · have hf := h.fr i (by simp)
    simp only at hf
    obtain ⟨hi, he⟩ := List.getElem?_eq_some_iff.1 hf
    have hnd := h.nd
    simp only [List.nodup_cons] at hnd
    refine ⟨by simpa [takeS] using h.hn, h.lo, fun j hj => ?_, hnd.2, ?_, h.len, fun j hj => ?_, fun x hx => ?_⟩
    · simp only [takeS] at hj ⊢
      have hij : i ≠ j := fun e => hnd.1 (by rw [e]; exact hj)
      rw [List.getElem?_set_ne hij]
      exact h.fr j (by simp [hj])
    · have h1 := count_set hs i 1 hi
      have h2 := h.cnt
      simp only [takeS, List.getD, hf, Option.getD_some, List.length_cons] at h1 h2 ⊢
      simp at h1
      omega
    · simp only [takeS] at hj ⊢
      by_cases hij : i = j
      · subst hij
        rw [List.getElem?_set_self hi] at hj
        cases hj
      · rw [List.getElem?_set_ne hij] at hj
        exact h.emp j hj
    · simp only [takeS] at hx
      rcases List.mem_or_eq_of_mem_set hx with h1 | h1
      · have := h.low x h1; omega
      · omega
theorem good_fill (h : Good n size M s) (i : Int) (ys : List Int) : Good n size M (fillS size s i ys) := by
  unfold fillS
  split
  · rename_i he
    unfold fillE at he
    split at he
    · omega
    · rename_i h0
      obtain ⟨k, rfl, hk, hke⟩ := heldL_pos (show 0 < heldL s.hs i by omega)
      have hsz : ys.length ≤ size := by
        split at he
        · omega
        · split at he <;> omega
      refine ⟨h.hn, by simpa using h.lo, h.fr, h.nd, h.cnt, fun o ho => ?_, fun j hj => ?_, h.low⟩
      · rcases List.mem_or_eq_of_mem_set ho with h1 | h1
        · exact h.len o h1
        · rw [h1]; exact hsz
      · have hne : k ≠ j := by
          rintro rfl
          simp only at hj
          rw [List.getD, hj, Option.getD_some] at hke
          exact h0 hke.symm
        simp only [Int.toNat_natCast]
        rw [List.getElem?_set_ne hne]
        exact h.emp j hj
  · exact h
theorem good_hold (h : Good n size M s) (i : Int) : Good n size (M + 1) (holdS s i) := by
  unfold holdS
  split
  · exact h.more (by omega)
  · rename_i h0
    obtain ⟨k, rfl, hk, hke⟩ := heldL_pos (show 0 < heldL s.hs i by omega)
    have hkp : 0 < s.hs.getD k 0 := by omega
    refine ⟨by simpa using h.hn, h.lo, fun j hj => ?_, h.nd, ?_, h.len, fun j hj => ?_, fun x hx => ?_⟩
    · have hf := h.fr j hj
      have hne : k ≠ j := by
        rintro rfl
        rw [List.getD, hf, Option.getD_some] at hkp
        omega
      simp only [Int.toNat_natCast]
      rw [List.getElem?_set_ne hne]
      exact hf
    · have h1 := count_set s.hs k (heldL s.hs (k : Int) + 1) hk
      have h2 := h.cnt
      rw [if_pos hkp, if_pos (by omega)] at h1
      simp only [Int.toNat_natCast]
      omega
    · simp only [Int.toNat_natCast] at hj
      by_cases hkj : k = j
      · subst hkj
        rw [List.getElem?_set_self hk] at hj
        injection hj with hj
        omega
      · rw [List.getElem?_set_ne hkj] at hj
        exact h.emp j hj
    · simp only [Int.toNat_natCast] at hx
      rcases List.mem_or_eq_of_mem_set hx with h1 | h1
      · have := h.low x h1; omega
      · have := h.held (k : Int); omega
theorem good_drop (h : Good n size M s) (i : Int) : Good n size M (dropS s i) := by
  unfold dropS
  split
  · exact h
  · rename_i h0
    obtain ⟨k, rfl, hk, hke⟩ := heldL_pos (show 0 < heldL s.hs i by omega)
    have hkp : 0 < s.hs.getD k 0 := by omega
    have hnot : ∀ j ∈ s.ln, k ≠ j := by
      intro j hj e
      subst e
      have hf := h.fr k hj
      rw [List.getD, hf, Option.getD_some] at hkp
      omega
    simp only [Int.toNat_natCast]
    split
    · refine ⟨by simpa using h.hn, by simpa using h.lo, fun j hj => ?_, ?_, ?_, fun o ho => ?_, fun j hj => ?_, fun x hx => ?_⟩
      · simp only [List.mem_append, List.mem_singleton] at hj
        rcases hj with hj | rfl
        · rw [List.getElem?_set_ne (hnot j hj)]
          exact h.fr j hj
        · rw [List.getElem?_set_self hk]
      · rw [List.nodup_append]
        exact ⟨h.nd, by simp, fun a ha b hb => by simp only [List.mem_singleton] at hb; subst hb; exact (hnot a ha).symm⟩
      · have h1 := count_set s.hs k 0 hk
        have h2 := h.cnt
        rw [if_pos hkp] at h1
        simp only [Nat.lt_irrefl, if_false, List.length_append, List.length_singleton] at h1 ⊢
        omega
      · rcases List.mem_or_eq_of_mem_set ho with h1 | h1
        · exact h.len o h1
        · rw [h1]; simp
      · simp only at hj ⊢
        by_cases hkj : k = j
        · subst hkj
          rw [List.getElem?_set_self (by have := h.lo; have := h.hn; omega)]
        · rw [List.getElem?_set_ne hkj] at hj ⊢
          exact h.emp j hj
      · rcases List.mem_or_eq_of_mem_set hx with h1 | h1
        · exact h.low x h1
        · omega
    · rename_i h1'
      refine ⟨by simpa using h.hn, h.lo, fun j hj => ?_, h.nd, ?_, h.len, fun j hj => ?_, fun x hx => ?_⟩
      · rw [List.getElem?_set_ne (hnot j hj)]
        exact h.fr j hj
      · have h1 := count_set s.hs k (heldL s.hs (k : Int) - 1) hk
        have h2 := h.cnt
        rw [if_pos hkp, if_pos (by omega)] at h1
        simp only
        omega
      · simp only at hj ⊢
        by_cases hkj : k = j
        · subst hkj
          rw [List.getElem?_set_self hk] at hj
          injection hj with hj
          omega
        · rw [List.getElem?_set_ne hkj] at hj
          exact h.emp j hj
      · rcases List.mem_or_eq_of_mem_set hx with h1 | h1
        · exact h.low x h1
        · have := h.held (k : Int); omega
/-- The held ones have at most so many octets together. -/
theorem all_le (size : Nat) : ∀ (os : List (List Int)) (hs : List Nat), os.length = hs.length → (∀ o ∈ os, o.length ≤ size) → (∀ i : Nat, hs[i]? = some 0 → os[i]? = some []) → allL os ≤ hs.countP (fun h => decide (0 < h)) * size
  | [], _, _, _, _ => by simp [allL]
  | _ :: _, [], h, _, _ => by simp at h
  | o :: os, x :: hs, h, hl, he => by
    have ih := all_le size os hs (by simpa using h) (fun p hp => hl p (by simp [hp])) (fun i hi => by simpa using he (i + 1) (by simpa using hi))
    have ho := hl o (by simp)
    have e : allL (o :: os) = o.length + allL os := by simp [allL]
    rw [e, List.countP_cons]
    by_cases hx : 0 < x
    · simp only [hx, decide_true, if_true]
      rw [Nat.add_mul]; omega
    · have hx0 : x = 0 := by omega
      subst hx0
      have := he 0 rfl
      injection this with this
      subst this
      simp
      exact ih
end

/-- The pool that lies in block g. -/
def PoolS (w : World) (B : Nat) (F : Nat → Prop) (g size : Nat) (s : St) : Prop := ∃ gb FV Vs, PoolC w B F g gb FV Vs size s.os s.hs s.ln
section
variable {w w' : World} {B g n size M : Nat} {F : Nat → Prop} {s : St}
theorem PoolS.low (h : PoolS w B F g size s) {k : Nat} (hk : F k) : B ≤ k ∧ k < w.heap.size := by obtain ⟨gb, FV, Vs, hp⟩ := h; exact hp.low k hk
theorem PoolS.fg (h : PoolS w B F g size s) : F g := by obtain ⟨gb, FV, Vs, hp⟩ := h; exact hp.fg
theorem PoolS.below (h : PoolS w B F g size s) (hb : Below w.heap.size w w') : PoolS w' B F g size s := by obtain ⟨gb, FV, Vs, hp⟩ := h; exact ⟨gb, FV, Vs, hp.below hb⟩
theorem PoolS.drewN (h : PoolS w B F g size s) (q : Nat) : PoolS (w.drewN q) B F g size s := by obtain ⟨gb, FV, Vs, hp⟩ := h; exact ⟨gb, FV, Vs, hp.drewN q⟩
theorem PoolS.moved (h : PoolS w B F g size s) {F2 : Nat → Prop} (hm : Moved F2 w w') (hd : ∀ k, F k → ¬ F2 k) : PoolS w' B F g size s := by obtain ⟨gb, FV, Vs, hp⟩ := h; exact ⟨gb, FV, Vs, hp.moved hm hd⟩

theorem takeAny (h : PoolS w B F g size s) (hg : Good n size M s) (hn : n ≤ 64) :
    Calls Try.prog 11 #[.pointer (some ⟨g, 0, none⟩)] w fun e w' => e = .returned (.tuple #[.int .i64 (takeX s), .int .i64 (takeE s)]) ∧ ∃ F', PoolS w' B F' g size (takeS s) ∧ Step F F' w w' := by
  obtain ⟨gb, FV, Vs, hp⟩ := h
  obtain ⟨os, hs, ln⟩ := s
  rcases ln with _ | ⟨i, r⟩
  · refine (take_no hp).mono ?_
    rintro e w' ⟨rfl, rfl⟩
    exact ⟨rfl, F, ⟨gb, FV, Vs, hp⟩, Step.refl _ _⟩
  · have hi : i < n := hg.lt (by simp)
    have hl := hg.line
    have hh := hg.hn
    simp only [List.length_cons] at hl hh
    refine (take_yes hp (by simp only; omega) (by simp only; omega) (by omega)).mono ?_
    rintro e w' ⟨rfl, F', FV', hp', hs'⟩
    exact ⟨rfl, F', ⟨gb, FV', Vs, hp'⟩, hs'⟩
theorem fillAny (h : PoolS w B F g size s) (hg : Good n size M s) (hn : n ≤ 64) (i : Int) (A : Option Addr) (m c : Nat) (ys : List Int) (hr : RowI .u8 w A m ys) (hnil : A = none → m = 0 ∧ c = 0) (hm : m ≤ 100000) :
    Calls Try.prog 13 #[.pointer (some ⟨g, 0, none⟩), .int .i64 i, .slice A m c] w fun e w' => e = .returned (.int .i64 (fillE size s i m)) ∧ ∃ F', PoolS w' B F' g size (fillS size s i ys) ∧ Step F F' w w' := by
  have hlen := hr.1
  obtain ⟨gb, FV, Vs, hp⟩ := h
  have hh := hg.hn
  by_cases h0 : heldL s.hs i = 0
  · have e1 : fillE size s i m = 2 := by simp [fillE, h0]
    have e2 : fillS size s i ys = s := by simp [fillS, fillE, h0]
    rw [e1, e2]
    refine (fill_no hp i A m c (by omega) h0).mono ?_
    rintro e w' ⟨rfl, rfl⟩
    exact ⟨rfl, F, ⟨gb, FV, Vs, hp⟩, Step.refl _ _⟩
  · obtain ⟨k, rfl, hk, hke⟩ := heldL_pos (show 0 < heldL s.hs i by omega)
    by_cases h1 : 1 < heldL s.hs (k : Int)
    · have e1 : fillE size s (k : Int) m = 18 := by simp [fillE, h0, h1]
      have e2 : fillS size s (k : Int) ys = s := by simp [fillS, fillE, h0, h1]
      rw [e1, e2]
      refine (fill_busy hp k A m c (by omega) hk (by omega)).mono ?_
      rintro e w' ⟨rfl, rfl⟩
      exact ⟨rfl, F, ⟨gb, FV, Vs, hp⟩, Step.refl _ _⟩
    · by_cases h2 : size < m
      · have e1 : fillE size s (k : Int) m = 16 := by simp [fillE, h0, h1, h2]
        have e2 : fillS size s (k : Int) ys = s := by simp [fillS, fillE, h0, h1, hlen, h2]
        rw [e1, e2]
        refine (fill_big hp k A m c (by omega) hk (by omega) h2 hm).mono ?_
        rintro e w' ⟨rfl, rfl⟩
        exact ⟨rfl, F, ⟨gb, FV, Vs, hp⟩, Step.refl _ _⟩
      · have e1 : fillE size s (k : Int) m = 0 := by simp [fillE, h0, h1, h2]
        have e2 : fillS size s (k : Int) ys = ⟨s.os.set k ys, s.hs, s.ln⟩ := by simp [fillS, fillE, h0, h1, hlen, h2]
        rw [e1, e2]
        refine (fill_yes hp k A m c ys hr hnil (by omega) hk (by omega) (by omega) hm).mono ?_
        rintro e w' ⟨rfl, F', Vs', hp', hs'⟩
        exact ⟨rfl, F', ⟨gb, FV, Vs', hp'⟩, hs'⟩
theorem holdAny (h : PoolS w B F g size s) (hg : Good n size M s) (hn : n ≤ 64) (hM : M ≤ 1000000) (i : Int) :
    Calls Try.prog 18 #[.pointer (some ⟨g, 0, none⟩), .int .i64 i] w fun e w' => e = .returned (.int .i64 (turnE s i)) ∧ ∃ F', PoolS w' B F' g size (holdS s i) ∧ Step F F' w w' := by
  obtain ⟨gb, FV, Vs, hp⟩ := h
  have hh := hg.hn
  have hb := hg.held i
  by_cases h0 : heldL s.hs i = 0
  · have e1 : turnE s i = 2 := by simp [turnE, h0]
    have e2 : holdS s i = s := by simp [holdS, h0]
    rw [e1, e2]
    refine (hold_no hp i (by omega) h0).mono ?_
    rintro e w' ⟨rfl, rfl⟩
    exact ⟨rfl, F, ⟨gb, FV, Vs, hp⟩, Step.refl _ _⟩
  · obtain ⟨k, rfl, hk, hke⟩ := heldL_pos (show 0 < heldL s.hs i by omega)
    have e1 : turnE s (k : Int) = 0 := by simp [turnE, h0]
    have e2 : holdS s (k : Int) = ⟨s.os, s.hs.set k (s.hs.getD k 0 + 1), s.ln⟩ := by rw [hke]; simp [holdS, h0]
    rw [e1, e2]
    refine (hold_yes hp k (by omega) hk (by omega) (by omega)).mono ?_
    rintro e w' ⟨rfl, hp', hm'⟩
    exact ⟨rfl, F, ⟨gb, FV, Vs, hp'⟩, hm', fun k hk => .inl hk⟩
theorem dropAny (h : PoolS w B F g size s) (hg : Good n size M s) (hn : n ≤ 64) (hM : M ≤ 1000000) (i : Int) :
    Calls Try.prog 20 #[.pointer (some ⟨g, 0, none⟩), .int .i64 i] w fun e w' => e = .returned (.int .i64 (turnE s i)) ∧ ∃ F', PoolS w' B F' g size (dropS s i) ∧ Step F F' w w' := by
  obtain ⟨gb, FV, Vs, hp⟩ := h
  have hh := hg.hn
  have hl := hg.line
  have hb := hg.held i
  by_cases h0 : heldL s.hs i = 0
  · have e1 : turnE s i = 2 := by simp [turnE, h0]
    have e2 : dropS s i = s := by simp [dropS, h0]
    rw [e1, e2]
    refine (drop_no hp i (by omega) h0).mono ?_
    rintro e w' ⟨rfl, rfl⟩
    exact ⟨rfl, F, ⟨gb, FV, Vs, hp⟩, Step.refl _ _⟩
  · obtain ⟨k, rfl, hk, hke⟩ := heldL_pos (show 0 < heldL s.hs i by omega)
    have e1 : turnE s (k : Int) = 0 := by simp [turnE, h0]
    rw [e1]
    by_cases h1 : heldL s.hs (k : Int) = 1
    · have e2 : dropS s (k : Int) = ⟨s.os.set k [], s.hs.set k 0, s.ln ++ [k]⟩ := by simp [dropS, h1]
      rw [e2]
      refine (drop_last hp k (by omega) (by omega) hk (by omega)).mono ?_
      rintro e w' ⟨rfl, F', FV', Vs', hp', hs'⟩
      exact ⟨rfl, F', ⟨gb, FV', Vs', hp'⟩, hs'⟩
    · have e2 : dropS s (k : Int) = ⟨s.os, s.hs.set k (s.hs.getD k 0 - 1), s.ln⟩ := by rw [hke]; simp [dropS, h0, h1]
      rw [e2]
      refine (drop_less hp k (by omega) hk (by omega) (by omega)).mono ?_
      rintro e w' ⟨rfl, hp', hm'⟩
      exact ⟨rfl, F, ⟨gb, FV, Vs, hp'⟩, hm', fun k hk => .inl hk⟩
theorem holdsAny (h : PoolS w B F g size s) (hg : Good n size M s) (hn : n ≤ 64) (i : Int) :
    Calls Try.prog 25 #[.pointer (some ⟨g, 0, none⟩), .int .i64 i] w fun e w' => e = .returned (.int .i64 (heldL s.hs i : Nat)) ∧ w = w' := by
  obtain ⟨gb, FV, Vs, hp⟩ := h
  exact holds_any hp i (by have := hg.hn; omega)
theorem freeAny (h : PoolS w B F g size s) (hg : Good n size M s) (hn : n ≤ 64) :
    Calls Try.prog 22 #[.pointer (some ⟨g, 0, none⟩)] w fun e w' => ∃ v', e = .returned v' ∧ w'.ownsRow w.heap.size 3 1 v' s.ln.length (iv s.ln) ∧ Below w.heap.size w w' := by
  obtain ⟨gb, FV, Vs, hp⟩ := h
  exact free_any hp (by have := hg.line; omega)
theorem bytesAny (h : PoolS w B F g size s) (hg : Good n size M s) (hn : n ≤ 64) (hs : size ≤ 4096) :
    Calls Try.prog 23 #[.pointer (some ⟨g, 0, none⟩)] w fun e w' => e = .returned (.int .i64 (allL s.os : Nat)) ∧ Below w.heap.size w w' := by
  obtain ⟨gb, FV, Vs, hp⟩ := h
  exact bytes_any hp (by have := hg.hn; omega) (fun o ho => by have := hg.len o ho; omega)
theorem newAny (n size : Nat) (hn : 1 ≤ n ∧ n ≤ 64) (hs : 1 ≤ size ∧ size ≤ 4096) (w : World) :
    Calls Try.prog 9 #[.int .i64 (n : Int), .int .i64 (size : Int)] w fun e w' => ∃ F g, e = .returned (.tuple #[.pointer (some ⟨g, 0, none⟩), .int .i64 0]) ∧ PoolS w' w.heap.size F g size ⟨List.replicate n [], List.replicate n 0, List.range n⟩ ∧ Below w.heap.size w w' :=
  (new_yes n size hn hs w).mono fun e w' ⟨F, g, gb, FV, he, hp, hb⟩ => ⟨F, g, he, ⟨gb, FV, _, hp⟩, hb⟩
end
end Go.Proofs.Ytgjmgbpphfccaaa
