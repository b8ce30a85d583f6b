/- The document's pool, in plain words. -/
import Derived.Test.YtgjmgbpphfccaaaRNew
import Derived.Test.YtgjmgbpphfccaaaInts6
namespace Go.Proofs.Ytgjmgbpphfccaaa
open Go Go.RowKit
set_option linter.unusedVariables false

section
variable {w w' : World} {B g n size M : Nat} {F : Nat → Prop} {s : St}
theorem rtakeAny (h : RefS w B F g size s) (hg : Good n size M s) (hn : n ≤ 64) :
    Calls Try.prog 12 #[.pointer (some ⟨g, 0, none⟩)] w fun e w' => e = .returned (.tuple #[.int .i64 (takeX s), .int .i64 (takeE s)]) ∧ ∃ F', RefS w' B F' g size (takeS s) ∧ Step F F' w w' := by
  obtain ⟨HV, BV, LV, hp⟩ := h
  obtain ⟨os, hs, ln⟩ := s
  rcases ln with _ | ⟨i, r⟩
  · refine (rtake_no hp).mono ?_
    rintro e w' ⟨rfl, rfl⟩
    exact ⟨rfl, F, ⟨HV, BV, LV, hp⟩, Step.refl _ _⟩
  · have hi : i < n := hg.lt (by simp)
    have hl := hg.line
    have hh := hg.hn
    simp only [List.length_cons] at hl hh
    refine (rtake_yes hp (by simp only; omega) (by simp only; omega) (by omega)).mono ?_
    rintro e w' ⟨rfl, F', LV', hp', hs'⟩
    exact ⟨rfl, F', ⟨HV, BV, LV', hp'⟩, hs'⟩
theorem rfillAny (h : RefS w B F g size s) (hg : Good n size M s) (hn : 1 ≤ n ∧ n ≤ 64) (i : Int) (A : Option Addr) (m c : Nat) (ys : List Int) (hr : RowI .u8 w A m ys) (hm : m ≤ 100000) :
    Calls Try.prog 14 #[.pointer (some ⟨g, 0, none⟩), .int .i64 i, .slice A m c] w fun e w' => e = .returned (.int .i64 (fillE size s i m)) ∧ ∃ F', RefS w' B F' g size (fillS size s i ys) ∧ Step F F' w w' := by
  have hlen := hr.1
  obtain ⟨HV, BV, LV, hp⟩ := h
  have hh := hg.hn
  by_cases h0 : heldL s.hs i = 0
  · have e1 : fillE size s i m = 2 := by simp [fillE, h0]
    have e2 : fillS size s i ys = s := by simp [fillS, fillE, h0]
    rw [e1, e2]
    refine (rfill_no hp i A m c (by omega) h0).mono ?_
    rintro e w' ⟨rfl, rfl⟩
    exact ⟨rfl, F, ⟨HV, BV, LV, hp⟩, Step.refl _ _⟩
  · obtain ⟨k, rfl, hk, hke⟩ := heldL_pos (show 0 < heldL s.hs i by omega)
    by_cases h1 : 1 < heldL s.hs (k : Int)
    · have e1 : fillE size s (k : Int) m = 18 := by simp [fillE, h0, h1]
      have e2 : fillS size s (k : Int) ys = s := by simp [fillS, fillE, h0, h1]
      rw [e1, e2]
      refine (rfill_busy hp k A m c (by omega) hk (by omega)).mono ?_
      rintro e w' ⟨rfl, rfl⟩
      exact ⟨rfl, F, ⟨HV, BV, LV, hp⟩, Step.refl _ _⟩
    · by_cases h2 : size < m
      · have e1 : fillE size s (k : Int) m = 16 := by simp [fillE, h0, h1, h2]
        have e2 : fillS size s (k : Int) ys = s := by simp [fillS, fillE, h0, h1, hlen, h2]
        rw [e1, e2]
        refine (rfill_big hp k A m c (by omega) hk (by omega) h2 hm).mono ?_
        rintro e w' ⟨rfl, rfl⟩
        exact ⟨rfl, F, ⟨HV, BV, LV, hp⟩, Step.refl _ _⟩
      · have e1 : fillE size s (k : Int) m = 0 := by simp [fillE, h0, h1, h2]
        have e2 : fillS size s (k : Int) ys = ⟨s.os.set k ys, s.hs, s.ln⟩ := by simp [fillS, fillE, h0, h1, hlen, h2]
        rw [e1, e2]
        refine (rfill_yes hp k A m c ys hr (by omega) hk (by omega) (by omega) hm).mono ?_
        rintro e w' ⟨rfl, hp', hs'⟩
        exact ⟨rfl, F, ⟨HV, BV, LV, hp'⟩, hs', fun k hk => .inl hk⟩
theorem rholdAny (h : RefS w B F g size s) (hg : Good n size M s) (hn : 1 ≤ n ∧ n ≤ 64) (hM : M ≤ 1000000) (i : Int) :
    Calls Try.prog 19 #[.pointer (some ⟨g, 0, none⟩), .int .i64 i, .int .i64 1] w fun e w' => e = .returned (.int .i64 (turnE s i)) ∧ ∃ F', RefS w' B F' g size (holdS s i) ∧ Step F F' w w' := by
  obtain ⟨HV, BV, LV, hp⟩ := h
  have hh := hg.hn
  have hb := hg.held i
  by_cases h0 : heldL s.hs i = 0
  · have e1 : turnE s i = 2 := by simp [turnE, h0]
    have e2 : holdS s i = s := by simp [holdS, h0]
    rw [e1, e2]
    refine (rturn_no hp i 1 (by omega) h0).mono ?_
    rintro e w' ⟨rfl, rfl⟩
    exact ⟨rfl, F, ⟨HV, BV, LV, hp⟩, Step.refl _ _⟩
  · obtain ⟨k, rfl, hk, hke⟩ := heldL_pos (show 0 < heldL s.hs i by omega)
    have e1 : turnE s (k : Int) = 0 := by simp [turnE, h0]
    have e2 : holdS s (k : Int) = ⟨s.os, s.hs.set k (s.hs.getD k 0 + 1), s.ln⟩ := by rw [hke]; simp [holdS, h0]
    rw [e1, e2]
    refine (rturn_hold hp k (by omega) hk (by omega) (by omega)).mono ?_
    rintro e w' ⟨rfl, hp', hm'⟩
    exact ⟨rfl, F, ⟨HV, BV, LV, hp'⟩, hm', fun k hk => .inl hk⟩
theorem rdropAny (h : RefS w B F g size s) (hg : Good n size M s) (hn : 1 ≤ n ∧ n ≤ 64) (hM : M ≤ 1000000) (i : Int) :
    Calls Try.prog 19 #[.pointer (some ⟨g, 0, none⟩), .int .i64 i, .int .i64 (-1)] w fun e w' => e = .returned (.int .i64 (turnE s i)) ∧ ∃ F', RefS w' B F' g size (dropS s i) ∧ Step F F' w w' := by
  obtain ⟨HV, BV, LV, hp⟩ := h
  have hh := hg.hn
  have hl := hg.line
  have hb := hg.held i
  by_cases h0 : heldL s.hs i = 0
  · have e1 : turnE s i = 2 := by simp [turnE, h0]
    have e2 : dropS s i = s := by simp [dropS, h0]
    rw [e1, e2]
    refine (rturn_no hp i (-1) (by omega) h0).mono ?_
    rintro e w' ⟨rfl, rfl⟩
    exact ⟨rfl, F, ⟨HV, BV, LV, hp⟩, Step.refl _ _⟩
  · obtain ⟨k, rfl, hk, hke⟩ := heldL_pos (show 0 < heldL s.hs i by omega)
    have e1 : turnE s (k : Int) = 0 := by simp [turnE, h0]
    rw [e1]
    by_cases h1 : heldL s.hs (k : Int) = 1
    · have e2 : dropS s (k : Int) = ⟨s.os.set k [], s.hs.set k 0, s.ln ++ [k]⟩ := by simp [dropS, h1]
      rw [e2]
      refine (rturn_last hp k (by omega) (by omega) hk (by omega)).mono ?_
      rintro e w' ⟨rfl, F', LV', hp', hs'⟩
      exact ⟨rfl, F', ⟨HV, BV, LV', hp'⟩, hs'⟩
    · have e2 : dropS s (k : Int) = ⟨s.os, s.hs.set k (s.hs.getD k 0 - 1), s.ln⟩ := by rw [hke]; simp [dropS, h0, h1]
      rw [e2]
      refine (rturn_less hp k (by omega) hk (by omega) (by omega)).mono ?_
      rintro e w' ⟨rfl, hp', hm'⟩
      exact ⟨rfl, F, ⟨HV, BV, LV, hp'⟩, hm', fun k hk => .inl hk⟩
theorem rviewAny (h : RefS w B F g size s) (hg : Good n size M s) (hn : 1 ≤ n ∧ n ≤ 64) (hs : size ≤ 4096) (i a b : Int) :
    Calls Try.prog 17 #[.pointer (some ⟨g, 0, none⟩), .int .i64 i, .int .i64 a, .int .i64 b] w fun e w' => e = .returned (.tuple #[.string (strOfNums (viewX s i a b)), .int .i64 (viewE s i a b)]) ∧ w = w' := by
  obtain ⟨HV, BV, LV, hp⟩ := h
  have hh := hg.hn
  have hle : ∀ o ∈ s.os, o.length ≤ 100000 := fun o ho => by have := hg.len o ho; omega
  by_cases hv : viewOk s.os s.hs i a b
  · obtain ⟨h0, h1, h2, h3⟩ := id hv
    obtain ⟨k, rfl, hk, hke⟩ := heldL_pos h0
    obtain ⟨x, rfl⟩ := Int.eq_ofNat_of_zero_le h1
    obtain ⟨y, rfl⟩ := Int.eq_ofNat_of_zero_le (show 0 ≤ b by omega)
    have e1 : viewX s (k : Int) (x : Int) (y : Int) = ((s.os.getD k []).drop x).take (y - x) := by simp only [viewX, if_pos hv, Int.toNat_natCast]
    have e2 : viewE s (k : Int) (x : Int) (y : Int) = 0 := by simp only [viewE, if_pos hv]
    rw [e1, e2]
    simp only [Int.toNat_natCast] at h3
    have hlk : (s.os.getD k []).length ≤ 100000 := by
      have h5 : k < s.os.length := by have := hp.lo; omega
      simp only [List.getD, List.getElem?_eq_getElem h5, Option.getD_some]
      exact hle _ (List.getElem_mem h5)
    exact rview_yes hp k x y (by omega) hk (by omega) (by omega) (by omega) hlk
  · have e1 : viewX s i a b = [] := by simp only [viewX, if_neg hv]
    have e2 : viewE s i a b = 2 := by simp only [viewE, if_neg hv]
    rw [e1, e2]
    exact rview_no hp i a b (by omega) hv hle
theorem rbytesAny (h : RefS w B F g size s) (hg : Good n size M s) (hn : 1 ≤ n ∧ n ≤ 64) (hs : size ≤ 4096) :
    Calls Try.prog 24 #[.pointer (some ⟨g, 0, none⟩)] w fun e w' => e = .returned (.int .i64 (allL s.os : Nat)) ∧ w = w' := by
  obtain ⟨HV, BV, LV, hp⟩ := h
  exact rbytes_any hp (by have := hg.hn; omega) (fun o ho => by have := hg.len o ho; omega)
end
end Go.Proofs.Ytgjmgbpphfccaaa
