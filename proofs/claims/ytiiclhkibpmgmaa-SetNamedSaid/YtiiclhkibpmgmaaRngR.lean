/- The document's Right, Same and Named. -/
import Derived.Test.YtiiclhkibpmgmaaRngM
namespace Go.Proofs.Ytiiclhkibpmgmaa
open Go Go.RowKit
set_option linter.unusedVariables false

def canonB : Int → List (Int × Int) → Bool
  | _, [] => true
  | lo, p :: s => decide (lo ≤ p.1) && (decide (p.1 ≤ p.2) && (decide (p.2 ≤ 1114111) && canonB (p.2 + 2) s))
theorem canonB_iff : ∀ (s : List (Int × Int)) (lo : Int), canonB lo s = true ↔ CanonF lo s
  | [], _ => by simp [canonB, CanonF]
  | p :: s, lo => by
    rw [canonB, CanonF, ← canonB_iff s (p.2 + 2)]
    simp
theorem canonB_cons (lo : Int) (p : Int × Int) (s : List (Int × Int)) : canonB lo (p :: s) = (decide (lo ≤ p.1) && (decide (p.1 ≤ p.2) && (decide (p.2 ≤ 1114111) && canonB (p.2 + 2) s))) := rfl

set_option maxHeartbeats 2000000 in
/-- Two rows that read as the same ranges are the same. -/
theorem rsameG_any (s : List (Int × Int)) (A D : Option Addr) (n c d : Nat) (W : World) (ha : RowG W A n s) (hb : RowG W D n s) (hn : n ≤ 1000000) :
    Calls Try.prog 12 #[.slice A n c, .slice D n d] W fun e w' => e = .returned (.bool true) ∧ ∃ q, w' = W.drewN q := by
  have HA := Lib.hid ha; clear ha
  have HB := Lib.hid hb; clear hb
  go_enter Try.func12, Try.ntmps12
  go_wp2
  go_loopw [5] (fun i wr => ∃ k q : Nat, k ≤ n ∧ i = .int .i64 k ∧ wr = W.drewN q) (fun i _ => n - (intOf i).toNat)
  case atStart => exact ⟨0, 0, Nat.zero_le _, rfl, rfl⟩
  case round =>
    obtain ⟨k, q, hk, rfl, rfl⟩ := hrel
    by_cases hlt : k < n
    · obtain ⟨b, o, rfl, _, hc⟩ := HA.out.2 (by omega)
      obtain ⟨b', o', rfl, _, hc'⟩ := HB.out.2 (by omega)
      obtain ⟨c0, c1⟩ := hc k hlt
      obtain ⟨e0, e1⟩ := hc' k hlt
      obtain ⟨r, hr⟩ : ∃ r, r = s.getD k (0, 0) := ⟨_, rfl⟩
      rw [← hr] at c0 c1 e0 e1
      clear hc hc' hr
      have hcl := rng_cells
      go_wp2
      go_quiet (fail)
      go_wp2
      refine ⟨⟨k + 1, q + nq, by omega, by go_num, rfl⟩, by simp [intOf]; omega⟩
    · go_wp2
      go_ret
      exact ⟨rfl, _, rfl⟩

theorem canonB_all (s : List (Int × Int)) : canonB 0 s = true ↔ Canon s := canonB_iff s 0
/-- Where the next range may begin. -/
def loAt (s : List (Int × Int)) (k : Nat) : Int := if k = 0 then 0 else (s.getD (k - 1) (0, 0)).2 + 2

set_option maxHeartbeats 1000000 in
/-- The document's Right. -/
theorem rright_any (s : List (Int × Int)) (A : Option Addr) (n c : Nat) (W : World) (ha : RowG W A n s) (hn : n ≤ 1000000) :
    Calls Try.prog 10 #[.slice A n c] W fun e w' => e = .returned (.bool (canonB 0 s)) ∧ ∃ q, w' = W.drewN q := by
  have HA := Lib.hid ha; clear ha
  go_enter Try.func10, Try.ntmps10
  go_wp2
  go_loopw [3] (fun i wr => ∃ k q : Nat, k ≤ n ∧ i = .int .i64 k ∧ Hid (canonB 0 s = canonB (loAt s k) (s.drop k) ∧ 0 ≤ loAt s k ∧ loAt s k ≤ 1114113) ∧ wr = W.drewN q) (fun i _ => n - (intOf i).toNat)
  case atStart => exact ⟨0, 0, Nat.zero_le _, rfl, Lib.hid ⟨rfl, Int.le_refl _, (by decide : (0 : Int) ≤ 1114113)⟩, rfl⟩
  case round =>
    obtain ⟨k, q, hk, rfl, HF, rfl⟩ := hrel
    by_cases hlt : k < n
    · obtain ⟨b, o, rfl, _, hc⟩ := HA.out.2 (by omega)
      obtain ⟨c0, c1⟩ := hc k hlt
      have hl := HA.out.1
      have hd : s.drop k = s.getD k (0, 0) :: s.drop (k + 1) := by
        rw [List.drop_eq_getElem_cons (by omega)]
        simp [List.getD, List.getElem?_eq_getElem (show k < s.length by omega)]
      obtain ⟨h1, h2, h3⟩ := HF.out
      rw [hd, canonB_cons] at h1
      obtain ⟨p, hp⟩ : ∃ p, p = s.getD k (0, 0) := ⟨_, rfl⟩
      rw [← hp] at c0 c1 h1
      obtain ⟨x, y⟩ := p
      have hlo : loAt s (k + 1) = y + 2 := by
        unfold loAt
        rw [if_neg (by omega), show k + 1 - 1 = k by omega, ← hp]
      dsimp only at h1 c0 c1
      obtain ⟨L, hL⟩ : ∃ L, L = loAt s k := ⟨_, rfl⟩
      rw [← hL] at h1 h2 h3
      have hL0 : k = 0 → L = 0 := fun e => by rw [hL, e]; rfl
      have hLk : 0 < k → L = (s.getD (k - 1) (0, 0)).2 + 2 := fun e => by rw [hL]; unfold loAt; rw [if_neg (by omega)]
      have hck := fun h : 0 < k => (hc (k - 1) (by omega)).2
      have H1 := Lib.hid h1
      have HLO := Lib.hid hlo
      clear hp hd hc hL h1 hlo hl HF
      by_cases t1 : x < 0
      · have hf : canonB 0 s = false := by rw [H1.out, decide_eq_false (by omega), Bool.false_and]
        have HFF := Lib.hid hf
        clear hf hck hL0 hLk
        go_wp2
        go_quiet (fail)
        go_wp2
        go_ret
        rw [HFF.out]
        exact ⟨rfl, q + nq, by simp⟩
      · have d1 : decide (x < 0) = false := by simpa using t1
        by_cases t2 : 1114111 < y
        · have d2 : decide (1114111 < y) = true := by simpa using t2
          have hf : canonB 0 s = false := by rw [H1.out, decide_eq_false (show ¬ y ≤ 1114111 by omega), Bool.false_and, Bool.and_false, Bool.and_false]
          have HFF := Lib.hid hf
          clear hf hck hL0 hLk
          go_wp2
          go_quiet (fail)
          go_wp2
          go_ret
          rw [HFF.out]
          exact ⟨rfl, q + nq, by simp⟩
        · have d2 : decide (1114111 < y) = false := by simpa using t2
          by_cases t3 : y < x
          · have d3 : decide (y < x) = true := by simpa using t3
            have hf : canonB 0 s = false := by rw [H1.out, decide_eq_false (show ¬ x ≤ y by omega), Bool.false_and, Bool.and_false]
            have HFF := Lib.hid hf
            clear hf hck hL0 hLk
            go_wp2
            go_quiet (fail)
            go_wp2
            go_ret
            rw [HFF.out]
            exact ⟨rfl, q + nq, by simp⟩
          · have d3 : decide (y < x) = false := by simpa using t3
            rcases Nat.eq_zero_or_pos k with hk0 | hk0
            · have e := hL0 hk0
              subst e
              have d4 : decide (0 < k) = false := decide_eq_false (by omega)
              have hn2 : Hid (canonB 0 s = canonB (loAt s (k + 1)) (s.drop (k + 1)) ∧ 0 ≤ loAt s (k + 1) ∧ loAt s (k + 1) ≤ 1114113) := Lib.hid (by
                rw [HLO.out]
                refine ⟨?_, by omega, by omega⟩
                rw [H1.out, decide_eq_true (show (0 : Int) ≤ x by omega), decide_eq_true (show x ≤ y by omega), decide_eq_true (show y ≤ 1114111 by omega)]
                rfl)
              clear hck hL0 hLk hk0
              go_wp2
              go_quiet (fail)
              go_wp2
              exact ⟨⟨k + 1, q + nq, by omega, by go_num, hn2, rfl⟩, by simp [intOf]; omega⟩
            · have e := hLk hk0
              have cp := hck hk0
              obtain ⟨z, hz⟩ : ∃ z, z = (s.getD (k - 1) (0, 0)).2 := ⟨_, rfl⟩
              rw [← hz] at e cp
              subst e
              have hw : IntKind.i64.wrap (z + 2) = z + 2 := by rw [IntKind.wrap_i64]; omega
              have hw2 : IntKind.i64.wrap ((k : Int) - 1) = (k : Int) - 1 := by rw [IntKind.wrap_i64]; omega
              have b1 : (0 : Int) ≤ (k : Int) - 1 := by omega
              have b2 : (k : Int) - 1 < (n : Int) := by omega
              have b3 : ((k : Int) - 1).toNat = k - 1 := by omega
              have b4 : (0 : Int) < (k : Int) := by omega
              clear hck hL0 hLk hz
              have d4 : decide ((0 : Int) < (k : Int)) = true := by simpa using b4
              by_cases t4 : x < z + 2
              · have d5 : decide (x < z + 2) = true := by simpa using t4
                have hf : canonB 0 s = false := by rw [H1.out, decide_eq_false (by omega), Bool.false_and]
                have HFF := Lib.hid hf
                clear hf
                go_wp2
                go_quiet (fail)
                go_wp2
                go_ret
                rw [HFF.out]
                exact ⟨rfl, q + nq, by simp⟩
              · have d5 : decide (x < z + 2) = false := by simpa using t4
                have hn2 : Hid (canonB 0 s = canonB (loAt s (k + 1)) (s.drop (k + 1)) ∧ 0 ≤ loAt s (k + 1) ∧ loAt s (k + 1) ≤ 1114113) := Lib.hid (by
                  rw [HLO.out]
                  refine ⟨?_, by omega, by omega⟩
                  rw [H1.out, decide_eq_true (show z + 2 ≤ x by omega), decide_eq_true (show x ≤ y by omega), decide_eq_true (show y ≤ 1114111 by omega)]
                  rfl)
                go_wp2
                go_quiet (fail)
                go_wp2
                exact ⟨⟨k + 1, q + nq, by omega, by go_num, hn2, rfl⟩, by simp [intOf]; omega⟩
    · have hkn : k = n := by omega
      subst hkn
      have ht : canonB 0 s = true := by rw [HF.out.1, List.drop_of_length_le (by have := HA.out.1; omega)]; rfl
      have HFF := Lib.hid ht
      clear ht
      go_wp2
      go_ret
      rw [HFF.out]
      exact ⟨rfl, _, rfl⟩

def digitL (r : Int) : Bool := decide (48 ≤ r) && decide (r ≤ 57)
def wordL (r : Int) : Bool := digitL r || (decide (65 ≤ r) && decide (r ≤ 90)) || (decide (97 ≤ r) && decide (r ≤ 122)) || r == 95
def spaceL (r : Int) : Bool := r == 32 || (decide (9 ≤ r) && decide (r ≤ 13))
def namedL (c r : Int) : Bool × Bool :=
  if c = 100 then (digitL r, true) else if c = 119 then (wordL r, true) else if c = 115 then (spaceL r, true)
  else if c = 68 then (!digitL r, true) else if c = 87 then (!wordL r, true) else if c = 83 then (!spaceL r, true) else (false, false)
end Go.Proofs.Ytiiclhkibpmgmaa
