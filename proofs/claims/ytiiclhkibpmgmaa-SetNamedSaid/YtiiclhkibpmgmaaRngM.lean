/- Ranges as values: rows of them, and what they read as. -/
import Derived.Test.YtiiclhkibpmgmaaKitR
import Derived.Test.YtiiclhkibpmgmaaSetL
import Derived.BigQuiet
namespace Go.Proofs.Ytiiclhkibpmgmaa
open Go Go.RowKit
set_option linter.unusedVariables false

def cellsG (s : List (Int × Int)) : List Value := s.flatMap fun p => [.int .i64 p.1, .int .i64 p.2]
theorem cellsG_length (s : List (Int × Int)) : (cellsG s).length = s.length * 2 := by
  induction s with
  | nil => rfl
  | cons p s ih =>
    show ([_, _] ++ cellsG s).length = _
    rw [List.length_append, ih]
    simp
    omega
theorem cellsG_append (a b : List (Int × Int)) : cellsG (a ++ b) = cellsG a ++ cellsG b := by simp [cellsG]
theorem cellsG_at : ∀ (s : List (Int × Int)) (j : Nat), j < s.length → (cellsG s)[j * 2]? = some (.int .i64 (s.getD j (0, 0)).1) ∧ (cellsG s)[j * 2 + 1]? = some (.int .i64 (s.getD j (0, 0)).2)
  | [], j, h => by simp at h
  | p :: s, 0, _ => ⟨rfl, rfl⟩
  | p :: s, j + 1, h => by
    have ih := cellsG_at s j (by simpa using h)
    have e1 : (j + 1) * 2 = j * 2 + 2 := by omega
    show ([.int .i64 p.1, .int .i64 p.2] ++ cellsG s)[(j + 1) * 2]? = _ ∧ ([.int .i64 p.1, .int .i64 p.2] ++ cellsG s)[(j + 1) * 2 + 1]? = _
    rw [List.getElem?_append_right (by simp; omega), List.getElem?_append_right (by simp; omega), e1]
    simpa using ih

/-- The slice of ranges at A with n elements reads as s. -/
def RowG (w : World) (A : Option Addr) (n : Nat) (s : List (Int × Int)) : Prop :=
  s.length = n ∧ (0 < n → ∃ b o, A = some ⟨b, o, none⟩ ∧ b < w.heap.size ∧ ∀ j, j < n →
    w.cell? ⟨b, o + j * 2, none⟩ = some (.int .i64 (s.getD j (0, 0)).1) ∧ w.cell? ⟨b, o + j * 2 + 1, none⟩ = some (.int .i64 (s.getD j (0, 0)).2))
section
variable {w w' : World} {A : Option Addr} {n : Nat} {s : List (Int × Int)}
theorem RowG.nil_ : RowG w A 0 [] := ⟨rfl, fun h => absurd h (by omega)⟩
theorem RowG.drewN (h : RowG w A n s) (q : Nat) : RowG (w.drewN q) A n s := h
theorem RowG.below (h : RowG w A n s) {B : Nat} (hb : Below B w w') (hB : w.heap.size ≤ B) : RowG w' A n s := by
  refine ⟨h.1, fun hn => ?_⟩
  obtain ⟨b, o, hA, hlt, hc⟩ := h.2 hn
  refine ⟨b, o, hA, Nat.lt_of_lt_of_le hlt hb.size, fun j hj => ?_⟩
  rw [hb.cell (p := ⟨b, o + j * 2, none⟩) (show b < B by omega), hb.cell (p := ⟨b, o + j * 2 + 1, none⟩) (show b < B by omega)]
  exact hc j hj
end
theorem rowG_of_own {w : World} {B : Nat} {V : Value} {s : List (Int × Int)} {n : Nat} (h : w.ownsRow B 39 2 V n (cellsG s)) (hl : s.length = n) : ∃ A c, V = .slice A n c ∧ RowG w A n s ∧ n ≤ c ∧ c ≤ maxLen := by
  rcases h.2 with ⟨rfl, rfl⟩ | ⟨g, cap, cur, rfl, hB, hg, hnc, hcm, hcs, ht⟩
  · exact ⟨none, 0, rfl, ⟨hl, fun h => absurd h (by omega)⟩, Nat.le_refl _, Nat.zero_le _⟩
  · refine ⟨_, cap, rfl, ⟨hl, fun hn => ⟨g, 0, rfl, (Array.getElem?_eq_some_iff.1 hg).1, fun j hj => ?_⟩⟩, hnc, hcm⟩
    obtain ⟨e1, e2⟩ := cellsG_at s j (by omega)
    refine ⟨?_, ?_⟩
    · rw [cell_of_row w g (0 + j * 2) cur 39 (0, 0) hg, ← e1, ← ht, List.getElem?_take_of_lt (by omega), Array.getElem?_toList, Nat.zero_add]
    · rw [cell_of_row w g (0 + j * 2 + 1) cur 39 (0, 0) hg, ← e2, ← ht, List.getElem?_take_of_lt (by omega), Array.getElem?_toList, Nat.zero_add]

theorem info_rng : (Try.prog.info? 39).map (fun i => (i.zero, i.size, i.bytes)) = some (some (.agg #[.int .i64 0, .int .i64 0]), 2, 16) := by kernel_rfl
theorem rng_cells : Try.prog.cellsOf 39 = 2 := by kernel_rfl

set_option maxHeartbeats 1000000 in
/-- The document's Has. -/
theorem rhas_any (s : List (Int × Int)) (A : Option Addr) (n c : Nat) (r : Int) (W : World) (hr : RowG W A n s) (hn : n ≤ 1000000) :
    Calls Try.prog 14 #[.slice A n c, .int .i64 r] W fun e w' => e = .returned (.bool (hasL s r)) ∧ W = w' := by
  have HR := Lib.hid hr; clear hr
  go_enter Try.func14, Try.ntmps14
  go_wp2
  go_loopw [5] (fun i wr => ∃ k : Nat, k ≤ n ∧ i = .int .i64 k ∧ Hid (hasL (s.take k) r = false) ∧ wr = W) (fun i _ => n - (intOf i).toNat)
  case atStart => exact ⟨0, Nat.zero_le _, rfl, Lib.hid rfl, rfl⟩
  case round =>
    obtain ⟨k, hk, rfl, HF, rfl⟩ := hrel
    by_cases hlt : k < n
    · obtain ⟨b, o, rfl, _, hc⟩ := HR.out.2 (by omega)
      obtain ⟨c0, c1⟩ := hc k hlt
      have hl := HR.out.1
      have htk : s.take (k + 1) = s.take k ++ [s.getD k (0, 0)] := by
        rw [List.take_succ_eq_append_getElem (by omega)]
        simp [List.getD, List.getElem?_eq_getElem (show k < s.length by omega)]
      have hmem : s.getD k (0, 0) ∈ s := by
        rw [List.getD, List.getElem?_eq_getElem (by omega)]
        exact List.getElem_mem _
      obtain ⟨p, hp⟩ : ∃ p, p = s.getD k (0, 0) := ⟨_, rfl⟩
      rw [← hp] at c0 c1 htk hmem
      clear hc hp hl
      obtain ⟨x, y⟩ := p
      have HTK := Lib.hid htk
      have HMEM := Lib.hid hmem
      clear htk hmem
      by_cases hin : x ≤ r ∧ r ≤ y ∧ 0 ≤ r ∧ r ≤ 1114111
      · obtain ⟨h1, h2, h3, h4⟩ := hin
        have hh : hasL s r = true := (hasL_iff s r).2 ⟨(x, y), HMEM.out, h1, h2, h3, h4⟩
        have HFF := Lib.hid hh
        clear hh
        go_wp2
        go_ret
        rw [HFF.out]
        exact ⟨rfl, rfl⟩
      · have HN : Hid (hasL (s.take (k + 1)) r = false) := Lib.hid (by
          rw [HTK.out, hasL_append, HF.out, hasL_cons, hasL_nil, Bool.false_or, Bool.or_false]
          exact decide_eq_false hin)
        by_cases h1 : x ≤ r
        · by_cases h2 : r ≤ y
          · by_cases h3 : 0 ≤ r
            · have h4 : ¬ r ≤ 1114111 := fun q => hin ⟨h1, h2, h3, q⟩
              clear hin
              go_wp2
              exact ⟨⟨k + 1, by omega, by go_num, HN, trivial⟩, by simp [intOf]; omega⟩
            · clear hin
              go_wp2
              exact ⟨⟨k + 1, by omega, by go_num, HN, trivial⟩, by simp [intOf]; omega⟩
          · clear hin
            go_wp2
            exact ⟨⟨k + 1, by omega, by go_num, HN, trivial⟩, by simp [intOf]; omega⟩
        · clear hin
          go_wp2
          exact ⟨⟨k + 1, by omega, by go_num, HN, trivial⟩, by simp [intOf]; omega⟩
    · have hkn : k = n := by omega
      subst hkn
      have hf : hasL s r = false := by
        have := HF.out
        rwa [List.take_of_length_le (by have := HR.out.1; omega)] at this
      have HFF := Lib.hid hf
      clear hf
      go_wp2
      go_ret
      rw [HFF.out]
      exact ⟨rfl, rfl⟩
end Go.Proofs.Ytiiclhkibpmgmaa
