/- Are two lists of numbers the same? -/
import Derived.Test.YtjiagpbmaepamaaKit
import Derived.Deep.QuietTactic
import Derived.BigQuiet
namespace Go.Proofs.Ytjiagpbmaepamaa
open Go Go.RowKit

theorem ints_len (A B : Option Addr) (n m cA cB : Nat) (w : World) (h : ¬ (n : Int) = m) :
    Calls Try.prog 14 #[.slice A n cA, .slice B m cB] w fun e w' => e = .returned (.bool false) ∧ ∃ q, w' = w.drewN q := by
  have hb : ((n : Int) != m) = true := by rw [bne_iff_ne]; exact h
  clear h
  go_enter Try.func14, Try.ntmps14
  go_wp2
  go_ret
  exact ⟨rfl, 0, rfl⟩

set_option maxHeartbeats 400000 in
theorem ints_row (A B : Option Addr) (n cA cB : Nat) (xs ys : List Int) (w : World) (ha : RowI .i64 w A n xs) (hb : RowI .i64 w B n ys) (hn : n ≤ 4611686018427387904) :
    Calls Try.prog 14 #[.slice A n cA, .slice B n cB] w fun e w' => e = .returned (.bool (decide (xs = ys))) ∧ ∃ q, w' = w.drewN q := by
  obtain ⟨la, ha⟩ := ha
  obtain ⟨lb, hb⟩ := hb
  have LA := Lib.hid la; clear la
  have LB := Lib.hid lb; clear lb
  have HA := Lib.hid ha; clear ha
  have HB := Lib.hid hb; clear hb
  go_enter Try.func14, Try.ntmps14
  go_wp2
  go_loopw [5] (fun i wr => ∃ k q : Nat, k ≤ n ∧ i = .int .i64 k ∧ wr = w.drewN q ∧ Hid (∀ j, j < k → xs.getD j 0 = ys.getD j 0)) (fun i _ => n - (intOf i).toNat)
  case atStart => exact ⟨0, 0, Nat.zero_le _, rfl, rfl, Lib.hid (fun j hj => absurd hj (by omega))⟩
  case round =>
    obtain ⟨k, q, hk, rfl, rfl, he⟩ := hrel
    by_cases hlt : k < n
    · obtain ⟨b, o, rfl, _, hc⟩ := HA.out (by omega)
      obtain ⟨b', o', rfl, _, hc'⟩ := HB.out (by omega)
      have c1 := hc k hlt
      have c2 := hc' k hlt
      clear hc hc'
      obtain ⟨x, hx⟩ : ∃ x, x = xs.getD k 0 := ⟨_, rfl⟩
      obtain ⟨y, hy⟩ : ∃ y, y = ys.getD k 0 := ⟨_, rfl⟩
      rw [← hx] at c1
      rw [← hy] at c2
      have HX := Lib.hid hx; clear hx
      have HY := Lib.hid hy; clear hy
      by_cases hxy : x = y
      · have hbb : (x != y) = false := by rw [bne_eq_false_iff_eq]; exact hxy
        have HXY := Lib.hid hxy; clear hxy
        go_wp2
        go_quiet (fail)
        go_wp2
        refine ⟨⟨k + 1, q + nq, by omega, by go_num, rfl, Lib.hid fun j hj => ?_⟩, by simp [intOf]; omega⟩
        rcases Nat.lt_or_ge j k with h | h
        · exact he.out j h
        · obtain rfl : j = k := by omega
          rw [← HX.out, ← HY.out]
          exact HXY.out
      · have hbb : (x != y) = true := by rw [bne_iff_ne]; exact hxy
        have HXY := Lib.hid hxy; clear hxy
        go_wp2
        go_quiet (fail)
        go_wp2
        go_ret
        refine ⟨?_, q + nq, by simp⟩
        rw [decide_eq_false]
        · rfl
        · rintro rfl
          exact HXY.out (HX.out.trans HY.out.symm)
    · go_wp2
      go_ret
      refine ⟨?_, _, rfl⟩
      rw [decide_eq_true]
      · rfl
      apply List.ext_getElem (by rw [LA.out, LB.out])
      intro i h1 h2
      have := he.out i (by have := LA.out; omega)
      simpa [List.getD, List.getElem?_eq_getElem h1, List.getElem?_eq_getElem h2] using this
end Go.Proofs.Ytjiagpbmaepamaa
