/- Next, at whatever place a source stands. -/
import Derived.Test.YtgmaiickfpgeoaaNext
import Derived.Test.YtgmaiickfpgeoaaAwake5
namespace Go.Proofs.Ytgmaiickfpgeoaa
open Go Go.RowKit
set_option linter.unusedVariables false

/-- Next(most): k octets, the next ones in line; none where nothing is left, and what is told then. -/
theorem next_at {w : World} {B U g : Nat} {ps : List (List Int)} {e L : Int} {G : Nat} (h : Src w B U g (dropP G ps) e (G : Int) (L - G)) (hf : Full ps) (hl : ps.flatten.length ≤ 1000) (hG : G ≤ ps.flatten.length) (hL : 0 ≤ L ∧ L ≤ 1000) (most : Int) (hm : 1 ≤ most) :
    Calls Try.prog 10 #[.pointer (some ⟨g, 0, none⟩), .int .i64 most] w fun e' w' => ∃ (A : Option Addr) (k c : Nat) (E : Int), e' = .returned (.tuple #[.slice A k c, .int .i64 E]) ∧ k ≤ 1000 ∧ (k : Int) ≤ most ∧ G + k ≤ ps.flatten.length ∧
      ((E = 0 ∧ 0 < k ∧ ∃ p qs, dropP G ps = p :: qs ∧ (k : Int) = min most (p.length : Int)) ∨ (E = e ∧ k = 0 ∧ G = ps.flatten.length)) ∧
      w'.ownsRow w.heap.size 5 1 (.slice A k c) k (((ps.flatten.drop G).take k).map (Value.int .u8)) ∧ Src w' B U g (dropP (G + k) ps) e ((G + k : Nat) : Int) (L - ((G + k : Nat) : Int)) ∧ Touch B U w w' := by
  rcases hd : dropP G ps with _ | ⟨p, qs⟩
  · rw [hd] at h
    have hge := (dropP_nil hf).1 hd
    refine (next_end h most hm).mono ?_
    rintro e' w' ⟨rfl, q, rfl⟩
    refine ⟨none, 0, 0, e, rfl, by omega, by omega, by omega, .inr ⟨rfl, rfl, by omega⟩, by simpa using World.ownsRow_nil _ _ _ _, ?_, (Touch.refl _ _ _).drewN q⟩
    rw [Nat.add_zero, hd]
    exact h.drewN q
  · have hfp := dropP_full ps G hf
    rw [hd] at h hfp
    have hp := hfp p (by simp)
    have hroom := dropP_room hd
    obtain ⟨k, hk⟩ := Int.eq_ofNat_of_zero_le (show 0 ≤ min most (p.length : Int) by omega)
    refine (next_some h hfp most hm k hk.symm (by omega) (by omega)).mono ?_
    rintro e' w' ⟨v, rfl, hown, hs, ht⟩
    obtain ⟨A, c, rfl, _, _, _, _⟩ := own_cells hown
    have hkp : k ≤ p.length := by omega
    refine ⟨A, k, c, 0, rfl, by omega, by omega, by omega, .inl ⟨rfl, by omega, p, qs, rfl, by omega⟩, by rw [← dropP_next hd k hkp]; exact hown, ?_, ht⟩
    rw [dropP_add ps G k hf, hd]
    have e1 : (G : Int) + (k : Int) = ((G + k : Nat) : Int) := by omega
    have e2 : L - (G : Int) - (k : Int) = L - ((G + k : Nat) : Int) := by omega
    rw [e1, e2] at hs
    exact hs
theorem take_add (xs : List Int) (G k : Nat) : xs.take G ++ (xs.drop G).take k = xs.take (G + k) := by
  rw [List.take_add]
theorem strOfNums_more (xs : List Int) (G k : Nat) : strOfNums (xs.take G) ++ strOfNums ((xs.drop G).take k) = strOfNums (xs.take (G + k)) := by
  rw [strOfNums_append, take_add]
end Go.Proofs.Ytgmaiickfpgeoaa
