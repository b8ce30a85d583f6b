/- View and Octets, of a pool in plain words. -/
import Derived.Test.YtgjmgbpphfccaaaPSt
namespace Go.Proofs.Ytgjmgbpphfccaaa
open Go Go.RowKit
set_option linter.unusedVariables false

def viewX (s : St) (i a b : Int) : List Int := if viewOk s.os s.hs i a b then ((s.os.getD i.toNat []).drop a.toNat).take (b.toNat - a.toNat) else []
def viewE (s : St) (i a b : Int) : Int := if viewOk s.os s.hs i a b then 0 else 2
def octX (s : St) (i : Int) : List Int := if heldL s.hs i = 0 then [] else s.os.getD i.toNat []
theorem strOfNums_nil : strOfNums [] = ⟨#[]⟩ := rfl

section
variable {w : World} {B g n size M : Nat} {F : Nat → Prop} {s : St}
theorem viewAny (h : PoolS w B F g size s) (hg : Good n size M s) (hn : n ≤ 64) (i a b : Int) :
    Calls Try.prog 16 #[.pointer (some ⟨g, 0, none⟩), .int .i64 i, .int .i64 a, .int .i64 b] w fun e w' => e = .returned (.tuple #[.string (strOfNums (viewX s i a b)), .int .i64 (viewE s i a b)]) ∧ w = w' := by
  obtain ⟨gb, FV, Vs, hp⟩ := h
  have hh := hg.hn
  by_cases hv : viewOk s.os s.hs i a b
  · obtain ⟨h0, h1, h2, h3⟩ := id hv
    obtain ⟨k, rfl, hk, hke⟩ := heldL_pos h0
    obtain ⟨x, rfl⟩ := Int.eq_ofNat_of_zero_le h1
    obtain ⟨y, rfl⟩ := Int.eq_ofNat_of_zero_le (show 0 ≤ b by omega)
    have e1 : viewX s (k : Int) (x : Int) (y : Int) = ((s.os.getD k []).drop x).take (y - x) := by simp only [viewX, if_pos hv, Int.toNat_natCast]
    have e2 : viewE s (k : Int) (x : Int) (y : Int) = 0 := by simp only [viewE, if_pos hv]
    rw [e1, e2]
    simp only [Int.toNat_natCast] at h3
    exact view_yes hp k x y (by omega) hk (by omega) (by omega) (by omega)
  · have e1 : viewX s i a b = [] := by simp only [viewX, if_neg hv]
    have e2 : viewE s i a b = 2 := by simp only [viewE, if_neg hv]
    rw [e1, e2]
    exact view_no hp i a b (by omega) hv
theorem octetsAny (h : PoolS w B F g size s) (hg : Good n size M s) (hn : n ≤ 64) (i : Int) :
    Calls Try.prog 15 #[.pointer (some ⟨g, 0, none⟩), .int .i64 i] w fun e w' => e = .returned (.string (strOfNums (octX s i))) ∧ w = w' := by
  obtain ⟨gb, FV, Vs, hp⟩ := h
  have hh := hg.hn
  by_cases h0 : heldL s.hs i = 0
  · rw [show octX s i = [] by simp [octX, h0]]
    exact octets_no hp i (by omega) h0
  · obtain ⟨k, rfl, hk, hke⟩ := heldL_pos (show 0 < heldL s.hs i by omega)
    rw [show octX s (k : Int) = s.os.getD k [] by simp [octX, h0]]
    exact octets_yes hp k (by omega) hk (by omega)
end
end Go.Proofs.Ytgjmgbpphfccaaa
