/- The contracts of the source's Next, Given, Left. -/
import Derived.Test.YtgmaiickfpgeoaaGive
import Derived.BigQuiet
import Derived.Lib.MinMax
namespace Go.Proofs.Ytgmaiickfpgeoaa
open Go Go.RowKit
set_option linter.unusedVariables false

theorem next_arg (g : Nat) (most : Int) (w : World) (hm : most < 1) :
    Calls Try.prog 10 #[.pointer (some ⟨g, 0, none⟩), .int .i64 most] w fun e' w' => e' = .returned (.tuple #[.slice none 0 0, .int .i64 2]) ∧ w = w' := by
  go_enter Try.func10, Try.ntmps10
  go_wp2_with fail
  go_ret2
  exact ⟨rfl, rfl⟩

set_option maxHeartbeats 1000000 in
theorem next_end {w : World} {B U g : Nat} {e given left : Int} (h : Src w B U g [] e given left) (most : Int) (hm : 1 ≤ most) :
    Calls Try.prog 10 #[.pointer (some ⟨g, 0, none⟩), .int .i64 most] w fun e' w' => e' = .returned (.tuple #[.slice none 0 0, .int .i64 e]) ∧ ∃ q, w' = w.drewN q := by
  obtain ⟨P, pc, c0⟩ := h.c0
  have c1 := h.c1
  have hlt : decide (most < 1) = false := by simp; omega
  clear h
  go_enter Try.func10, Try.ntmps10
  go_wp2_with fail
  go_quiet (fail)
  go_wp2_with fail
  go_ret2
  exact ⟨rfl, _, rfl⟩

set_option maxHeartbeats 1000000 in
theorem next_some {w : World} {B U g : Nat} {p : List Int} {ps : List (List Int)} {e given left : Int} (h : Src w B U g (p :: ps) e given left) (hf : Full (p :: ps)) (most : Int) (hm : 1 ≤ most) (n : Nat) (hn : (n : Int) = min most (p.length : Int))
    (hG : 0 ≤ given ∧ given ≤ 1000000) (hL : -1000000 ≤ left ∧ left ≤ 1000000) :
    Calls Try.prog 10 #[.pointer (some ⟨g, 0, none⟩), .int .i64 most] w fun e' w' => ∃ v, e' = .returned (.tuple #[v, .int .i64 0]) ∧ w'.ownsRow w.heap.size 5 1 v n ((p.take n).map (Value.int .u8)) ∧ Src w' B U g (dropP n (p :: ps)) e (given + n) (left - n) ∧ Touch B U w w' := by
  have hp := hf p (by simp)
  have hgv := give_any h hf n (by omega) (by omega) hG hL
  obtain ⟨gl, o, pc, b, ob, d, cur, hc⟩ := h.cons
  have c0 := hc.c0
  have cl := hc.cl
  have hlt : decide (most < 1) = false := by simp; omega
  have hfew := hc.few
  obtain ⟨m, hm⟩ : ∃ m, m = ps.length + 1 := ⟨_, rfl⟩
  rw [← hm] at c0
  have hm0 : 0 < m := by omega
  have hm1 : decide ((m : Int) = 0) = false := by simp; omega
  have HG := Lib.hid hgv; clear hgv
  have HM := Lib.hid hm; clear hm
  have HN := hn.symm; clear hn
  clear hc h hfew
  go_enter Try.func10, Try.ntmps10
  go_wp2_with fail
  refine HG.out.mono ?_; rintro e' w2 ⟨v, rfl, hown, hs, ht⟩
  have HO := Lib.hid hown; clear hown
  have HS := Lib.hid hs; clear hs
  have HT := Lib.hid ht; clear ht
  go_wp2_with fail
  go_ret2
  exact ⟨v, rfl, HO.out, HS.out, HT.out⟩

theorem given_any {w : World} {B U g : Nat} {ps : List (List Int)} {e given left : Int} (h : Src w B U g ps e given left) :
    Calls Try.prog 12 #[.pointer (some ⟨g, 0, none⟩)] w fun e' w' => e' = .returned (.int .i64 given) ∧ w = w' := by
  have c2 := h.c2
  clear h
  go_enter Try.func12, Try.ntmps12
  go_wp2_with fail
  go_ret
  exact ⟨rfl, rfl⟩
theorem left_any {w : World} {B U g : Nat} {ps : List (List Int)} {e given left : Int} (h : Src w B U g ps e given left) :
    Calls Try.prog 13 #[.pointer (some ⟨g, 0, none⟩)] w fun e' w' => e' = .returned (.int .i64 left) ∧ w = w' := by
  have c3 := h.c3
  clear h
  go_enter Try.func13, Try.ntmps13
  go_wp2_with fail
  go_ret
  exact ⟨rfl, rfl⟩
end Go.Proofs.Ytgmaiickfpgeoaa
