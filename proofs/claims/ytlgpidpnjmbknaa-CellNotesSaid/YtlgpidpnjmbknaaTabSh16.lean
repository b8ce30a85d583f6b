/- Out of a world's shape alone: the library's table of powers holds some numbers. -/
import Derived.Test.YtlgpidpnjmbknaaItoa16
import GoSem.Claims
import Derived.ProofKit
namespace Go.Proofs.Ytlgpidpnjmbknaa
open Go Go.RowKit
set_option linter.unusedVariables false
set_option maxRecDepth 20000
theorem tab_zero : ((begin Try.prog (fun _ _ => 0) default).world.heap[0]?).bind Obj.row? = some (Array.replicate 20 (.int .u64 0), 85) := by kernel_rfl
theorem tab_types : Try.prog.cellTypes Try.prog.depth 85 = some (List.replicate 20 77) := by kernel_rfl
theorem tab_build : Try.prog.buildable 85 = true := by kernel_rfl
theorem tab_of_shaped {w : World} (h : w.ShapedOpen Try.prog) : ∃ T : Nat → Nat, TabT w T := by
  obtain ⟨cs, hh, hs, hr⟩ := h.1 0 _ _ (by decide +kernel) tab_zero
  obtain ⟨ts, hts, _, hall⟩ := hr tab_build
  rw [tab_types] at hts
  obtain rfl := Option.some.inj hts
  have hsz : cs.size = 20 := by rw [hs]; simp
  have key : ∀ k, k < 20 → ∃ n : Int, 0 ≤ n ∧ cs[k]? = some (.int .u64 n) := fun k hk => by
    have hk' : k < cs.size := by omega
    obtain ⟨u, hu, hok⟩ := hall k cs[k] (by simp [hk'])
    have hu2 : u = 77 := by
      rw [List.length_replicate, List.getElem?_replicate] at hu
      split at hu
      · exact (Option.some.inj hu).symm
      · cases hu
    subst hu2
    unfold Cell.ok at hok
    rw [Try.underlying77] at hok
    cases hv : cs[k] <;> rw [hv] at hok <;> simp at hok
    case int k2 n =>
      obtain ⟨rfl, hn⟩ := hok
      refine ⟨n, ?_, by rw [Array.getElem?_eq_getElem hk', hv]⟩
      simp [IntKind.has, IntKind.min, IntKind.max, IntKind.signed, IntKind.bits] at hn
      omega
  refine ⟨fun k => match cs[k]? with | some (.int _ n) => n.toNat | _ => 0, fun k hk => ?_⟩
  obtain ⟨n, h0, hn⟩ := key k hk
  rw [cell_of_row w 0 k cs _ (0, 0) hh]
  simp only [hn, Option.some.injEq, Value.int.injEq, true_and]
  omega
theorem int_of_wf {c : Int} (h : (Lit.int .i64 c).wf = true) : c < 9223372036854775808 := by
  simp [Lit.wf, IntKind.min, IntKind.max, IntKind.signed, IntKind.bits] at h
  omega
end Go.Proofs.Ytlgpidpnjmbknaa
