/- One record is appended to a row of the call's own: any type. -/
import Derived.Test.YtebmafghekfllaaDoorRec
namespace Go.Proofs.YtebmafghekfllaaDoor
open Go Go.RowKit
set_option linter.unusedVariables false
theorem app_rec (t e : TypeId) (z : Value) (s bytes : Nat) (ht : Tryd.prog.underlying t = some (.slice e)) (hinfo : (Tryd.prog.info? e).map (fun i => (i.zero, i.size, i.bytes)) = some (some z, s, bytes)) (hzs : z.cells.size = s) (hs0 : 0 < s) (hby : bytes ≤ 1000)
    {W0 w1 : World} {k c : Nat} {A : Option Addr} {ys : List (List Value)} (h : RecW w1 W0.heap.size e s (.slice A k c) ys) (hb : Below W0.heap.size W0 w1) (x : List Value) (hx : x.length = s ∧ ∀ u ∈ x, u.oneCell' = true) (hk : k ≤ 100000) :
    ∃ A' c' w2, (Builtin.append_ #[t, t] t #[.slice A k c, .slice (some ⟨w1.heap.size, 0, none⟩) 1 1]).run Tryd.prog (w1.alloc (.cells x.toArray e)) = .ok (.slice A' (k + 1) c') w2 ∧
      RecW w2 W0.heap.size e s (.slice A' (k + 1) c') (ys ++ [x]) ∧ Below W0.heap.size W0 w2 := by
  have hlen : ys.length = k := by
    obtain ⟨A0, c0, e1, _⟩ := h.slice
    injection e1 with _ e2 _
    exact e2.symm
  have hb1 : Below w1.heap.size w1 (w1.alloc (.cells x.toArray e)) := (Below.refl _ _).alloc (Nat.le_refl _) _
  have hd1 : (w1.alloc (.cells x.toArray e)).heap[w1.heap.size]? = some (.cells x.toArray e (0, 0)) := heap_alloc_new _ _
  have hr := h.keep (w' := w1.alloc (.cells x.toArray e)) fun k hk _ => hb1.block k hk
  have hbw := hb.trans (hb1.mono hb.size)
  have h3 : (k + 1) * bytes ≤ 100001 * 1000 := Nat.mul_le_mul (by omega) hby
  obtain ⟨V', w2, happ, hr2, hg2, -, -⟩ := hr.app t e z s bytes ht hinfo hzs hs0 (read_one hd1 hx) (c := 1) (fun h => by cases h) (by rw [hlen]; unfold maxLen; omega) (by rw [hlen]; omega) hbw.size
  obtain ⟨A', c', hV', -⟩ := hr2.slice
  rw [List.length_append, hlen, List.length_singleton] at hV'
  subst hV'
  exact ⟨A', c', w2, happ, hr2, hbw.grown hg2 hbw.size (fun k hk => (row_lt hr.1 hk).1)⟩
/-- The length that a row's slice shows. -/
theorem rec_len {w : World} {B : Nat} {e : TypeId} {s k c : Nat} {A : Option Addr} {ys : List (List Value)} (h : RecW w B e s (.slice A k c) ys) : ys.length = k := by
  obtain ⟨A0, c0, e1, _⟩ := h.slice
  injection e1 with _ e2 _
  exact e2.symm
end Go.Proofs.YtebmafghekfllaaDoor
