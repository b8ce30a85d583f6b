/- A teller's memory: its block of 53 cells; the records that wait. -/
import Derived.Test.YtebmafghekfllaaDoorRowM18
import Derived.Test.YtebmafghekfllaaDoorClo18
import Derived.Deep.MidRow
import Derived.Laws.IdiomCopy
namespace Go.Proofs.YtebmafghekfllaaDoor
open Go Go.RowKit
set_option linter.unusedVariables false
set_option maxRecDepth 20000
/-- A record's cells. -/
def Rw.rcs (x : Rw) : List Value := [.int .i64 x.n, .int .i64 x.p, .string x.tx]
theorem Rw.rwide (x : Rw) : x.rcs.length = 3 ∧ ∀ u ∈ x.rcs, u.oneCell' = true := by
  refine ⟨rfl, fun u hu => ?_⟩
  simp only [Rw.rcs, List.mem_cons, List.not_mem_nil, or_false] at hu
  rcases hu with rfl | rfl | rfl <;> rfl
theorem info_rec : (Tryd.prog.info? 31).map (·.size) = some 3 := by kernel_rfl
theorem rec_cells : Tryd.prog.cellsOf 31 = 3 := by kernel_rfl
theorem info_wait : (Tryd.prog.info? 54).map (·.size) = some 49 := by kernel_rfl
theorem wait_cells : Tryd.prog.cellsOf 54 = 49 := by kernel_rfl
theorem arr_len : Tryd.prog.arrayLen 52 = 16 := by kernel_rfl
/-- A teller's block: how it tells, how it ends, the rows that wait, enough, over. -/
structure TelM (w : World) (g : Nat) (tv ev : Value) (rs : List Rw) (en ov : Bool) : Prop where
  hp : ∃ cs, w.heap[g]? = some (.cells cs 56 (0, 0)) ∧ cs.size = 53 ∧ ∀ u ∈ cs.toList, u.oneCell' = true
  c0 : w.cell? ⟨g, 0, none⟩ = some tv
  c1 : w.cell? ⟨g, 1, none⟩ = some ev
  cr : ∀ j x, rs[j]? = some x → ∀ i v, x.rcs[i]? = some v → w.cell? ⟨g, 2 + (j * 3 + i), none⟩ = some v
  cm : w.cell? ⟨g, 50, none⟩ = some (.int .i64 (rs.length : Int))
  ce : w.cell? ⟨g, 51, none⟩ = some (.bool en)
  co : w.cell? ⟨g, 52, none⟩ = some (.bool ov)
  le : rs.length ≤ 16
section
variable {w w' : World} {g : Nat} {tv ev : Value} {rs : List Rw} {en ov : Bool}
theorem TelM.keep (h : TelM w g tv ev rs en ov) (hs : w'.heap[g]? = w.heap[g]?) : TelM w' g tv ev rs en ov := by
  have hc : ∀ o, w'.cell? ⟨g, o, none⟩ = w.cell? ⟨g, o, none⟩ := fun o => by unfold World.cell?; rw [hs]
  obtain ⟨cs, h1, h2⟩ := h.hp
  exact ⟨⟨cs, hs.trans h1, h2⟩, (hc 0).trans h.c0, (hc 1).trans h.c1, fun j x hx i v hv => (hc _).trans (h.cr j x hx i v hv), (hc 50).trans h.cm, (hc 51).trans h.ce, (hc 52).trans h.co, h.le⟩
theorem TelM.lt (h : TelM w g tv ev rs en ov) : g < w.heap.size := by
  obtain ⟨cs, h1, _⟩ := h.hp
  exact (Array.getElem?_eq_some_iff.1 h1).1
theorem TelM.below (h : TelM w g tv ev rs en ov) (hb : Below w.heap.size w w') : TelM w' g tv ev rs en ov := h.keep (hb.block g h.lt)
theorem TelM.there (h : TelM w g tv ev rs en ov) {o n : Nat} (hn : o + n ≤ 53) : w.there g o n := fun j hj => by
  obtain ⟨cs, h1, h2, _⟩ := h.hp
  refine ⟨?_, by simp [World.frozen?, h1]⟩
  rw [cell_of_row w g _ _ _ (0, 0) h1, Array.getElem?_eq_getElem (by omega)]
  rfl
theorem hp_set {o : Nat} {v : Value} (hv : v.oneCell' = true) (h : ∃ cs, w.heap[g]? = some (.cells cs 56 (0, 0)) ∧ cs.size = 53 ∧ ∀ u ∈ cs.toList, u.oneCell' = true) : ∃ cs, (w.setCell ⟨g, o, none⟩ v).heap[g]? = some (.cells cs 56 (0, 0)) ∧ cs.size = 53 ∧ ∀ u ∈ cs.toList, u.oneCell' = true := by
  obtain ⟨cs, h1, h2, h3⟩ := h
  refine ⟨cs.setIfInBounds o v, heap_setCell_same w g o cs _ v h1, by simpa using h2, fun u hu => ?_⟩
  rw [Array.toList_setIfInBounds] at hu
  rcases List.mem_or_eq_of_mem_set hu with hu | rfl
  · exact h3 u hu
  · exact hv
theorem hp_sets : ∀ (vs : List Value) (o : Nat) (w : World), (∀ u ∈ vs, u.oneCell' = true) → (∃ cs, w.heap[g]? = some (.cells cs 56 (0, 0)) ∧ cs.size = 53 ∧ ∀ u ∈ cs.toList, u.oneCell' = true) → ∃ cs, (w.setCells g o vs).heap[g]? = some (.cells cs 56 (0, 0)) ∧ cs.size = 53 ∧ ∀ u ∈ cs.toList, u.oneCell' = true
  | [], _, _, _, h => h
  | v :: r, o, w, hv, h => hp_sets r (o + 1) _ (fun u hu => hv u (by simp [hu])) (hp_set (hv v (by simp)) h)
end
/-- copy of records: all is read ahead of anything that is written. -/
theorem run_copy_recs {P : Program} (w : World) (dT sT ty elem : TypeId) (b o dLen dCap : Nat) (a : Addr) (sLen sCap s : Nat) (cs : List Value)
    (hu : P.underlying dT = some (.slice elem)) (hs : (P.info? elem).map (·.size) = some s) (hn : cs.length = Nat.min sLen dLen * s)
    (hsrc : ∀ j v, cs[j]? = some v → w.cell? (a.add j) = some v) (hc : w.there b o cs.length) (h1 : ∀ v ∈ cs, v.oneCell' = true) :
    (Builtin.copy_ #[dT, sT] ty #[.slice (some ⟨b, o, none⟩) dLen dCap, .slice (some a) sLen sCap]).run P w = .ok (goInt (Nat.min sLen dLen)) (w.setCells b o cs) := by
  have hl := run_loadCells_list (P := P) w a cs hsrc
  have hst := run_storeCells_cells (P := P) b o cs 0 w (fun j hj => by simpa using (hc j hj).1) (fun j hj => by simpa using (hc j hj).2) h1
  cases hq : P.info? elem with
  | none => simp [hq] at hs
  | some i =>
    have hi : i.size = s := by simpa [hq] using hs
    simp [Builtin.copy_, run_underlying hu, Builtin.lenOf, Builtin.firstCells, sizeOf, typeInfo, hq, hi, ← hn, hl, hst]
theorem arr_ty : Tryd.prog.underlying 52 = some (.array (Tryd.prog.arrayLen 52) (Tryd.prog.elem 52)) := by kernel_rfl
theorem arr_el : Tryd.prog.elem 52 = 31 := by kernel_rfl
theorem cut_h (b o m : Nat) (hm : m ≤ 16) (w : World) : (Instr.sliceAt 52 (.pointer (some ⟨b, o, none⟩)) none (some (.int .i64 (m : Int))) none).run Tryd.prog w = .ok (.slice (some ⟨b, o, none⟩) m 16) w := by
  rw [run_sliceAt_array_h w _ _ arr_ty .i64 (m : Int) (by omega) (by rw [arr_len]; omega), arr_el, arr_len]
  simp [slicedAt, Tryd.sizeOf31, Addr.add]
theorem cut_all (b o : Nat) (w : World) : (Instr.sliceAt 52 (.pointer (some ⟨b, o, none⟩)) none none none).run Tryd.prog w = .ok (.slice (some ⟨b, o, none⟩) 16 16) w := by
  rw [run_sliceAt_array_all w _ _ arr_ty, arr_el, arr_len]
  simp [slicedAt, Tryd.sizeOf31, Addr.add]
theorem cut_from1 (b o m : Nat) (h0 : 1 ≤ m) (hm : m ≤ 16) (w : World) : (Instr.sliceAt 52 (.pointer (some ⟨b, o, none⟩)) (some (.int .i64 1)) (some (.int .i64 (m : Int))) none).run Tryd.prog w = .ok (.slice (some ⟨b, o + 3, none⟩) (m - 1) 15) w := by
  rw [run_sliceAt_array_lh w _ _ arr_ty .i64 .i64 1 (m : Int) (by omega) (by omega) (by rw [arr_len]; omega), arr_el, arr_len]
  simp [slicedAt, Tryd.sizeOf31, Addr.add]
end Go.Proofs.YtebmafghekfllaaDoor
