/- admit, Take, Withdraw, New. -/
import Derived.Test.YtmmfioemnoijoaaPipD
import Derived.Deep.MidRow
import Derived.Laws.ResultCell
namespace Go.Proofs.Ytmmfioemnoijoaa
open Go Go.RowKit
set_option linter.unusedVariables false
set_option maxRecDepth 20000

theorem info_szW {t : TypeId} {z : Value} {n b : Nat} (h : (Try.prog.info? t).map (fun i => (i.zero, i.size, i.bytes)) = some (some z, n, b)) : (Try.prog.info? t).map (·.size) = some n := by
  cases hq : Try.prog.info? t with
  | none => rw [hq] at h; cases h
  | some i =>
    rw [hq] at h
    simp only [Option.map_some, Option.some.injEq, Prod.mk.injEq] at h ⊢
    exact h.2.1
theorem setCells_heap (b : Nat) (t : TypeId) : ∀ (vs : List Value) (pre post : List Value) (w : World), w.heap[b]? = some (.cells (pre ++ post).toArray t (0, 0)) → vs.length = post.length → (w.setCells b pre.length vs).heap[b]? = some (.cells (pre ++ vs).toArray t (0, 0))
  | [], pre, post, w, h, hl => by
    rw [List.eq_nil_of_length_eq_zero hl.symm] at h
    exact h
  | v :: r, pre, [], w, h, hl => by simp at hl
  | v :: r, pre, p :: post, w, h, hl => by
    have h1 := heap_setCell_same w b pre.length _ t v h
    rw [show (pre ++ p :: post).toArray.setIfInBounds pre.length v = ((pre ++ [v]) ++ post).toArray by
      apply Array.toList_inj.1
      rw [Array.toList_setIfInBounds]
      simp] at h1
    have h2 := setCells_heap b t r (pre ++ [v]) post _ h1 (by simpa using hl)
    rw [List.length_append, List.length_singleton, List.append_assoc] at h2
    exact h2
/-- An item is stored into a block that held one. -/
theorem wpList_store_item {ops : Array Oper} {rest : List Oper} {op : Oper} {a : Act} {w : World} {Q : Exit → Act → World → Prop} (hgd : op.guard = none) (x y : Operand) (ho : op.op = .store 36 x y) (G : Nat) (cs vs : List Value) (hx : a.eval x = .pointer (some ⟨G, 0, none⟩)) (hy : a.eval y = .agg vs.toArray)
    (hG : w.heap[G]? = some (.cells cs.toArray 36 (0, 0))) (hc : cs.length = 7) (hv : vs.length = 7) (hv1 : ∀ u ∈ vs, u.oneCell' = true) (h : ∀ w4, w4.heap[G]? = some (.cells vs.toArray 36 (0, 0)) → w.grownBy w4 (some G) → w4.heap.size = w.heap.size → wpList Try.prog ops Q rest (a.put op.dst undef) w4) : wpList Try.prog ops Q (op :: rest) a w := by
  refine wpList_store_mid hgd 36 x y ho G 0 vs.toArray hx hy (fun j hj => ?_) (by rw [info_szW info_item]; simp [hv]) (by simpa using hv1) ?_
  · have hj : j < 7 := by simpa [hv] using hj
    refine ⟨?_, by simp [World.frozen?, hG]⟩
    rw [cell_of_row w G _ _ _ (0, 0) hG, Array.getElem?_eq_getElem (by simp [hc]; omega)]
    rfl
  · have h1 := setCells_heap G 36 vs [] cs w hG (by rw [hv, hc])
    exact h _ h1 (setCells_kept _ _ _ _).1 (setCells_kept _ _ _ _).2

section
variable {w w' : World} {B g room : Nat} {F : Nat → Prop} {IV OV : Value} {ins : List It} {ofs : List (Int × It)} {sent : Int} {closed : Bool}
theorem admit_no (h : PipeC w B F g IV OV room ins [] sent closed) :
    Calls Try.prog 24 #[.pointer (some ⟨g, 0, none⟩)] w fun e w' => e = .returned (.tuple #[]) ∧ w = w' := by
  have c2 := h.c2
  obtain ⟨D, d, hU, -, -, -⟩ := h.ro.slice
  rw [show (([] : List (Int × It)).map ofCells).length = 0 from rfl] at hU
  subst hU
  clear h
  go_enter Try.func24, Try.ntmps24
  go_wp2_with fail
  go_end0
  exact ⟨rfl, rfl⟩
set_option maxHeartbeats 4000000 in
theorem admit_yes {o : Int × It} (h : PipeC w B F g IV OV room ins (o :: ofs) sent closed) (hn : ofs.length ≤ 100000) (hm : ins.length ≤ 100000) :
    Calls Try.prog 24 #[.pointer (some ⟨g, 0, none⟩)] w fun e w' => e = .returned (.tuple #[]) ∧ ∃ F', PipeS w' B F' g room (ins ++ [o.2]) ofs sent closed ∧ Step F F' w w' := by
  have c1 := h.c1
  have c1' : ∀ o, (w.alloc o).cell? ⟨g, 1, none⟩ = some IV := fun o => (h.below ((Below.refl _ _).alloc (Nat.le_refl _) o)).c1
  have c2 := h.c2
  obtain ⟨b, c, hU, -, hbw, hc⟩ := h.ro.at (j := 0) rfl
  rw [List.length_map, List.length_cons] at hU
  have c3 := hc 1 _ rfl
  have c4 := hc 2 _ rfl
  have c5 := hc 3 _ rfl
  have c6 := hc 4 _ rfl
  have c7 := hc 5 _ rfl
  have c8 := hc 6 _ rfl
  have c9 := hc 7 _ rfl
  simp only [Nat.zero_mul, Nat.zero_add] at c3 c4 c5 c6 c7 c8 c9
  have hb5 : Below w.heap.size w (w.alloc (.cells o.2.cells.toArray 36)).drew := ((Below.refl _ _).alloc (Nat.le_refl _) _).drew
  have hd5 : (w.alloc (.cells o.2.cells.toArray 36)).drew.heap[w.heap.size]? = some (.cells o.2.cells.toArray 36 (0, 0)) := heap_alloc_new w _
  obtain ⟨A', c', w6, happ, m1, m2, m3, m4⟩ := (h.below hb5).push hd5 hm
  have m5 : Step F F w (w.alloc (.cells o.2.cells.toArray 36)).drew := ⟨Moved.of_below hb5 F, fun k hk => .inl hk⟩
  have m6 := m5.trans m4
  obtain ⟨F6, hF6⟩ : ∃ F6 : Nat → Prop, F6 = fun k => F k ∨ ((w.alloc (.cells o.2.cells.toArray 36)).drew.heap.size ≤ k ∧ k < w6.heap.size) := ⟨_, rfl⟩
  rw [← hF6] at m3 m6
  obtain ⟨W7, hW7⟩ : ∃ W7, W7 = w6.setCell ⟨g, 1, none⟩ (.slice A' (ins.length + 1) c') := ⟨_, rfl⟩
  rw [← hW7] at m3 m6
  have k1 := m3.c2
  -- the offers
  have hdel : Calls Try.prog 28 #[OV, .int .i64 0, .int .i64 1] W7 fun e w' => ∃ A8 c8, e = .returned (.slice A8 ofs.length c8) ∧ w'.cell? ⟨g, 2, none⟩ = some OV ∧ w'.frozen? ⟨g, 2, none⟩ = false ∧ Hid (∃ F', PipeS (w'.setCell ⟨g, 2, none⟩ (.slice A8 ofs.length c8)) B F' g room (ins ++ [o.2]) ofs sent closed ∧ Step F F' w (w'.setCell ⟨g, 2, none⟩ (.slice A8 ofs.length c8))) := by
    refine Calls.mono (show Calls Try.prog 28 #[OV, .int .i64 0, .int .i64 1] W7 _ from del_offer m3.ro (i := 0) (by simp) (by simp; omega)) ?_
    rintro e w8 ⟨V', rfl, hr, hg, hat⟩
    have hr' : RecW w8 0 64 8 V' (ofs.map ofCells) := hr
    obtain ⟨A8, c8, hV, -⟩ := hr'.slice
    rw [List.length_map] at hV
    subst hV
    have hgg := (hg.block g m3.lt (fun e => m3.ne2 e.symm)).trans m3.blk
    exact ⟨A8, c8, rfl, cell_of_row w8 g 2 _ _ (0, 0) hgg, by simp [World.frozen?, hgg], Lib.hid ⟨_, ⟨_, _, m3.setO _ ofs hg hr' fun k hk => .inl (by rw [← hat]; exact hk)⟩, m6.trans (Step.of_set hg (fun k hk => .inl (m3.fo k hk)) m3.fg)⟩⟩
  obtain ⟨A, c0, hV, -, -, -⟩ := h.ri.slice
  rw [List.length_map] at hV
  obtain ⟨p, hp⟩ : ∃ p, p = ins.length := ⟨_, rfl⟩
  obtain ⟨q, hq⟩ : ∃ q, q = ofs.length := ⟨_, rfl⟩
  rw [← hp] at hV happ hW7
  rw [← hq] at hU hdel hn
  subst hV; subst hU
  unfold It.cells at happ
  have HAPP := Lib.hid happ
  have HD := Lib.hid hdel
  have HW7 := Lib.hid hW7
  clear h hc hb5 hd5 happ m3 m4 m5 m6 hdel hF6 hW7 hp hq
  go_enter Try.func24, Try.ntmps24
  go_wp2_with fail
  go_region_law (refine step_append_run rfl _ _ 51 rfl rfl _ _ _ _ rfl rfl HAPP.out ?_)
  all_goals (
    rw [← HW7.out]
    go_wp2_with (go_at_call 28; (with_reducible refine HD.out.mono ?_); rintro e w8 ⟨A8, c8, rfl, t1, t2, HF⟩)
    go_end0
    exact ⟨rfl, HF.out⟩)
end
end Go.Proofs.Ytmmfioemnoijoaa
