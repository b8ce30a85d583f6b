/- The parser's piece. -/
import Derived.Test.YtjpabeeokgfloaaDoorM01
import Derived.Test.YtjpabeeokgfloaaDoorN03
namespace Go.Proofs.YtjpabeeokgfloaaDoor
open Go Go.RowKit
set_option linter.unusedVariables false
set_option maxRecDepth 20000

/-- What piece answers. -/
def PieceV (d g : Nat) (l : List Int) (w : World) (e : Ending) (w' : World) : Prop :=
  (∃ x : NV, e = .returned (.tuple #[x.val, .bool false]) ∧ (∀ st a p, st.length = d → runL l st a p false = none) ∧ Off g w w') ∨
  (∃ (x : NV) (n : Wood) (l' : List Int), e = .returned (.tuple #[x.val, .bool true]) ∧ NodesIn (fun b => w.heap.size ≤ b) w' [x] n ∧ l'.length < l.length ∧ (∀ st a p, st.length = d → runL l st a p false = runL l' st a (p.app n) false) ∧ Rd w' g l' ∧ Off g w w')
def leafNV (op : Int) : NV := ⟨op, none, 0, 0, 0, 0, none, 0, 0⟩
theorem leafN (F : Nat → Prop) (w : World) (op : Int) : NodesIn F w [leafNV op] (leaf op []) := ⟨⟨rfl, rfl, rfl⟩, rowF_nil F w, kids_nil F w, trivial⟩

set_option maxHeartbeats 2000000 in
/-- The beginning of a text. -/
theorem piece_begin (d : Nat) {l : List Int} {w : World} {g : Nat} (h : Rd w g (94 :: l)) :
    Calls Tryd.prog 37 #[.pointer (some ⟨g, 0, none⟩), .int .i64 (d : Int)] w (PieceV d g (94 :: l) w) := by
  have hg := h.lt
  have HR1 := Lib.hid (RoomAt.start hg)
  have hR1 := h.below ((Below.refl _ _).alloc (Nat.le_refl _) (.cells #[.int .i64 0, .slice none 0 0, .int .i64 0, .int .i64 0, .slice none 0 0] 26))
  have HT := Lib.hid (take_yes hR1)
  clear h hR1
  go_enter Tryd.func37, Tryd.ntmps37
  go_wp2_with (go_at_call 21; (with_reducible refine HT.out.mono ?_); rintro e w2 ⟨rfl, hr, ho⟩; have HR9 := Lib.hid (HR1.out.off hg ho); have HRd := Lib.hid hr; obtain ⟨q0, q1, q2, q3, q4, qf⟩ := HR9.out.facts; clear hr ho)
  obtain ⟨z0, z1, z2, z3, z4, _⟩ := HR9.out.cells (leafNV 2)
  simp only [put5, leafNV] at z0 z1 z2 z3 z4
  (try simp only [Exit.inBlock, Exit.then])
  refine bodyPost_ret (v := .tuple #[(leafNV 2).val, .bool true]) ?_ rfl ?_
  · rw [results_cell_tmp rfl]; go_simp
    rfl
  · exact .inr ⟨_, leaf 2 [], l, rfl, HR9.out.nodes (leafNV 2) (leafN _ _ _), by simp, fun st a p _ => runL_begin (tok_begin l) rfl rfl, HR9.out.rd hg HRd.out (leafNV 2), HR9.out.put hg (leafNV 2)⟩
set_option maxHeartbeats 2000000 in
/-- The end of a text. -/
theorem piece_end (d : Nat) {l : List Int} {w : World} {g : Nat} (h : Rd w g (36 :: l)) :
    Calls Tryd.prog 37 #[.pointer (some ⟨g, 0, none⟩), .int .i64 (d : Int)] w (PieceV d g (36 :: l) w) := by
  have hg := h.lt
  have HR1 := Lib.hid (RoomAt.start hg)
  have hR1 := h.below ((Below.refl _ _).alloc (Nat.le_refl _) (.cells #[.int .i64 0, .slice none 0 0, .int .i64 0, .int .i64 0, .slice none 0 0] 26))
  have HT0 := Lib.hid (take_no (x := 94) hR1 (by rw [List.headD_cons]; decide))
  have HT := Lib.hid (take_yes hR1)
  clear h hR1
  go_enter Tryd.func37, Tryd.ntmps37
  go_wp2_with (first
    | (go_at_call 21; (with_reducible refine HT0.out.mono ?_); rintro e w1 ⟨rfl, rfl⟩)
    | (go_at_call 21; (with_reducible refine HT.out.mono ?_); rintro e w2 ⟨rfl, hr, ho⟩; have HR9 := Lib.hid (HR1.out.off hg ho); have HRd := Lib.hid hr; obtain ⟨q0, q1, q2, q3, q4, qf⟩ := HR9.out.facts; clear hr ho))
  obtain ⟨z0, z1, z2, z3, z4, _⟩ := HR9.out.cells (leafNV 3)
  simp only [put5, leafNV] at z0 z1 z2 z3 z4
  (try simp only [Exit.inBlock, Exit.then])
  refine bodyPost_ret (v := .tuple #[(leafNV 3).val, .bool true]) ?_ rfl ?_
  · rw [results_cell_tmp rfl]; go_simp
    rfl
  · exact .inr ⟨_, leaf 3 [], l, rfl, HR9.out.nodes (leafNV 3) (leafN _ _ _), by simp, fun st a p _ => runL_end (tok_end l) rfl rfl, HR9.out.rd hg HRd.out (leafNV 3), HR9.out.put hg (leafNV 3)⟩
/-- A node about another. -/
def repNV (w2 : World) (mn mx : Int) : NV := ⟨6, none, 0, 0, mn, mx, some ⟨w2.heap.size + 1, 0, none⟩, 1, 1⟩
section
variable {d g : Nat} {c : Int} {l : List Int} {w w2 a : World} {x : NV} {n : Wood}
theorem rep_frame (h2 : RoomAt g w w2) (hg : g < w.heap.size) (ho : Off g (((w2.alloc (.cells #[.int .i64 x.op, .slice x.A x.ns x.cs, .int .i64 x.mn, .int .i64 x.mx, .slice x.D x.nk x.ck] 26)).alloc (.cells #[.int .i64 x.op, .slice x.A x.ns x.cs, .int .i64 x.mn, .int .i64 x.mx, .slice x.D x.nk x.ck] 26)).alloc (.cells #[.int .i64 6, .slice none 0 0, .int .i64 0, .int .i64 0, .slice (some ⟨w2.heap.size + 1, 0, none⟩) 1 1] 26)) a) (mn mx : Int) : RoomAt g w a ∧ RoomAt g w ((a.setCell ⟨w2.heap.size + 1 + 1, 2, none⟩ (.int .i64 mn)).setCell ⟨w2.heap.size + 1 + 1, 3, none⟩ (.int .i64 mx)) ∧ a.heap[w2.heap.size + 1 + 1]? = some (.cells #[.int .i64 6, .slice none 0 0, .int .i64 0, .int .i64 0, .slice (some ⟨w2.heap.size + 1, 0, none⟩) 1 1] 26 (0, 0)) ∧
    (((a.setCell ⟨w2.heap.size + 1 + 1, 2, none⟩ (.int .i64 mn)).setCell ⟨w2.heap.size + 1 + 1, 3, none⟩ (.int .i64 mx))).heap[w2.heap.size + 1]? = some (.cells x.cells.toArray 26 (0, 0)) ∧ (∀ b, b < w2.heap.size → b ≠ g → (((a.setCell ⟨w2.heap.size + 1 + 1, 2, none⟩ (.int .i64 mn)).setCell ⟨w2.heap.size + 1 + 1, 3, none⟩ (.int .i64 mx))).heap[b]? = w2.heap[b]?) ∧ w2.heap.size + 3 ≤ a.heap.size := by
  have s3 : ((((w2.alloc (.cells #[.int .i64 x.op, .slice x.A x.ns x.cs, .int .i64 x.mn, .int .i64 x.mx, .slice x.D x.nk x.ck] 26)).alloc (.cells #[.int .i64 x.op, .slice x.A x.ns x.cs, .int .i64 x.mn, .int .i64 x.mx, .slice x.D x.nk x.ck] 26)).alloc (.cells #[.int .i64 6, .slice none 0 0, .int .i64 0, .int .i64 0, .slice (some ⟨w2.heap.size + 1, 0, none⟩) 1 1] 26))).heap.size = w2.heap.size + 3 := by simp
  have e1 : ((((w2.alloc (.cells #[.int .i64 x.op, .slice x.A x.ns x.cs, .int .i64 x.mn, .int .i64 x.mx, .slice x.D x.nk x.ck] 26)).alloc (.cells #[.int .i64 x.op, .slice x.A x.ns x.cs, .int .i64 x.mn, .int .i64 x.mx, .slice x.D x.nk x.ck] 26)).alloc (.cells #[.int .i64 6, .slice none 0 0, .int .i64 0, .int .i64 0, .slice (some ⟨w2.heap.size + 1, 0, none⟩) 1 1] 26))).heap[w2.heap.size + 1 + 1]? = some (.cells #[.int .i64 6, .slice none 0 0, .int .i64 0, .int .i64 0, .slice (some ⟨w2.heap.size + 1, 0, none⟩) 1 1] 26 (0, 0)) := by
    have := heap_alloc_new ((w2.alloc (.cells #[.int .i64 x.op, .slice x.A x.ns x.cs, .int .i64 x.mn, .int .i64 x.mx, .slice x.D x.nk x.ck] 26)).alloc (.cells #[.int .i64 x.op, .slice x.A x.ns x.cs, .int .i64 x.mn, .int .i64 x.mx, .slice x.D x.nk x.ck] 26)) (.cells #[.int .i64 6, .slice none 0 0, .int .i64 0, .int .i64 0, .slice (some ⟨w2.heap.size + 1, 0, none⟩) 1 1] 26)
    rwa [show ((w2.alloc (.cells #[.int .i64 x.op, .slice x.A x.ns x.cs, .int .i64 x.mn, .int .i64 x.mx, .slice x.D x.nk x.ck] 26)).alloc (.cells #[.int .i64 x.op, .slice x.A x.ns x.cs, .int .i64 x.mn, .int .i64 x.mx, .slice x.D x.nk x.ck] 26)).heap.size = w2.heap.size + 1 + 1 by simp] at this
  have e2 : ((((w2.alloc (.cells #[.int .i64 x.op, .slice x.A x.ns x.cs, .int .i64 x.mn, .int .i64 x.mx, .slice x.D x.nk x.ck] 26)).alloc (.cells #[.int .i64 x.op, .slice x.A x.ns x.cs, .int .i64 x.mn, .int .i64 x.mx, .slice x.D x.nk x.ck] 26)).alloc (.cells #[.int .i64 6, .slice none 0 0, .int .i64 0, .int .i64 0, .slice (some ⟨w2.heap.size + 1, 0, none⟩) 1 1] 26))).heap[w2.heap.size + 1]? = some (.cells x.cells.toArray 26 (0, 0)) := by
    have := heap_alloc_new (w2.alloc (.cells #[.int .i64 x.op, .slice x.A x.ns x.cs, .int .i64 x.mn, .int .i64 x.mx, .slice x.D x.nk x.ck] 26)) (.cells #[.int .i64 x.op, .slice x.A x.ns x.cs, .int .i64 x.mn, .int .i64 x.mx, .slice x.D x.nk x.ck] 26)
    rw [show (w2.alloc (.cells #[.int .i64 x.op, .slice x.A x.ns x.cs, .int .i64 x.mn, .int .i64 x.mx, .slice x.D x.nk x.ck] 26)).heap.size = w2.heap.size + 1 by simp] at this
    exact (Below.heap_alloc _ _ _ (by simp)).trans this
  have e3 : ∀ b, b < w2.heap.size → ((((w2.alloc (.cells #[.int .i64 x.op, .slice x.A x.ns x.cs, .int .i64 x.mn, .int .i64 x.mx, .slice x.D x.nk x.ck] 26)).alloc (.cells #[.int .i64 x.op, .slice x.A x.ns x.cs, .int .i64 x.mn, .int .i64 x.mx, .slice x.D x.nk x.ck] 26)).alloc (.cells #[.int .i64 6, .slice none 0 0, .int .i64 0, .int .i64 0, .slice (some ⟨w2.heap.size + 1, 0, none⟩) 1 1] 26))).heap[b]? = w2.heap[b]? := fun b hb => (Below.heap_alloc _ _ _ (by simp; omega)).trans ((Below.heap_alloc _ _ _ (by simp; omega)).trans (Below.heap_alloc _ _ _ hb))
  have hsz : w2.heap.size + 3 ≤ a.heap.size := by have := ho.1.size; omega
  have hlt := h2.2.1
  have k : ∀ b, b ≠ w2.heap.size + 1 + 1 → (((a.setCell ⟨w2.heap.size + 1 + 1, 2, none⟩ (.int .i64 mn)).setCell ⟨w2.heap.size + 1 + 1, 3, none⟩ (.int .i64 mx))).heap[b]? = a.heap[b]? := fun b hb => (Below.heap_setCell _ _ _ _ hb).trans (Below.heap_setCell _ _ _ _ hb)
  have ra : RoomAt g w a := (((h2.alloc hg (.cells #[.int .i64 x.op, .slice x.A x.ns x.cs, .int .i64 x.mn, .int .i64 x.mx, .slice x.D x.nk x.ck] 26)).alloc hg (.cells #[.int .i64 x.op, .slice x.A x.ns x.cs, .int .i64 x.mn, .int .i64 x.mx, .slice x.D x.nk x.ck] 26)).alloc hg (.cells #[.int .i64 6, .slice none 0 0, .int .i64 0, .int .i64 0, .slice (some ⟨w2.heap.size + 1, 0, none⟩) 1 1] 26)).off hg ho
  refine ⟨ra, ⟨ra.1.grown hg (((Below.refl _ _).setCell (p := ⟨w2.heap.size + 1 + 1, 2, none⟩) (by show w.heap.size ≤ w2.heap.size + 1 + 1; omega) _).setCell (p := ⟨w2.heap.size + 1 + 1, 3, none⟩) (by show w.heap.size ≤ w2.heap.size + 1 + 1; omega) _), by simp; omega, (k _ (by omega)).trans ra.2.2⟩, (ho.2 _ (by omega) (by omega)).trans e1, (k _ (by omega)).trans ((ho.2 _ (by omega) (by omega)).trans e2), fun b hb hne => (k _ (by omega)).trans ((ho.2 _ (by omega) hne).trans (e3 b hb)), hsz⟩
theorem rep_nodes (h2 : RoomAt g w w2) (hg : g < w.heap.size) (ho : Off g (((w2.alloc (.cells #[.int .i64 x.op, .slice x.A x.ns x.cs, .int .i64 x.mn, .int .i64 x.mx, .slice x.D x.nk x.ck] 26)).alloc (.cells #[.int .i64 x.op, .slice x.A x.ns x.cs, .int .i64 x.mn, .int .i64 x.mx, .slice x.D x.nk x.ck] 26)).alloc (.cells #[.int .i64 6, .slice none 0 0, .int .i64 0, .int .i64 0, .slice (some ⟨w2.heap.size + 1, 0, none⟩) 1 1] 26)) a) (mn mx : Int) {F : Nat → Prop} (hF : ∀ b, F b → w.heap.size < b) (hN : NodesIn F w2 [x] n) : NodesIn (fun b => w.heap.size < b) ((a.setCell ⟨w2.heap.size + 1 + 1, 2, none⟩ (.int .i64 mn)).setCell ⟨w2.heap.size + 1 + 1, 3, none⟩ (.int .i64 mx)) [repNV w2 mn mx] (.cons 6 [] mn mx n .nil) := by
  obtain ⟨_, _, _, e2, e3, hsz⟩ := rep_frame (x := x) h2 hg ho mn mx
  have hlt := h2.2.1
  have hn : NodesIn (fun b => w.heap.size < b) ((a.setCell ⟨w2.heap.size + 1 + 1, 2, none⟩ (.int .i64 mn)).setCell ⟨w2.heap.size + 1 + 1, 3, none⟩ (.int .i64 mx)) [x] n := hN.move (by simp; omega) fun b hb hlt => ⟨hF b hb, e3 b hlt (by have := hF b hb; omega)⟩
  refine ⟨⟨rfl, rfl, rfl⟩, rowF_nil _ _, ⟨hN.len, fun _ => ⟨w2.heap.size + 1, 0, rfl, by show w.heap.size < w2.heap.size + 1; omega, by simp; omega, hn.wood fun j y hy i v hv => ?_⟩⟩, trivial⟩
  rcases j with _ | j
  · simp only [List.getElem?_cons_zero, Option.some.injEq] at hy
    subst hy
    rw [Nat.zero_mul, Nat.add_zero, Nat.zero_add, cell_of_row _ (w2.heap.size + 1) i _ _ (0, 0) e2]
    simpa using hv
  · simp at hy
end
section
variable {d g : Nat} {c : Int} {l : List Int} {w : World}
set_option maxHeartbeats 8000000 in
/-- An atom, and the count behind it. -/
theorem piece_atom (h : Rd w g (c :: l)) (h94 : c ≠ 94) (h36 : c ≠ 36) (HA : ∀ w, Rd w g (c :: l) → Calls Tryd.prog 49 #[.pointer (some ⟨g, 0, none⟩), .int .i64 (d : Int)] w (AtomV d g (c :: l) w)) :
    Calls Tryd.prog 37 #[.pointer (some ⟨g, 0, none⟩), .int .i64 (d : Int)] w (PieceV d g (c :: l) w) := by
  have hg := h.lt
  have HR1 := Lib.hid (RoomAt.start hg)
  have hR1 := h.below ((Below.refl _ _).alloc (Nat.le_refl _) (.cells #[.int .i64 0, .slice none 0 0, .int .i64 0, .int .i64 0, .slice none 0 0] 26))
  have HT0 := Lib.hid (take_no (x := 94) hR1 (by rw [List.headD_cons]; exact h94))
  have HT1 := Lib.hid (take_no (x := 36) hR1 (by rw [List.headD_cons]; exact h36))
  have HAt := Lib.hid (HA _ hR1)
  clear h hR1 HA h94 h36
  go_enter Tryd.func37, Tryd.ntmps37
  go_wp2_with (first
    | (go_at_call 21; (with_reducible refine HT0.out.mono ?_); rintro e w1 ⟨rfl, rfl⟩)
    | (go_at_call 21; (with_reducible refine HT1.out.mono ?_); rintro e w1 ⟨rfl, rfl⟩)
    | (go_at_call 49; (with_reducible refine HAt.out.mono ?_); rintro e w2 hv; rcases hv with ⟨x, rfl, hn, ho⟩ | ⟨x, n, l1, rfl, hN, hlen, hrun, hr, ho⟩ <;> (have HR2 := Lib.hid (HR1.out.off hg ho); have HR3 := Lib.hid (HR2.out.alloc hg (.cells #[.int .i64 x.op, .slice x.A x.ns x.cs, .int .i64 x.mn, .int .i64 x.mx, .slice x.D x.nk x.ck] 26)); obtain ⟨q0, q1, q2, q3, q4, qf⟩ := HR3.out.facts; clear ho; simp only [NV.val])))
  · obtain ⟨z0, z1, z2, z3, z4, _⟩ := HR3.out.cells zeroNV
    simp only [put5, zeroNV] at z0 z1 z2 z3 z4
    (try simp only [Exit.inBlock, Exit.then])
    refine bodyPost_ret (v := .tuple #[zeroNV.val, .bool false]) ?_ rfl ?_
    · rw [results_cell_tmp rfl]; go_simp
      rfl
    · exact .inl ⟨_, rfl, hn, HR3.out.put hg zeroNV⟩
  clear q0 q1 q2 q3 q4 qf
  have HRd := Lib.hid (((hr.below ((Below.refl _ _).alloc (Nat.le_refl _) (.cells #[.int .i64 x.op, .slice x.A x.ns x.cs, .int .i64 x.mn, .int .i64 x.mx, .slice x.D x.nk x.ck] 26))).below ((Below.refl _ _).alloc (Nat.le_refl _) (.cells #[.int .i64 x.op, .slice x.A x.ns x.cs, .int .i64 x.mn, .int .i64 x.mx, .slice x.D x.nk x.ck] 26))).below ((Below.refl _ _).alloc (Nat.le_refl _) (.cells #[.int .i64 6, .slice none 0 0, .int .i64 0, .int .i64 0, .slice (some ⟨w2.heap.size + 1, 0, none⟩) 1 1] 26)))
  have HH := Lib.hid (And.intro hN (And.intro hlen hrun))
  have hF : Hid (∀ b, (w.alloc (.cells #[.int .i64 0, .slice none 0 0, .int .i64 0, .int .i64 0, .slice none 0 0] 26)).heap.size ≤ b → w.heap.size < b) := Lib.hid fun b hb => by
    have : (w.alloc (.cells #[.int .i64 0, .slice none 0 0, .int .i64 0, .int .i64 0, .slice none 0 0] 26)).heap.size = w.heap.size + 1 := by simp
    omega
  have HL1 := Lib.hid hN.len
  clear hN hlen hrun hr
  by_cases h42 : l1.headD (-1) = 42
  · rcases l1 with _ | ⟨y, l2⟩
    · cases h42
    rw [List.headD_cons] at h42
    subst h42
    have HY := Lib.hid (take_yes HRd.out)
    go_wp2_with (first
      | (go_at_call 21; (with_reducible refine HY.out.mono ?_); rintro e w6 ⟨rfl, hr, ho⟩; have HO := Lib.hid (And.intro hr ho); have HF := Lib.hid (rep_frame (x := x) HR2.out hg ho 0 (-1)); have HRa := Lib.hid HF.out.2.1; obtain ⟨c0, c1, c2, c3, c4, cf⟩ := box_facts HF.out.2.2.1; obtain ⟨q0, q1, q2, q3, q4, qf⟩ := HRa.out.facts; clear hr ho))
    obtain ⟨z0, z1, z2, z3, z4, _⟩ := HRa.out.cells (repNV w2 0 (-1))
    simp only [put5, repNV] at z0 z1 z2 z3 z4
    (try simp only [Exit.inBlock, Exit.then])
    refine bodyPost_ret (v := .tuple #[(repNV w2 0 (-1)).val, .bool true]) ?_ rfl ?_
    · rw [results_cell_tmp rfl]; go_simp
      rfl
    · refine .inr ⟨_, _, l2, rfl, HRa.out.nodes (repNV w2 0 (-1)) (rep_nodes HR2.out hg HO.out.2 0 (-1) hF.out HH.out.1), ?_, fun st a p hst => ?_, HRa.out.rd hg ((HO.out.1.keep (B := w.heap.size) (((Below.refl _ _).setCell (p := ⟨w2.heap.size + 1 + 1, 2, none⟩) (by have := HR2.out.2.1; show w.heap.size ≤ w2.heap.size + 1 + 1; omega) _).setCell (p := ⟨w2.heap.size + 1 + 1, 3, none⟩) (by have := HR2.out.2.1; show w.heap.size ≤ w2.heap.size + 1 + 1; omega) _) hg)) (repNV w2 0 (-1)), HRa.out.put hg (repNV w2 0 (-1))⟩
      · have := HH.out.2.1; rw [List.length_cons] at this; omega
      · rw [HH.out.2.2 st a p hst, runL_count (tok_star l2) rfl, if_pos rfl, ← repLast_app _ _ n HL1.out]
        rfl
  by_cases h43 : l1.headD (-1) = 43
  · rcases l1 with _ | ⟨y, l2⟩
    · cases h43
    rw [List.headD_cons] at h43
    subst h43
    have HN42 := Lib.hid (take_no (x := 42) HRd.out (by rw [List.headD_cons]; decide))
    have HY := Lib.hid (take_yes HRd.out)
    clear h42
    go_wp2_with (first
      | (go_at_call 21; (with_reducible refine HN42.out.mono ?_); rintro e w3 ⟨rfl, rfl⟩)
      | (go_at_call 21; (with_reducible refine HY.out.mono ?_); rintro e w6 ⟨rfl, hr, ho⟩; have HO := Lib.hid (And.intro hr ho); have HF := Lib.hid (rep_frame (x := x) HR2.out hg ho 1 (-1)); have HRa := Lib.hid HF.out.2.1; obtain ⟨c0, c1, c2, c3, c4, cf⟩ := box_facts HF.out.2.2.1; obtain ⟨q0, q1, q2, q3, q4, qf⟩ := HRa.out.facts; clear hr ho))
    obtain ⟨z0, z1, z2, z3, z4, _⟩ := HRa.out.cells (repNV w2 1 (-1))
    simp only [put5, repNV] at z0 z1 z2 z3 z4
    (try simp only [Exit.inBlock, Exit.then])
    refine bodyPost_ret (v := .tuple #[(repNV w2 1 (-1)).val, .bool true]) ?_ rfl ?_
    · rw [results_cell_tmp rfl]; go_simp
      rfl
    · refine .inr ⟨_, _, l2, rfl, HRa.out.nodes (repNV w2 1 (-1)) (rep_nodes HR2.out hg HO.out.2 1 (-1) hF.out HH.out.1), ?_, fun st a p hst => ?_, HRa.out.rd hg ((HO.out.1.keep (B := w.heap.size) (((Below.refl _ _).setCell (p := ⟨w2.heap.size + 1 + 1, 2, none⟩) (by have := HR2.out.2.1; show w.heap.size ≤ w2.heap.size + 1 + 1; omega) _).setCell (p := ⟨w2.heap.size + 1 + 1, 3, none⟩) (by have := HR2.out.2.1; show w.heap.size ≤ w2.heap.size + 1 + 1; omega) _) hg)) (repNV w2 1 (-1)), HRa.out.put hg (repNV w2 1 (-1))⟩
      · have := HH.out.2.1; rw [List.length_cons] at this; omega
      · rw [HH.out.2.2 st a p hst, runL_count (tok_plus l2) rfl, if_pos rfl, ← repLast_app _ _ n HL1.out]
        rfl
  by_cases h63 : l1.headD (-1) = 63
  · rcases l1 with _ | ⟨y, l2⟩
    · cases h63
    rw [List.headD_cons] at h63
    subst h63
    have HN42 := Lib.hid (take_no (x := 42) HRd.out (by rw [List.headD_cons]; decide))
    have HN43 := Lib.hid (take_no (x := 43) HRd.out (by rw [List.headD_cons]; decide))
    have HY := Lib.hid (take_yes HRd.out)
    clear h42 h43
    go_wp2_with (first
      | (go_at_call 21; (with_reducible refine HN42.out.mono ?_); rintro e w3 ⟨rfl, rfl⟩)
      | (go_at_call 21; (with_reducible refine HN43.out.mono ?_); rintro e w3 ⟨rfl, rfl⟩)
      | (go_at_call 21; (with_reducible refine HY.out.mono ?_); rintro e w6 ⟨rfl, hr, ho⟩; have HO := Lib.hid (And.intro hr ho); have HF := Lib.hid (rep_frame (x := x) HR2.out hg ho 0 1); have HRa := Lib.hid HF.out.2.1; obtain ⟨c0, c1, c2, c3, c4, cf⟩ := box_facts HF.out.2.2.1; obtain ⟨q0, q1, q2, q3, q4, qf⟩ := HRa.out.facts; clear hr ho))
    obtain ⟨z0, z1, z2, z3, z4, _⟩ := HRa.out.cells (repNV w2 0 1)
    simp only [put5, repNV] at z0 z1 z2 z3 z4
    (try simp only [Exit.inBlock, Exit.then])
    refine bodyPost_ret (v := .tuple #[(repNV w2 0 1).val, .bool true]) ?_ rfl ?_
    · rw [results_cell_tmp rfl]; go_simp
      rfl
    · refine .inr ⟨_, _, l2, rfl, HRa.out.nodes (repNV w2 0 1) (rep_nodes HR2.out hg HO.out.2 0 1 hF.out HH.out.1), ?_, fun st a p hst => ?_, HRa.out.rd hg ((HO.out.1.keep (B := w.heap.size) (((Below.refl _ _).setCell (p := ⟨w2.heap.size + 1 + 1, 2, none⟩) (by have := HR2.out.2.1; show w.heap.size ≤ w2.heap.size + 1 + 1; omega) _).setCell (p := ⟨w2.heap.size + 1 + 1, 3, none⟩) (by have := HR2.out.2.1; show w.heap.size ≤ w2.heap.size + 1 + 1; omega) _) hg)) (repNV w2 0 1), HRa.out.put hg (repNV w2 0 1)⟩
      · have := HH.out.2.1; rw [List.length_cons] at this; omega
      · rw [HH.out.2.2 st a p hst, runL_count (tok_quest l2) rfl, if_pos rfl, ← repLast_app _ _ n HL1.out]
        rfl
  by_cases h123 : l1.headD (-1) = 123
  · rcases l1 with _ | ⟨y, l2⟩
    · cases h123
    rw [List.headD_cons] at h123
    subst h123
    have HN42 := Lib.hid (take_no (x := 42) HRd.out (by rw [List.headD_cons]; decide))
    have HN43 := Lib.hid (take_no (x := 43) HRd.out (by rw [List.headD_cons]; decide))
    have HN63 := Lib.hid (take_no (x := 63) HRd.out (by rw [List.headD_cons]; decide))
    have HY := Lib.hid (take_yes HRd.out)
    clear h42 h43 h63
    go_wp2_with (first
      | (go_at_call 21; (with_reducible refine HN42.out.mono ?_); rintro e w3 ⟨rfl, rfl⟩)
      | (go_at_call 21; (with_reducible refine HN43.out.mono ?_); rintro e w3 ⟨rfl, rfl⟩)
      | (go_at_call 21; (with_reducible refine HN63.out.mono ?_); rintro e w3 ⟨rfl, rfl⟩)
      | (go_at_call 21; (with_reducible refine HY.out.mono ?_); rintro e w5 ⟨rfl, hr, ho⟩; have HO5 := Lib.hid (And.intro hr ho); clear hr ho)
      | (go_at_call 50; (with_reducible refine (braces_any HO5.out.1).mono ?_); rintro e w6 hv; rcases hv with ⟨mn, mx, rfl, hb, ho⟩ | ⟨mn, mx, l3, rfl, hb, hr, ho⟩ <;> (have HO := Lib.hid (HO5.out.2.trans ho); have HF := Lib.hid (rep_frame (x := x) HR2.out hg HO.out mn mx); have HRa := Lib.hid HF.out.2.1; obtain ⟨c0, c1, c2, c3, c4, cf⟩ := box_facts HF.out.2.2.1; obtain ⟨q0, q1, q2, q3, q4, qf⟩ := HRa.out.facts; clear ho)))
    ·
      obtain ⟨z0, z1, z2, z3, z4, _⟩ := HRa.out.cells (repNV w2 mn mx)
      simp only [put5, repNV] at z0 z1 z2 z3 z4
      (try simp only [Exit.inBlock, Exit.then])
      refine bodyPost_ret (v := .tuple #[(repNV w2 mn mx).val, .bool false]) ?_ rfl ?_
      · rw [results_cell_tmp rfl]; go_simp
        rfl
      · refine .inl ⟨_, rfl, fun st a p hst => ?_, HRa.out.put hg (repNV w2 mn mx)⟩
        rw [HH.out.2.2 st a p hst]
        exact runL_none (by rw [tok_brace]; exact hb) (by simp)
    ·
      obtain ⟨z0, z1, z2, z3, z4, _⟩ := HRa.out.cells (repNV w2 mn mx)
      simp only [put5, repNV] at z0 z1 z2 z3 z4
      (try simp only [Exit.inBlock, Exit.then])
      refine bodyPost_ret (v := .tuple #[(repNV w2 mn mx).val, .bool true]) ?_ rfl ?_
      · rw [results_cell_tmp rfl]; go_simp
        rfl
      · refine .inr ⟨_, _, l3, rfl, HRa.out.nodes (repNV w2 mn mx) (rep_nodes HR2.out hg HO.out mn mx hF.out HH.out.1), ?_, fun st a p hst => ?_, HRa.out.rd hg ((hr.keep (B := w.heap.size) (((Below.refl _ _).setCell (p := ⟨w2.heap.size + 1 + 1, 2, none⟩) (by have := HR2.out.2.1; show w.heap.size ≤ w2.heap.size + 1 + 1; omega) _).setCell (p := ⟨w2.heap.size + 1 + 1, 3, none⟩) (by have := HR2.out.2.1; show w.heap.size ≤ w2.heap.size + 1 + 1; omega) _) hg)) (repNV w2 mn mx), HRa.out.put hg (repNV w2 mn mx)⟩
        · have h1 := HH.out.2.1; have h2 := braceL_lt hb; simp only [List.length_cons] at h1 ⊢; omega
        · rw [HH.out.2.2 st a p hst, runL_count (t := tokN mn mx) (l' := l3) (by rw [tok_brace]; exact hb) rfl, if_pos rfl, ← repLast_app _ _ n HL1.out]
          rfl
  · have HN42 := Lib.hid (take_no (x := 42) HRd.out h42)
    have HN43 := Lib.hid (take_no (x := 43) HRd.out h43)
    have HN63 := Lib.hid (take_no (x := 63) HRd.out h63)
    have HN123 := Lib.hid (take_no (x := 123) HRd.out h123)
    have HCB := Lib.hid (show countB (l1.headD (-1)) = false by unfold countB; rw [decide_eq_false_iff_not]; omega)
    have HRa := Lib.hid ((HR3.out.alloc hg (.cells #[.int .i64 x.op, .slice x.A x.ns x.cs, .int .i64 x.mn, .int .i64 x.mx, .slice x.D x.nk x.ck] 26)).alloc hg (.cells #[.int .i64 6, .slice none 0 0, .int .i64 0, .int .i64 0, .slice (some ⟨w2.heap.size + 1, 0, none⟩) 1 1] 26))
    obtain ⟨q0, q1, q2, q3, q4, qf⟩ := HRa.out.facts
    clear h42 h43 h63 h123
    go_wp2_with (first
      | (go_at_call 21; (with_reducible refine HN42.out.mono ?_); rintro e w3 ⟨rfl, rfl⟩)
      | (go_at_call 21; (with_reducible refine HN43.out.mono ?_); rintro e w3 ⟨rfl, rfl⟩)
      | (go_at_call 21; (with_reducible refine HN63.out.mono ?_); rintro e w3 ⟨rfl, rfl⟩)
      | (go_at_call 21; (with_reducible refine HN123.out.mono ?_); rintro e w3 ⟨rfl, rfl⟩))
    obtain ⟨z0, z1, z2, z3, z4, _⟩ := HRa.out.cells x
    simp only [put5] at z0 z1 z2 z3 z4
    (try simp only [Exit.inBlock, Exit.then])
    refine bodyPost_ret (v := .tuple #[x.val, .bool true]) ?_ rfl ?_
    · rw [results_cell_tmp rfl]; go_simp
      rfl
    · refine .inr ⟨x, n, l1, rfl, HRa.out.nodes x (HH.out.1.move (by simp; omega) fun b hb hlt => ⟨hF.out b hb, ?_⟩), HH.out.2.1, fun st a p hst => ?_, HRa.out.rd hg HRd.out x, HRa.out.put hg x⟩
      · exact (Below.heap_alloc _ _ _ (by simp; omega)).trans ((Below.heap_alloc _ _ _ (by simp; omega)).trans (Below.heap_alloc _ _ _ hlt))
      · rw [HH.out.2.2 st a p hst]
        exact runL_loose HCB.out
end
/-- A piece: what begins with none of the signs that end pieces. -/
theorem piece_any (F : FacesS) (d : Nat) (hd : d ≤ 10) {c : Int} {l : List Int} (hs : c ≠ 124 ∧ c ≠ 41) {w : World} {g : Nat} (h : Rd w g (c :: l)) (HP : d < 10 → ∀ w, Rd w g l → Calls Tryd.prog 12 #[.pointer (some ⟨g, 0, none⟩), .int .i64 ((d : Int) + 1)] w (PatV (d + 1) g l w)) :
    Calls Tryd.prog 37 #[.pointer (some ⟨g, 0, none⟩), .int .i64 (d : Int)] w (PieceV d g (c :: l) w) := by
  by_cases h94 : c = 94
  · subst h94; exact piece_begin d h
  by_cases h36 : c = 36
  · subst h36; exact piece_end d h
  exact piece_atom h h94 h36 fun w h => atom_any F d hd ⟨h94, h36, hs.1, hs.2⟩ h HP
end Go.Proofs.YtjpabeeokgfloaaDoor
/- The parser's alternative. -/
namespace Go.Proofs.YtjpabeeokgfloaaDoor
open Go Go.RowKit
set_option linter.unusedVariables false
set_option maxRecDepth 20000

/-- Where alternatives end. -/
def StopL (l : List Int) : Prop := l = [] ∨ (∃ r, l = 124 :: r) ∨ ∃ r, l = 41 :: r
/-- What alternative answers. -/
def AltV (d g : Nat) (l : List Int) (w : World) (e : Ending) (w' : World) : Prop :=
  (∃ x : NV, e = .returned (.tuple #[x.val, .bool false]) ∧ (∀ st a, st.length = d → runL l st a .nil false = none) ∧ Off g w w') ∨
  (∃ (x : NV) (T : Wood) (l' : List Int), e = .returned (.tuple #[x.val, .bool true]) ∧ NodesIn (fun b => w.heap.size ≤ b) w' [x] (oneN 4 T) ∧ l'.length ≤ l.length ∧ StopL l' ∧ (∀ st a, st.length = d → runL l st a .nil false = runL l' st a T false) ∧ Rd w' g l' ∧ Off g w w')
theorem NodeIn.val {F : Nat → Prop} {w : World} {v : Value} {T : Wood} (h : NodeIn F w v T) : ∃ x : NV, v = x.val ∧ NodesIn F w [x] T := h.one
theorem RoomAt.drew {g : Nat} {w a : World} (h : RoomAt g w a) : RoomAt g w a.drew := ⟨h.1.drewN 1, h.2.1, h.2.2⟩

theorem RoomAt.grown {g : Nat} {w a b : World} (h : RoomAt g w a) (hg : g < w.heap.size) (hb : Below (w.heap.size + 1) a b) : RoomAt g w b :=
  ⟨h.1.grown hg (hb.mono (Nat.le_succ _)), Nat.lt_of_lt_of_le h.2.1 hb.size, (hb.block _ (Nat.lt_succ_self _)).trans h.2.2⟩
/-- A node that a call has answered, behind those of a row. -/
theorem push_next {g : Nat} {w wr w2 : World} {P : Option Addr} {q pc : Nat} {xs : List NV} {T n : Wood} {x : NV} (hg : g < w.heap.size) (h : wr.ownsRow (w.heap.size + 1) 26 5 (.slice P q pc) q (cellsN xs)) (hT : NodesIn (Fr (w.heap.size + 1) (.slice P q pc)) wr xs T) (hR : RoomAt g w wr) (ho : Off g wr w2) (hx : NodesIn (fun b => wr.heap.size ≤ b) w2 [x] n) (hq : q ≤ 100000) :
    ∃ P' pc' w', (Builtin.append_ #[24, 24] 24 #[.slice P q pc, .slice (some ⟨w2.heap.size + 1, 0, none⟩) 1 1]).run Tryd.prog ((w2.alloc (.cells #[.int .i64 x.op, .slice x.A x.ns x.cs, .int .i64 x.mn, .int .i64 x.mx, .slice x.D x.nk x.ck] 26)).alloc (.cells #[.int .i64 x.op, .slice x.A x.ns x.cs, .int .i64 x.mn, .int .i64 x.mx, .slice x.D x.nk x.ck] 26)) = .ok (.slice P' (q + 1) pc') w' ∧
      w'.ownsRow (w.heap.size + 1) 26 5 (.slice P' (q + 1) pc') (q + 1) (cellsN (xs ++ [x])) ∧ NodesIn (Fr (w.heap.size + 1) (.slice P' (q + 1) pc')) w' (xs ++ [x]) (T.app n) ∧ Below (w.heap.size + 1) w2 w' := by
  obtain ⟨W, hW⟩ : ∃ W, W = w2.alloc (.cells #[.int .i64 x.op, .slice x.A x.ns x.cs, .int .i64 x.mn, .int .i64 x.mx, .slice x.D x.nk x.ck] 26) := ⟨_, rfl⟩
  have hsz : W.heap.size = w2.heap.size + 1 := by rw [hW]; simp
  have hold : ∀ k, k < w2.heap.size → W.heap[k]? = w2.heap[k]? := fun k hk => by rw [hW]; exact Below.heap_alloc _ _ _ hk
  have hle : w.heap.size + 1 ≤ wr.heap.size := hR.2.1
  have hle2 := ho.1.size
  have h2 : W.ownsRow (w.heap.size + 1) 26 5 (.slice P q pc) q (cellsN xs) := row_keep (own_off h (by omega) ho) fun k hk _ => hold k hk
  have hT2 : NodesIn (Fr (w.heap.size + 1) (.slice P q pc)) W xs T := hT.move (by omega) fun b hF hlt => ⟨hF, (hold b (by omega)).trans (ho.2 b hlt (by have := hF.1; omega))⟩
  have hx2 : NodesIn (Fr (w.heap.size + 1) (.slice P q pc)) W [x] n := hx.move (by omega) fun b hF hlt => ⟨⟨Nat.le_trans hle hF, fun e => by have := (row_lt h e).2; have hF : wr.heap.size ≤ b := hF; omega⟩, hold b hlt⟩
  obtain ⟨P', pc', w', h3, h4, h5, h6⟩ := push_node h2 hT2 hx2 hq (by omega)
  rw [hsz] at h3
  rw [← hW]
  refine ⟨P', pc', w', h3, h4, h5, ?_⟩
  have : Below (w.heap.size + 1) w2 W := by rw [hW]; exact (Below.refl _ _).alloc (by omega) _
  exact this.trans h6

set_option maxHeartbeats 4000000 in
theorem alt_walk (F : FacesS) {d g : Nat} (hd : d ≤ 10) {l : List Int} {w : World} (h : Rd w g l)
    (HP : ∀ (c : Int) (r : List Int), (c :: r).length ≤ l.length → d < 10 → ∀ w, Rd w g r → Calls Tryd.prog 12 #[.pointer (some ⟨g, 0, none⟩), .int .i64 ((d : Int) + 1)] w (PatV (d + 1) g r w)) :
    Calls Tryd.prog 20 #[.pointer (some ⟨g, 0, none⟩), .int .i64 (d : Int)] w (AltV d g l w) := by
  have hg := h.lt
  have HR1 := Lib.hid (RoomAt.start hg)
  have hR1 := Lib.hid (h.below ((Below.refl _ _).alloc (Nat.le_refl _) (.cells #[.int .i64 0, .slice none 0 0, .int .i64 0, .int .i64 0, .slice none 0 0] 26)))
  have hll := h.few
  have HPH := Lib.hid HP
  clear h HP
  go_enter Tryd.func20, Tryd.ntmps20
  go_wp2_with fail
  go_loopw [6] (fun vs wr => ∃ (q pc : Nat) (P : Option Addr) (xs : List NV) (T : Wood) (lr : List Int), vs = .slice P q pc ∧ q + lr.length ≤ l.length ∧
    Hid (wr.ownsRow (w.heap.size + 1) 26 5 (.slice P q pc) q (cellsN xs) ∧ NodesIn (Fr (w.heap.size + 1) (.slice P q pc)) wr xs T ∧ RoomAt g w wr ∧ Rd wr g lr ∧ ∀ st a, st.length = d → runL l st a .nil false = runL lr st a T false)) (fun _ wr => leftN wr g)
  case atStart => exact ⟨0, 0, none, [], .nil, l, rfl, by omega, Lib.hid ⟨nilN _ _, trivial, HR1.out, hR1.out, fun st a _ => rfl⟩⟩
  case round =>
    obtain ⟨q, pc, P, xs, T, lr, rfl, hql, H⟩ := hrel
    have HPk := Lib.hid (peek_any H.out.2.2.2.1)
    by_cases hstop : StopL lr
    · have HJ := Lib.hid fun w' (hw : w'.ownsRow (w.heap.size + 1) 26 5 (.slice P q pc) q (cellsN xs)) (hN : NodesIn (Fr (w.heap.size + 1) (.slice P q pc)) w' xs T) => join_any 4 hw hN (by omega)
      obtain ⟨y, hy⟩ : ∃ y, y = lr.headD (-1) := ⟨_, rfl⟩
      rw [← hy] at HPk
      have HS := Lib.hid hstop
      rcases (show y = -1 ∨ y = 124 ∨ y = 41 by rcases hstop with rfl | ⟨r, rfl⟩ | ⟨r, rfl⟩ <;> simp_all) with rfl | rfl | rfl
      all_goals
        clear hy hstop
        go_wp2_with (first
          | (go_at_call 36; (with_reducible refine HPk.out.mono ?_); rintro e w1 ⟨rfl, rfl⟩)
          | (go_at_call 22; (with_reducible refine (HJ.out _ H.out.1 H.out.2.1).mono ?_); rintro e w2 ⟨v, rfl, hN, hb⟩; obtain ⟨x, hv, hN2⟩ := hN.val; subst hv; have HR9 := Lib.hid (H.out.2.2.1.below hg hb); have HRd := Lib.hid (H.out.2.2.2.1.below hb); have HN := Lib.hid hN2; obtain ⟨q0, q1, q2, q3, q4, qf⟩ := HR9.out.facts; clear hN hN2 hb; simp only [NV.val]))
        obtain ⟨z0, z1, z2, z3, z4, _⟩ := HR9.out.cells x
        simp only [put5] at z0 z1 z2 z3 z4
        (try simp only [Exit.inBlock, Exit.then])
        refine bodyPost_ret (v := .tuple #[x.val, .bool true]) ?_ rfl ?_
        · rw [results_cell_tmp rfl]; go_simp
          rfl
        · exact .inr ⟨x, T, lr, rfl, HR9.out.nodes x (HN.out.move (Nat.le_refl _) fun b hF _ => ⟨hF, rfl⟩), by omega, HS.out, H.out.2.2.2.2, HR9.out.rd hg HRd.out x, HR9.out.put hg x⟩
    · rcases lr with _ | ⟨c, r⟩
      · exact absurd (.inl rfl) hstop
      have hc : c ≠ 124 ∧ c ≠ 41 := ⟨fun e => hstop (.inr (.inl ⟨r, by rw [e]⟩)), fun e => hstop (.inr (.inr ⟨r, by rw [e]⟩))⟩
      have hpt := H.out.2.2.2.1.pts c (by simp)
      have HPc := Lib.hid (piece_any F d hd hc H.out.2.2.2.1 (fun h10 w hw => HPH.out c r (by omega) h10 w hw))
      rw [List.headD_cons] at HPk
      have e1 : ¬ c = -1 := by omega
      have e2 : ¬ c = 124 := hc.1
      have e3 : ¬ c = 41 := hc.2
      clear hstop hc hpt
      go_wp2_with (first
        | (go_at_call 36; (with_reducible refine HPk.out.mono ?_); rintro e w1 ⟨rfl, rfl⟩)
        | (go_at_call 37; (with_reducible refine HPc.out.mono ?_); rintro e w2 hv; rcases hv with ⟨x, rfl, hn, ho⟩ | ⟨x, n, l1, rfl, hN, hlen, hrun, hr, ho⟩ <;> (have HR2 := Lib.hid (H.out.2.2.1.off hg ho); have HR3 := Lib.hid (HR2.out.alloc hg (.cells #[.int .i64 x.op, .slice x.A x.ns x.cs, .int .i64 x.mn, .int .i64 x.mx, .slice x.D x.nk x.ck] 26)); obtain ⟨q0, q1, q2, q3, q4, qf⟩ := HR3.out.facts; (first | (obtain ⟨P', pc', w4, ha, how, hnw, hbw⟩ := push_next hg H.out.1 H.out.2.1 H.out.2.2.1 ho hN (by omega); have HA := Lib.hid ha; have HW := Lib.hid (And.intro how (And.intro hnw hbw)); have HRR := Lib.hid hr; have HLN := Lib.hid (And.intro hlen hrun); clear ha how hnw hbw hr hrun hlen) | skip); clear ho; simp only [NV.val]))
        | (at_builtin; refine wpList_append_run rfl _ _ 24 rfl rfl _ _ _ _ rfl rfl HA.out ?_))
      · obtain ⟨z0, z1, z2, z3, z4, _⟩ := HR3.out.cells zeroNV
        simp only [put5, zeroNV] at z0 z1 z2 z3 z4
        (try simp only [Exit.inBlock, Exit.then])
        refine bodyPost_ret (v := .tuple #[zeroNV.val, .bool false]) ?_ rfl ?_
        · rw [results_cell_tmp rfl]; go_simp
          rfl
        · exact .inl ⟨_, rfl, fun st a hst => (H.out.2.2.2.2 st a hst).trans (hn st a T hst), HR3.out.put hg zeroNV⟩
      · have hk := HRR.out.keep HW.out.2.2 (Nat.lt_succ_of_lt hg)
        refine ⟨⟨q + 1, pc', P', xs ++ [x], T.app n, l1, rfl, by have := HLN.out.1; omega, Lib.hid ⟨HW.out.1, HW.out.2.1, HR2.out.grown hg HW.out.2.2, hk, fun st a hst => (H.out.2.2.2.2 st a hst).trans (HLN.out.2 st a T hst)⟩⟩, ?_⟩
        rw [hk.left, H.out.2.2.2.1.left]
        exact HLN.out.1
/-- An alternative. -/
theorem alternative_any (F : FacesS) {d g : Nat} (hd : d ≤ 10) {l : List Int} {w : World} (h : Rd w g l)
    (HP : ∀ (c : Int) (r : List Int), (c :: r).length ≤ l.length → d < 10 → ∀ w, Rd w g r → Calls Tryd.prog 12 #[.pointer (some ⟨g, 0, none⟩), .int .i64 ((d : Int) + 1)] w (PatV (d + 1) g r w)) :
    Calls Tryd.prog 20 #[.pointer (some ⟨g, 0, none⟩), .int .i64 (d : Int)] w (AltV d g l w) := alt_walk F hd h HP
end Go.Proofs.YtjpabeeokgfloaaDoor
/- The parser's pattern. -/
namespace Go.Proofs.YtjpabeeokgfloaaDoor
open Go Go.RowKit
set_option linter.unusedVariables false
set_option maxRecDepth 20000

set_option maxHeartbeats 4000000 in
theorem pat_walk (F : FacesS) {d g : Nat} (hd : d ≤ 10) {l : List Int} {w : World} (h : Rd w g l)
    (HP : ∀ (r : List Int), r.length < l.length → d < 10 → ∀ w, Rd w g r → Calls Tryd.prog 12 #[.pointer (some ⟨g, 0, none⟩), .int .i64 ((d : Int) + 1)] w (PatV (d + 1) g r w)) :
    Calls Tryd.prog 12 #[.pointer (some ⟨g, 0, none⟩), .int .i64 (d : Int)] w (PatV d g l w) := by
  have hg := h.lt
  have HR1 := Lib.hid (RoomAt.start hg)
  have hR1 := Lib.hid (h.below ((Below.refl _ _).alloc (Nat.le_refl _) (.cells #[.int .i64 0, .slice none 0 0, .int .i64 0, .int .i64 0, .slice none 0 0] 26)))
  have hll := h.few
  have HPH := Lib.hid HP
  clear h HP
  go_enter Tryd.func12, Tryd.ntmps12
  go_wp2_with fail
  go_loopw [6] (fun vs wr => ∃ (q pc : Nat) (P : Option Addr) (xs : List NV) (A : Wood) (lr : List Int), vs = .slice P q pc ∧ q + lr.length ≤ l.length ∧
    Hid (wr.ownsRow (w.heap.size + 1) 26 5 (.slice P q pc) q (cellsN xs) ∧ NodesIn (Fr (w.heap.size + 1) (.slice P q pc)) wr xs A ∧ RoomAt g w wr ∧ Rd wr g lr ∧ ∀ st, st.length = d → runL l st .nil .nil false = runL lr st A .nil false)) (fun _ wr => leftN wr g)
  case atStart => exact ⟨0, 0, none, [], .nil, l, rfl, by omega, Lib.hid ⟨nilN _ _, trivial, HR1.out, hR1.out, fun st _ => rfl⟩⟩
  case round =>
    obtain ⟨q, pc, P, xs, A, lr, rfl, hql, H⟩ := hrel
    have HAl := Lib.hid (alternative_any F hd H.out.2.2.2.1 (fun c r hcr h10 w hw => HPH.out r (by rw [List.length_cons] at hcr; omega) h10 w hw))
    go_wp2_with (first
      | (go_at_call 20; (with_reducible refine HAl.out.mono ?_); rintro e w2 hv; rcases hv with ⟨x, rfl, hn, ho⟩ | ⟨x, T, l1, rfl, hN, hlen, hst, hrun, hr, ho⟩ <;> (have HR2 := Lib.hid (H.out.2.2.1.off hg ho); have HR3 := Lib.hid (HR2.out.alloc hg (.cells #[.int .i64 x.op, .slice x.A x.ns x.cs, .int .i64 x.mn, .int .i64 x.mx, .slice x.D x.nk x.ck] 26)); obtain ⟨q0, q1, q2, q3, q4, qf⟩ := HR3.out.facts; (first | (obtain ⟨P', pc', w4, ha, how, hnw, hbw⟩ := push_next hg H.out.1 H.out.2.1 H.out.2.2.1 ho hN (by omega); have HA := Lib.hid ha; have HW := Lib.hid (And.intro how (And.intro hnw hbw)); have HRR := Lib.hid (hr.keep hbw (Nat.lt_succ_of_lt hg)); have HR4 := Lib.hid (HR2.out.grown hg hbw); have HLN := Lib.hid (And.intro hlen (And.intro hst hrun)); clear ha how hnw hbw hr hrun hlen hst) | skip); clear ho; simp only [NV.val]))
      | (at_builtin; refine wpList_append_run rfl _ _ 24 rfl rfl _ _ _ _ rfl rfl HA.out ?_))
    · obtain ⟨z0, z1, z2, z3, z4, _⟩ := HR3.out.cells zeroNV
      simp only [put5, zeroNV] at z0 z1 z2 z3 z4
      (try simp only [Exit.inBlock, Exit.then])
      refine bodyPost_ret (v := .tuple #[zeroNV.val, .bool false]) ?_ rfl ?_
      · rw [results_cell_tmp rfl]; go_simp
        rfl
      · exact .inl ⟨_, rfl, fun st hst => (H.out.2.2.2.2 st hst).trans (hn st A hst), HR3.out.put hg zeroNV⟩
    · clear q0 q1 q2 q3 q4 qf
      obtain ⟨hlen, hst, hrun⟩ := HLN.out
      by_cases hbar : l1.headD (-1) = 124
      · rcases l1 with _ | ⟨y, l2⟩
        · cases hbar
        rw [List.headD_cons] at hbar
        subst hbar
        have HT := Lib.hid (take_yes HRR.out)
        have HLL := Lib.hid (And.intro hlen hrun)
        clear hlen hst hrun
        go_wp2_with (go_at_call 21; (with_reducible refine HT.out.mono ?_); rintro e w5 ⟨rfl, hr, ho⟩; have HO := Lib.hid (And.intro hr ho); clear hr ho)
        refine ⟨⟨q + 1, pc', P', xs ++ [x], A.app (oneN 4 T), l2, rfl, by have := HLL.out.1; rw [List.length_cons] at this; omega, Lib.hid ⟨own_off HW.out.1 (Nat.lt_succ_of_lt hg) HO.out.2, HW.out.2.1.move HO.out.2.1.size fun b hF hlt => ⟨hF, HO.out.2.2 b hlt (by have := hF.1; omega)⟩, HR4.out.off hg HO.out.2, HO.out.1, fun st hst => ?_⟩⟩, ?_⟩
        · rw [H.out.2.2.2.2 st hst, HLL.out.2 st A hst, runL_bar (tok_bar l2) rfl rfl]
        · rw [HO.out.1.left, H.out.2.2.2.1.left]
          have := HLL.out.1
          rw [List.length_cons] at this
          omega
      · have HT := Lib.hid (take_no HRR.out hbar)
        have HE := Lib.hid (show l1 = [] ∨ ∃ r, l1 = 41 :: r by
          rcases hst with h | ⟨r, rfl⟩ | h
          · exact .inl h
          · exact absurd rfl hbar
          · exact .inr h)
        have HLL := Lib.hid (And.intro hlen hrun)
        have HJ := Lib.hid (join_any 5 HW.out.1 HW.out.2.1 (by omega))
        clear hlen hst hrun hbar
        go_wp2_with (first
          | (go_at_call 21; (with_reducible refine HT.out.mono ?_); rintro e w5 ⟨rfl, rfl⟩)
          | (go_at_call 22; (with_reducible refine HJ.out.mono ?_); rintro e w6 ⟨v, rfl, hN, hb⟩; obtain ⟨x2, hv, hN2⟩ := hN.val; subst hv; have HR9 := Lib.hid (HR4.out.below hg hb); have HRd := Lib.hid (HRR.out.below hb); have HN := Lib.hid hN2; obtain ⟨q0, q1, q2, q3, q4, qf⟩ := HR9.out.facts; clear hN hN2 hb; simp only [NV.val]))
        obtain ⟨z0, z1, z2, z3, z4, _⟩ := HR9.out.cells x2
        simp only [put5] at z0 z1 z2 z3 z4
        (try simp only [Exit.inBlock, Exit.then])
        refine bodyPost_ret (v := .tuple #[x2.val, .bool true]) ?_ rfl ?_
        · rw [results_cell_tmp rfl]; go_simp
          rfl
        · refine .inr ⟨x2, _, l1, rfl, HR9.out.nodes x2 (HN.out.move (Nat.le_refl _) fun b hF _ => ⟨hF, rfl⟩), by have := HLL.out.1; omega, HE.out, fun st hst => ?_, HR9.out.rd hg HRd.out x2, HR9.out.put hg x2⟩
          rw [H.out.2.2.2.2 st hst, HLL.out.2 st A hst]
          exact shut_end HE.out
/-- A pattern within so many parentheses. -/
theorem pattern_any (F : FacesS) (g : Nat) : ∀ (N : Nat) (l : List Int), l.length < N → ∀ (d : Nat), d ≤ 10 → ∀ w, Rd w g l →
    Calls Tryd.prog 12 #[.pointer (some ⟨g, 0, none⟩), .int .i64 (d : Int)] w (PatV d g l w) := by
  intro N
  induction N with
  | zero => intro l h; omega
  | succ N ih =>
    intro l hl d hd w h
    refine pat_walk F hd h fun r hr h10 w' hw' => ?_
    have := ih r (by omega) (d + 1) (by omega) w' hw'
    rwa [show ((d + 1 : Nat) : Int) = (d : Int) + 1 by omega] at this
end Go.Proofs.YtjpabeeokgfloaaDoor
/- []byte(s), which is never nil. -/
namespace Go.Proofs.YtjpabeeokgfloaaDoor
open Go Go.RowKit

/-- []byte(s): never nil. -/
theorem bytes_some (s : ByteArray) (w : World) (hs : s.size ≤ maxLen) : ∃ A c w', (convert 9 51 (.string s)).run Tryd.prog w = .ok (.slice (some A) s.size c) w' ∧ RowI .u8 w' (some A) s.size (nums s) ∧ s.size ≤ c ∧ c ≤ maxLen ∧ Below w.heap.size w w' := by
  refine ⟨_, _, _, run_bytes_of_string w _ _ _ s Tryd.underlying9 Tryd.underlying51 Tryd.underlying5, ⟨nums_length s, fun h0 => ⟨_, _, rfl, ?_, fun j hj => ?_⟩⟩, ?_, ?_, ?_⟩
  · show w.heap.size < (w.heap.push _).size
    rw [Array.size_push]; omega
  · rw [Nat.zero_add]
    refine (World.cell?_alloc_mark w.drew _ _ _ j).trans ?_
    unfold bytesRow
    rw [Array.getElem?_append_left (by rw [Array.size_map]; exact hj), Array.getElem?_map]
    have hj' : j < s.data.size := hj
    have hn : j < (nums s).length := by rw [nums_length]; exact hj
    rw [Array.getElem?_eq_getElem hj']
    have e := nums_get s j hj hn
    rw [List.getD, List.getElem?_eq_getElem hn, Option.getD_some, e]
    rfl
  · exact grownCap_ge w s.size 0 _
  · exact grownCap_le_maxLen w s.size 0 _ hs
  · exact ((Below.refl _ _).drew).alloc (Nat.le_refl _) _
end Go.Proofs.YtjpabeeokgfloaaDoor
