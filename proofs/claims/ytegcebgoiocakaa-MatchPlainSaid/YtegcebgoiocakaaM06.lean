/- The document's trees while they grow: two rows of nodes that the call owns; one. -/
import Derived.Test.YtegcebgoiocakaaM05
import Derived.BigQuiet
import Derived.Deep.RegionHeldLaw
namespace Go.Proofs.Ytegcebgoiocakaa
open Go Go.RowKit
set_option linter.unusedVariables false
set_option maxRecDepth 20000

/-- append in a region that draws, by what its run gives in that world. -/
theorem step_append_ex {P : Program} {ops : Array Oper} {o : Oper} {a : Act} {w : World} {K : Act → World → Prop} {Q : Exit → Act → World → Prop} {E : Prop} (hgd : o.guard = none) (s x : Operand) (t : TypeId)
    (ho : o.op = .call { callee := .builtin .append, args := #[s, x], argTypes := #[t, t] }) (hty : o.type = t)
    (v y : Value) (hs : a.eval s = v) (hx : a.eval x = y) (R : Value → World → Prop) (hrun : ∃ v' w', (Builtin.append_ #[t, t] t #[v, y]).run P w = .ok v' w' ∧ R v' w')
    (hK : ∀ v' w', R v' w' → K (a.put o.dst v') w') : if Region.wanted o (yielded ops a.tmps) = true then Oper.wp P o a w K Q else E := by
  obtain ⟨v', w', hrun, hR⟩ := hrun
  have hw : Region.wanted o (yielded ops a.tmps) = true := by simp [Region.wanted, hgd]
  rw [if_pos hw]
  subst hty
  unfold Oper.wp
  simp [execOp, ho, resolve, invoke, builtin, hs, hx, hrun, Result.andThen]
  exact hK _ _ hR

/-- Where nodes may lie: among the tokens' sets, or made since; in neither row's own block. -/
def FT (B0 : Nat → Prop) (B : Nat) (V1 V2 : Value) (b : Nat) : Prop := (B0 b ∨ B ≤ b) ∧ V1.ownBlock ≠ some b ∧ V2.ownBlock ≠ some b
/-- Alternatives and pieces so far. -/
def TreeSt (B0 : Nat → Prop) (B : Nat) (w : World) (P1 : Option Addr) (q1 c1 : Nat) (P2 : Option Addr) (q2 c2 : Nat) (xs ys : List NV) (a p : Wood) : Prop :=
  w.ownsRow B 52 5 (.slice P1 q1 c1) q1 (cellsN xs) ∧ w.ownsRow B 52 5 (.slice P2 q2 c2) q2 (cellsN ys) ∧
  NodesIn (FT B0 B (.slice P1 q1 c1) (.slice P2 q2 c2)) w xs a ∧ NodesIn (FT B0 B (.slice P1 q1 c1) (.slice P2 q2 c2)) w ys p ∧
  ∀ b, (Value.slice P1 q1 c1).ownBlock = some b → (Value.slice P2 q2 c2).ownBlock ≠ some b

/-- A node behind those of a row, whatever world it is. -/
theorem push_at {w : World} {B : Nat} {P : Option Addr} {q pc : Nat} {xs : List NV} {x : NV} (h : w.ownsRow B 52 5 (.slice P q pc) q (cellsN xs)) {d : Nat} (hd : w.heap[d]? = some (.cells x.cells.toArray 52 (0, 0))) (hq : q ≤ 100000) (hb : B ≤ w.heap.size) :
    ∃ P' pc' w', (Builtin.append_ #[50, 50] 50 #[.slice P q pc, .slice (some ⟨d, 0, none⟩) 1 1]).run Try.prog w = .ok (.slice P' (q + 1) pc') w' ∧
      w'.ownsRow B 52 5 (.slice P' (q + 1) pc') (q + 1) (cellsN (xs ++ [x])) ∧ Below B w w' ∧ w.heap.size ≤ w'.heap.size ∧
      ∀ b, b < w.heap.size → (Value.slice P q pc).ownBlock ≠ some b → (Value.slice P' (q + 1) pc').ownBlock ≠ some b ∧ w'.heap[b]? = w.heap[b]? := by
  obtain ⟨i0, hi, hz0, hz1, hz2⟩ := info_parts info_node
  have hcells : ∀ j u, x.cells[j]? = some u → w.cell? ((⟨d, 0, none⟩ : Addr).add j) = some u := by
    intro j u hu
    rw [show (⟨d, 0, none⟩ : Addr).add j = ⟨d, 0 + j, none⟩ by unfold Addr.add; split <;> simp_all, cell_of_row w d (0 + j) _ 52 (0, 0) hd, Nat.zero_add]
    simpa using hu
  obtain ⟨V', w', h1, h2, h3, _, h4⟩ := run_append_own_at (P := Try.prog) w B 50 50 52 i0 _ 5 72 Try.underlying50 hi hz0 hz1 hz2 rfl (by decide) _ q _ h ⟨d, 0, none⟩ 1 1 x.cells rfl hcells x.cells_one (by unfold maxLen; omega) (by omega) hb
  have hb' : Below B w w' := (Below.refl _ _).grown h3 hb (by intro k hk; exact (row_lt h hk).1)
  have key : ∀ b, b < w.heap.size → (Value.slice P q pc).ownBlock ≠ some b → V'.ownBlock ≠ some b ∧ w'.heap[b]? = w.heap[b]? := by
    intro b hlt hne
    refine ⟨fun e => ?_, h3.block b hlt fun e => hne e.symm⟩
    rcases h4 with h4 | h4
    · exact hne (h4 ▸ e)
    · rw [h4] at e
      injection e with e
      omega
  have e : cellsN xs ++ x.cells = cellsN (xs ++ [x]) := by rw [cellsN_append]; simp [cellsN]
  rw [e] at h2
  rcases h2.2 with ⟨rfl, h0⟩ | ⟨b, cap, cu, rfl, _⟩
  · omega
  · exact ⟨_, _, w', h1, h2, hb', h3.size, key⟩
section
variable {B0 : Nat → Prop} {B : Nat} {w X : World} {P1 P2 : Option Addr} {q1 c1 q2 c2 : Nat} {xs ys : List NV} {a p n : Wood} {x : NV}
theorem TreeSt.below (h : TreeSt B0 B w P1 q1 c1 P2 q2 c2 xs ys a p) (hb : Below w.heap.size w X) : TreeSt B0 B X P1 q1 c1 P2 q2 c2 xs ys a p :=
  ⟨row_keep h.1 fun k hk _ => hb.block k hk, row_keep h.2.1 fun k hk _ => hb.block k hk, h.2.2.1.move hb.size fun b hF hlt => ⟨hF, hb.block b hlt⟩, h.2.2.2.1.move hb.size fun b hF hlt => ⟨hF, hb.block b hlt⟩, h.2.2.2.2⟩
theorem TreeSt.start (B0 : Nat → Prop) (B : Nat) (w : World) : TreeSt B0 B w none 0 0 none 0 0 [] [] .nil .nil := ⟨nilN _ _, nilN _ _, trivial, trivial, fun b h => by cases h⟩
theorem TreeSt.bounds (h : TreeSt B0 B w P1 q1 c1 P2 q2 c2 xs ys a p) : xs.length = q1 ∧ ys.length = q2 ∧ a.len = q1 ∧ p.len = q2 := by
  have h1 := h.1.1
  have h2 := h.2.1.1
  rw [cellsN_length] at h1 h2
  have h3 := h.2.2.1.len
  have h4 := h.2.2.2.1.len
  omega
/-- A piece. -/
theorem TreeSt.push2 (h : TreeSt B0 B w P1 q1 c1 P2 q2 c2 xs ys a p) {d : Nat} (hd : w.heap[d]? = some (.cells x.cells.toArray 52 (0, 0))) (hx : NodesIn (FT B0 B (.slice P1 q1 c1) (.slice P2 q2 c2)) w [x] n) (hq : q2 ≤ 100000) (hB : B ≤ w.heap.size) :
    ∃ P' pc' w', (Builtin.append_ #[50, 50] 50 #[.slice P2 q2 c2, .slice (some ⟨d, 0, none⟩) 1 1]).run Try.prog w = .ok (.slice P' (q2 + 1) pc') w' ∧
      TreeSt B0 B w' P1 q1 c1 P' (q2 + 1) pc' xs (ys ++ [x]) a (p.app n) ∧ Below B w w' := by
  obtain ⟨P', pc', w', h1, h2, h3, hs, h4⟩ := push_at h.2.1 hd hq hB
  have key : ∀ b, FT B0 B (.slice P1 q1 c1) (.slice P2 q2 c2) b → b < w.heap.size → FT B0 B (.slice P1 q1 c1) (.slice P' (q2 + 1) pc') b ∧ w'.heap[b]? = w.heap[b]? := fun b hF hlt => by
    obtain ⟨k1, k2⟩ := h4 b hlt hF.2.2
    exact ⟨⟨hF.1, hF.2.1, k1⟩, k2⟩
  refine ⟨P', pc', w', h1, ⟨row_keep h.1 fun k hk hv => (h4 k hk (h.2.2.2.2 k hv)).2, h2, h.2.2.1.move hs key, (h.2.2.2.1.move hs key).app (hx.move hs key), fun b hv => ?_⟩, h3⟩
  exact (h4 b (row_lt h.1 hv).2 (h.2.2.2.2 b hv)).1
/-- An alternative. -/
theorem TreeSt.push1 (h : TreeSt B0 B w P1 q1 c1 P2 q2 c2 xs ys a p) {d : Nat} (hd : w.heap[d]? = some (.cells x.cells.toArray 52 (0, 0))) (hx : NodesIn (fun b => (B0 b ∨ B ≤ b) ∧ (Value.slice P1 q1 c1).ownBlock ≠ some b) w [x] n) (hq : q1 ≤ 100000) (hB : B ≤ w.heap.size) :
    ∃ P' pc' w', (Builtin.append_ #[50, 50] 50 #[.slice P1 q1 c1, .slice (some ⟨d, 0, none⟩) 1 1]).run Try.prog w = .ok (.slice P' (q1 + 1) pc') w' ∧
      TreeSt B0 B w' P' (q1 + 1) pc' none 0 0 (xs ++ [x]) [] (a.app n) .nil ∧ Below B w w' := by
  obtain ⟨P', pc', w', h1, h2, h3, hs, h4⟩ := push_at h.1 hd hq hB
  have key : ∀ b, ((B0 b ∨ B ≤ b) ∧ (Value.slice P1 q1 c1).ownBlock ≠ some b) → b < w.heap.size → FT B0 B (.slice P' (q1 + 1) pc') (.slice none 0 0) b ∧ w'.heap[b]? = w.heap[b]? := fun b hF hlt => by
    obtain ⟨k1, k2⟩ := h4 b hlt hF.2
    exact ⟨⟨hF.1, k1, fun e => by cases e⟩, k2⟩
  exact ⟨P', pc', w', h1, ⟨h2, nilN _ _, (h.2.2.1.move hs fun b hF hlt => key b ⟨hF.1, hF.2.1⟩ hlt).app (hx.move hs key), trivial, fun b hv e => by cases e⟩, h3⟩
end

/-! ### one -/
theorem cell1_res {fn : Func} {p : Tmp} {ty : TypeId} (h : fn.results = #[.cell p ty]) (tmps : Array Value) (P : Program) (w : World) :
    (results fn tmps).run P w = ((asAddr (tmps.getD p undef)).run P w).andThen fun a w₁ => (loadVar ty a).run P w₁ := by
  simp only [results, h]
  simp [Sem.run_bind, Result.andThen]
set_option maxHeartbeats 1000000 in
theorem rone_any (op : Int) {w : World} {B : Nat} {P : Option Addr} {q pc : Nat} {xs : List NV} {T : Wood} {F F' : Nat → Prop} (h : w.ownsRow B 52 5 (.slice P q pc) q (cellsN xs)) (hT : NodesIn F w xs T) (hF : ∀ b, F b → F' b) (hV : ∀ b, (Value.slice P q pc).ownBlock = some b → F' b) (hq : q ≤ 100000) :
    Calls Try.prog 59 #[.int .i64 op, .slice P q pc] w fun e w' => ∃ v, e = .returned v ∧ NodeIn F' w' v (oneN op T) ∧ Below w.heap.size w w' := by
  have hl := hT.len
  have hq1 : xs.length = q := by have := h.1; rw [cellsN_length] at this; omega
  rcases Nat.lt_trichotomy q 1 with h0 | h0 | h0
  · have h0 : q = 0 := by omega
    subst h0
    have hx : xs = [] := List.eq_nil_of_length_eq_zero hq1
    subst hx
    have hTn : T = .nil := by
      match T, hT with
      | .nil, _ => rfl
    subst hTn
    clear h hT hl hq1
    go_enter Try.func59, Try.ntmps59
    go_wp2
    refine bodyPost_ret (v := .agg #[.int .i64 0, .slice none 0 0, .int .i64 0, .int .i64 0, .slice none 0 0]) ?_ rfl ⟨_, rfl, node_leaf _ _ 0, by go_grown⟩
    rw [cell1_res rfl]; go_simp
  · subst h0
    obtain ⟨b, rfl, hB, hb, -, -, -, hc⟩ := row_cellsN h (by omega)
    rcases xs with _ | ⟨x, _ | ⟨y, xs⟩⟩
    · simp at hq1
    · have HC := fun i v hv => hc 0 x rfl i v hv
      have c0 := HC 0 _ rfl
      have c1 := HC 1 _ rfl
      have c2 := HC 2 _ rfl
      have c3 := HC 3 _ rfl
      have c4 := HC 4 _ rfl
      have HN := Lib.hid (hT.move (F' := F') (Nat.le_refl _) (fun b hF' _ => ⟨hF b hF', rfl⟩)).one
      have hon : oneN op T = T := oneN_one (by rw [hl]; rfl)
      rw [hon]
      simp only [Nat.zero_mul, Nat.zero_add, Nat.add_zero] at c0 c1 c2 c3 c4
      have up : ∀ (j : Nat) (v : Value) (o : Obj), w.cell? ⟨b, j, none⟩ = some v → (w.alloc o).cell? ⟨b, j, none⟩ = some v := fun j v o h => (((Below.refl w.heap.size w).alloc (Nat.le_refl _) o).cell (p := ⟨b, j, none⟩) hb).trans h
      have d0 := fun o => up _ _ o c0
      have d1 := fun o => up _ _ o c1
      have d2 := fun o => up _ _ o c2
      have d3 := fun o => up _ _ o c3
      have d4 := fun o => up _ _ o c4
      clear h hT hl hq1 hc HC hon up hF hV
      go_enter Try.func59, Try.ntmps59
      go_wp2
      refine bodyPost_ret (v := x.val) ?_ rfl ⟨_, rfl, HN.out.below (by go_grown), by go_grown⟩
      rw [cell1_res rfl]; go_simp
      rfl
    · simp at hq1
  · obtain ⟨b, rfl, hB, hb, -, hqpc, -, hc⟩ := row_cellsN h (by omega)
    have hon : oneN op T = .cons op [] 0 0 T .nil := oneN_more (by omega)
    have HN := Lib.hid (show NodeIn F' w (.agg #[.int .i64 op, .slice none 0 0, .int .i64 0, .int .i64 0, .slice (some ⟨b, 0, none⟩) q pc]) (oneN op T) by
      rw [hon]
      exact ⟨op, [], 0, 0, T, none, some ⟨b, 0, none⟩, 0, 0, q, pc, rfl, rfl, ⟨rowF_nil _ w, hqpc⟩, by omega, fun _ => ⟨b, 0, rfl, hV b rfl, hb, ((hT.move (F' := F') (Nat.le_refl _) (fun b hF' _ => ⟨hF b hF', rfl⟩)).wood hc)⟩⟩)
    have n0 : ((q : Int) == 0) = false := by simp; omega
    have n1 : ((q : Int) == 1) = false := by simp; omega
    clear h hT hl hq1 hc hon hF hV hqpc
    go_enter Try.func59, Try.ntmps59
    go_wp2
    refine bodyPost_ret (v := .agg #[.int .i64 op, .slice none 0 0, .int .i64 0, .int .i64 0, .slice (some ⟨b, 0, none⟩) q pc]) ?_ rfl ⟨_, rfl, HN.out.below (by go_grown), by go_grown⟩
    rw [cell1_res rfl]; go_simp
end Go.Proofs.Ytegcebgoiocakaa
/- The document's trees: a count put about the last piece. -/
namespace Go.Proofs.Ytegcebgoiocakaa
open Go Go.RowKit
set_option linter.unusedVariables false
set_option maxRecDepth 20000

theorem NodesIn.last {F : Nat → Prop} {w : World} {y : NV} : ∀ {zs : List NV} {T : Wood}, NodesIn F w (zs ++ [y]) T → ∃ T0 n0, T = T0.app n0 ∧ NodesIn F w zs T0 ∧ NodesIn F w [y] n0
  | [], T, h => ⟨.nil, T, rfl, trivial, h⟩
  | x :: zs, .cons op s mn mx k t, ⟨h1, h2, h3, h4⟩ => by
    obtain ⟨T0, n0, e, k1, k2⟩ := NodesIn.last (zs := zs) h4
    exact ⟨.cons op s mn mx k T0, n0, by rw [e]; rfl, ⟨h1, h2, h3, k1⟩, k2⟩
  | x :: zs, .nil, h => h.elim
def repN (c : Nat) (mn mx : Int) : NV := ⟨6, none, 0, 0, mn, mx, some ⟨c, 0, none⟩, 1, 1⟩
/-- What the copy of all pieces but the last one is. -/
def TakeR (w0 : World) (z : Nat) (zs : List NV) (g : Nat) (X : World) (v' : Value) (w' : World) : Prop :=
  ∃ P' pc', v' = .slice P' z pc' ∧ w'.ownsRow w0.heap.size 52 5 (.slice P' z pc') z (cellsN zs) ∧ Below w0.heap.size w0 w' ∧ X.heap.size ≤ w'.heap.size ∧ ∀ b, b < X.heap.size → b ≠ g → w'.heap[b]? = X.heap[b]? ∧ (Value.slice P' z pc').ownBlock ≠ some b
theorem take_ex {w0 X : World} {z q2 c2 b2 g : Nat} {zs : List NV} (hz : zs.length = z) (hzb : z ≤ 100000) (hb2 : b2 < w0.heap.size) (hc : ∀ j x, zs[j]? = some x → ∀ i v, x.cells[i]? = some v → w0.cell? ⟨b2, 0 + j * 5 + i, none⟩ = some v)
    (hX : Below w0.heap.size w0 X) (hg : X.heap[g]? = some (.cells #[] 52 (0, 0))) (hg0 : w0.heap.size ≤ g) :
    ∃ v' w', (Builtin.append_ #[50, 50] 50 #[.slice (some ⟨g, 0, none⟩) 0 0, .slice (some ⟨b2, 0, none⟩) z c2]).run Try.prog X = .ok v' w' ∧ TakeR w0 z zs g X v' w' := by
  obtain ⟨i0, hi, hz0, hz1, hz2⟩ := info_parts info_node
  have hgl : g < X.heap.size := (Array.getElem?_eq_some_iff.1 hg).1
  have hown : X.ownsRow w0.heap.size 52 5 (.slice (some ⟨g, 0, none⟩) 0 0) 0 (cellsN []) := ⟨rfl, .inr ⟨g, 0, #[], rfl, hg0, hg, Nat.le_refl _, by unfold maxLen; omega, rfl, rfl⟩⟩
  have hcells : ∀ j u, (cellsN zs)[j]? = some u → X.cell? ((⟨b2, 0, none⟩ : Addr).add j) = some u := by
    intro j u hu
    have hj : j < zs.length * 5 := by have := (List.getElem?_eq_some_iff.1 hu).1; rwa [cellsN_length] at this
    obtain ⟨x, hx⟩ : ∃ x, zs[j / 5]? = some x := ⟨_, List.getElem?_eq_getElem (by omega)⟩
    have hx5 : j % 5 < x.cells.length := by show j % 5 < 5; omega
    have h1 := cellsN_at zs (j / 5) x hx (j % 5) x.cells[j % 5] (List.getElem?_eq_getElem hx5)
    rw [show j / 5 * 5 + j % 5 = j by omega, hu] at h1
    injection h1 with h1
    have h2 := hc (j / 5) x hx (j % 5) x.cells[j % 5] (List.getElem?_eq_getElem hx5)
    rw [show (⟨b2, 0, none⟩ : Addr).add j = ⟨b2, 0 + (j / 5) * 5 + j % 5, none⟩ by rw [show 0 + j / 5 * 5 + j % 5 = j by omega]; unfold Addr.add; split <;> simp_all, hX.cell (p := ⟨b2, 0 + (j / 5) * 5 + j % 5, none⟩) hb2, h2, h1]
  obtain ⟨V', w', h1, h2, h3, _, h4⟩ := run_append_own_at (P := Try.prog) X w0.heap.size 50 50 52 i0 _ 5 72 Try.underlying50 hi hz0 hz1 hz2 rfl (by decide) _ 0 _ hown ⟨b2, 0, none⟩ z c2 (cellsN zs) (by rw [cellsN_length, hz]) hcells
    (by intro u hu; obtain ⟨p, _, hp⟩ := List.mem_flatMap.1 hu; exact p.cells_one u hp) (by unfold maxLen; omega) (by omega) hX.size
  have hb' : Below w0.heap.size w0 w' := hX.grown h3 hX.size (by intro k hk; exact (row_lt hown hk).1)
  rw [Nat.zero_add] at h2
  have key : ∀ b, b < X.heap.size → b ≠ g → w'.heap[b]? = X.heap[b]? ∧ V'.ownBlock ≠ some b := fun b hlt hne => by
    refine ⟨h3.block b hlt fun e => ?_, fun e => ?_⟩
    · injection e with e; exact hne e
    · rcases h4 with h4 | h4
      · rw [h4] at e; injection e with e; exact hne e.symm
      · rw [h4] at e; injection e with e; omega
  rcases h2.2 with ⟨rfl, h0⟩ | ⟨b, cap, cu, rfl, _⟩
  · subst h0
    exact ⟨_, w', h1, none, 0, rfl, h2, hb', h3.size, key⟩
  · exact ⟨_, w', h1, _, _, rfl, h2, hb', h3.size, key⟩

/-- What is behind a count. -/
def RepR (B0 : Nat → Prop) (B : Nat) (wr w0 : World) (P1 : Option Addr) (q1 c1 z : Nat) (xs zs : List NV) (a p' : Wood) (v' : Value) (w' : World) : Prop :=
  ∃ P' pc' c mn mx, v' = .slice P' (z + 1) pc' ∧ TreeSt B0 B w' P1 q1 c1 P' (z + 1) pc' xs (zs ++ [repN c mn mx]) a p' ∧ Below B wr w' ∧ Below w0.heap.size w0 w'
theorem rep_ex {B0 : Nat → Prop} {B : Nat} {wr w0 X : World} {P1 P2 P' : Option Addr} {q1 c1 q2 c2 z pc' c d : Nat} {xs zs : List NV} {y : NV} {a T0 n0 : Wood} {mn mx : Int} (h : TreeSt B0 B wr P1 q1 c1 P2 q2 c2 xs (zs ++ [y]) a (T0.app n0)) (h0 : NodesIn (FT B0 B (.slice P1 q1 c1) (.slice P2 q2 c2)) wr zs T0) (hy : NodesIn (FT B0 B (.slice P1 q1 c1) (.slice P2 q2 c2)) wr [y] n0)
    (hB : B ≤ wr.heap.size) (hw0 : Below wr.heap.size wr w0) (hX : Below w0.heap.size w0 X) (hown : X.ownsRow w0.heap.size 52 5 (.slice P' z pc') z (cellsN zs)) (hz : z ≤ 100000) (hc : X.heap[c]? = some (.cells y.cells.toArray 52 (0, 0))) (hc0 : w0.heap.size ≤ c) (hcn : (Value.slice P' z pc').ownBlock ≠ some c) (hd : X.heap[d]? = some (.cells (repN c mn mx).cells.toArray 52 (0, 0))) :
    ∃ v' w', (Builtin.append_ #[50, 50] 50 #[.slice P' z pc', .slice (some ⟨d, 0, none⟩) 1 1]).run Try.prog X = .ok v' w' ∧ RepR B0 B wr w0 P1 q1 c1 z xs zs a (T0.app (.cons 6 [] mn mx n0 .nil)) v' w' := by
  obtain ⟨P'', pc'', w', h1, h2, h3, hs, key⟩ := push_at hown hd hz hX.size
  have hcl : c < X.heap.size := (Array.getElem?_eq_some_iff.1 hc).1
  have hsw := hw0.size
  have old : ∀ b, b < wr.heap.size → (Value.slice P'' (z + 1) pc'').ownBlock ≠ some b ∧ w'.heap[b]? = wr.heap[b]? := fun b hlt => by
    obtain ⟨k1, k2⟩ := key b (by have := hX.size; omega) (fun e => by have := (row_lt hown e).1; omega)
    exact ⟨k1, k2.trans ((hX.block b (by omega)).trans (hw0.block b hlt))⟩
  have hsz : wr.heap.size ≤ w'.heap.size := by have := hX.size; omega
  have mv : ∀ b, FT B0 B (.slice P1 q1 c1) (.slice P2 q2 c2) b → b < wr.heap.size → FT B0 B (.slice P1 q1 c1) (.slice P'' (z + 1) pc'') b ∧ w'.heap[b]? = wr.heap[b]? := fun b hF hlt => ⟨⟨hF.1, hF.2.1, (old b hlt).1⟩, (old b hlt).2⟩
  obtain ⟨kc1, kc2⟩ := key c hcl hcn
  have hcw : w'.heap[c]? = some (.cells y.cells.toArray 52 (0, 0)) := kc2.trans hc
  have hn : NodesIn (FT B0 B (.slice P1 q1 c1) (.slice P'' (z + 1) pc'')) w' [repN c mn mx] (.cons 6 [] mn mx n0 .nil) := by
    refine ⟨⟨rfl, rfl, rfl⟩, ⟨rowF_nil _ _, Nat.le_refl 1⟩, ⟨hy.len, fun _ => ⟨c, 0, rfl, ⟨.inr (by omega), (fun e => by have := (row_lt h.1 e).2; omega), kc1⟩, by omega, (hy.move hsz mv).wood fun j x hx i v hv => ?_⟩⟩, trivial⟩
    rcases j with _ | j
    · simp only [List.getElem?_cons_zero, Option.some.injEq] at hx
      subst hx
      rw [Nat.zero_mul, Nat.add_zero, Nat.zero_add, cell_of_row _ c i _ _ (0, 0) hcw]
      simpa using hv
    · simp at hx
  refine ⟨_, w', h1, P'', pc'', c, mn, mx, rfl, ⟨row_keep h.1 fun k hk hv => (old k hk).2, row_base h2 fun j hj => by have := (row_lt h2 hj).1; omega, h.2.2.1.move hsz mv, (h0.move hsz mv).app hn, fun b hv => (old b (row_lt h.1 hv).2).1⟩, ?_⟩
  exact ⟨((hw0.mono hB).trans (hX.mono (by omega))).trans (h3.mono (by omega)), hX.trans h3⟩
theorem rep_at {B0 : Nat → Prop} {B : Nat} {wr w0 X : World} {P1 P2 P' : Option Addr} {q1 c1 q2 c2 z pc' d : Nat} {xs zs : List NV} {y : NV} {a T0 n0 : Wood} {mn mx : Int} (h : TreeSt B0 B wr P1 q1 c1 P2 q2 c2 xs (zs ++ [y]) a (T0.app n0)) (h0 : NodesIn (FT B0 B (.slice P1 q1 c1) (.slice P2 q2 c2)) wr zs T0) (hy : NodesIn (FT B0 B (.slice P1 q1 c1) (.slice P2 q2 c2)) wr [y] n0)
    (hB : B ≤ wr.heap.size) (hw0 : Below wr.heap.size wr w0) (hX : Below w0.heap.size w0 X) (hown : X.ownsRow w0.heap.size 52 5 (.slice P' z pc') z (cellsN zs)) (hz : z ≤ 100000)
    (hd : ∃ c, X.heap[d]? = some (.cells #[.int .i64 6, .slice none 0 0, .int .i64 mn, .int .i64 mx, .slice (some ⟨c, 0, none⟩) 1 1] 52 (0, 0)) ∧ X.heap[c]? = some (.cells #[.int .i64 y.op, .slice y.A y.ns y.cs, .int .i64 y.mn, .int .i64 y.mx, .slice y.D y.nk y.ck] 52 (0, 0)) ∧ w0.heap.size ≤ c ∧ (Value.slice P' z pc').ownBlock ≠ some c) :
    ∃ v' w', (Builtin.append_ #[50, 50] 50 #[.slice P' z pc', .slice (some ⟨d, 0, none⟩) 1 1]).run Try.prog X = .ok v' w' ∧ RepR B0 B wr w0 P1 q1 c1 z xs zs a (T0.app (.cons 6 [] mn mx n0 .nil)) v' w' := by
  obtain ⟨c, h1, h2, h3, h4⟩ := hd
  exact rep_ex h h0 hy hB hw0 hX hown hz h2 h3 h4 h1
/-- Where a block lies. -/
theorem hp_new {w : World} {cs : Array Value} {ty : TypeId} {k : Nat} (h : k = w.heap.size) : (w.alloc (.cells cs ty)).heap[k]? = some (.cells cs ty (0, 0)) := by subst h; exact heap_alloc_new w _
theorem hp_old {w : World} {cs : Array Value} {ty : TypeId} {fr : Nat × Nat} {k : Nat} {o : Obj} (h : w.heap[k]? = some (.cells cs ty fr)) : (w.alloc o).heap[k]? = some (.cells cs ty fr) :=
  (Below.heap_alloc w o k (Array.getElem?_eq_some_iff.1 h).1).trans h
theorem hp_drew {w : World} {cs : Array Value} {ty : TypeId} {fr : Nat × Nat} {k : Nat} (h : w.heap[k]? = some (.cells cs ty fr)) : w.drew.heap[k]? = some (.cells cs ty fr) := h
theorem ownN_old {w : World} {B q n : Nat} {ty : TypeId} {v : Value} {l : List Value} {o : Obj} (h : w.ownsRow B ty q v n l) : (w.alloc o).ownsRow B ty q v n l := row_keep h fun k hk _ => Below.heap_alloc w o k hk
theorem ownN_drew {w : World} {B q n : Nat} {ty : TypeId} {v : Value} {l : List Value} (h : w.ownsRow B ty q v n l) : w.drew.ownsRow B ty q v n l := h
end Go.Proofs.Ytegcebgoiocakaa
/- Programs while they are written: instructions in a row that a writer owns. -/
namespace Go.Proofs.Ytegcebgoiocakaa
open Go Go.RowKit
set_option linter.unusedVariables false
set_option maxRecDepth 20000

/-- An instruction. -/
structure InstL where
  op : Int
  set : List (Int × Int)
  x : Int
  y : Int
/-- An instruction as it lies there. -/
structure IV where
  i : InstL
  A : Option Addr
  n : Nat
  c : Nat
def IV.cells (v : IV) : List Value := [.int .i64 v.i.op, .slice v.A v.n v.c, .int .i64 v.i.x, .int .i64 v.i.y]
def cellsI (xs : List IV) : List Value := xs.flatMap IV.cells
theorem cellsI_length (xs : List IV) : (cellsI xs).length = xs.length * 4 := by
  induction xs with
  | nil => rfl
  | cons p s ih =>
    show (p.cells ++ cellsI s).length = _
    rw [List.length_append, ih, List.length_cons, show p.cells.length = 4 from rfl]
    omega
theorem cellsI_append (a b : List IV) : cellsI (a ++ b) = cellsI a ++ cellsI b := by simp [cellsI]
theorem cellsI_at : ∀ (xs : List IV) (j : Nat) (x : IV), xs[j]? = some x → ∀ i v, x.cells[i]? = some v → (cellsI xs)[j * 4 + i]? = some v
  | [], j, x, h, _, _, _ => by simp at h
  | p :: s, 0, x, h, i, v, hv => by
    simp only [List.getElem?_cons_zero, Option.some.injEq] at h
    subst h
    have hi : i < 4 := (List.getElem?_eq_some_iff.1 hv).1
    show (p.cells ++ cellsI s)[0 * 4 + i]? = _
    rw [Nat.zero_mul, Nat.zero_add, List.getElem?_append_left (show i < p.cells.length from hi)]
    exact hv
  | p :: s, j + 1, x, h, i, v, hv => by
    have ih := cellsI_at s j x (by simpa using h) i v hv
    show (p.cells ++ cellsI s)[(j + 1) * 4 + i]? = _
    rw [List.getElem?_append_right (by show 4 ≤ _; omega), show (j + 1) * 4 + i - p.cells.length = j * 4 + i by show _ - 4 = _; omega]
    exact ih
theorem IV.cells_one (x : IV) : ∀ u ∈ x.cells, u.oneCell' = true := by
  intro u hu
  simp only [IV.cells, List.mem_cons, List.not_mem_nil, or_false] at hu
  rcases hu with rfl | rfl | rfl | rfl <;> rfl
theorem info_inst : (Try.prog.info? 45).map (fun i => (i.zero, i.size, i.bytes)) = some (some (.agg #[.int .i64 0, .slice none 0 0, .int .i64 0, .int .i64 0]), 4, 48) := by kernel_rfl
/-- Where a set may lie: made since B, neither the writer nor its row. -/
def FW (B g : Nat) (V : Value) (b : Nat) : Prop := B ≤ b ∧ b ≠ g ∧ V.ownBlock ≠ some b
/-- The writer at block g holds these instructions; row and writer were made since B. -/
structure WrS (B g : Nat) (w : World) (P : Option Addr) (q pc : Nat) (xs : List IV) : Prop where
  hg : w.heap[g]? = some (.cells #[.slice P q pc] 77 (0, 0))
  hB : B ≤ g
  row : w.ownsRow B 45 4 (.slice P q pc) q (cellsI xs)
  ne : (Value.slice P q pc).ownBlock ≠ some g
  sets : ∀ x ∈ xs, RowF (FW B g (.slice P q pc)) w x.A x.n x.i.set
/-- All but the writer and its row stays. -/
def Wk (B g : Nat) (V : Value) (w w' : World) : Prop := Below B w w' ∧ w.heap.size ≤ w'.heap.size ∧ ∀ b, b < w.heap.size → b ≠ g → V.ownBlock ≠ some b → w'.heap[b]? = w.heap[b]?
/-- Where a row that grew lies. -/
def Vk (w : World) (V V' : Value) : Prop := ∀ b, b < w.heap.size → V.ownBlock ≠ some b → V'.ownBlock ≠ some b
section
variable {B g q pc q' pc' : Nat} {w w' w'' : World} {P P' : Option Addr} {xs : List IV} {V V' V'' : Value}
theorem WrS.lt (h : WrS B g w P q pc xs) : g < w.heap.size := (Array.getElem?_eq_some_iff.1 h.hg).1
theorem WrS.len (h : WrS B g w P q pc xs) : xs.length = q := by have := h.row.1; rw [cellsI_length] at this; omega
theorem Wk.refl (B g : Nat) (V : Value) (w : World) : Wk B g V w w := ⟨Below.refl _ _, Nat.le_refl _, fun _ _ _ _ => rfl⟩
theorem Vk.refl (w : World) (V : Value) : Vk w V V := fun _ _ h => h
theorem Wk.trans (h : Wk B g V w w') (hv : Vk w V V') (k : Wk B g V' w' w'') : Wk B g V w w'' :=
  ⟨h.1.trans k.1, Nat.le_trans h.2.1 k.2.1, fun b hb h1 h2 => (k.2.2 b (Nat.lt_of_lt_of_le hb h.2.1) h1 (hv b hb h2)).trans (h.2.2 b hb h1 h2)⟩
theorem Vk.trans (hs : w.heap.size ≤ w'.heap.size) (h : Vk w V V') (k : Vk w' V' V'') : Vk w V V'' := fun b hb hn => k b (Nat.lt_of_lt_of_le hb hs) (h b hb hn)
theorem Wk.of_below (hB : B ≤ w.heap.size) (h : Below w.heap.size w w') : Wk B g V w w' := ⟨h.mono hB, h.size, fun b hb _ _ => h.block b hb⟩
/-- What is made beside leaves the writer as it is. -/
theorem WrS.below (h : WrS B g w P q pc xs) (hb : Below w.heap.size w w') : WrS B g w' P q pc xs :=
  ⟨(hb.block g h.lt).trans h.hg, h.hB, row_keep h.row fun k hk _ => hb.block k hk, h.ne, fun x hx => (h.sets x hx).below hb⟩
end
theorem instL_cells (x : IV) : x.cells.toArray = #[.int .i64 x.i.op, .slice x.A x.n x.c, .int .i64 x.i.x, .int .i64 x.i.y] := rfl
/-- append of one instruction, and the store of the row. -/
theorem WrS.push {B g q pc : Nat} {w : World} {P : Option Addr} {xs : List IV} {x : IV} (h : WrS B g w P q pc xs) {d : Nat} (hd : w.heap[d]? = some (.cells x.cells.toArray 45 (0, 0))) (hx : RowF (FW B g (.slice P q pc)) w x.A x.n x.i.set) (hq : q ≤ 100000) :
    ∃ P' pc' w', (Builtin.append_ #[23, 23] 23 #[.slice P q pc, .slice (some ⟨d, 0, none⟩) 1 1]).run Try.prog w = .ok (.slice P' (q + 1) pc') w' ∧
      w'.heap[g]? = some (.cells #[.slice P q pc] 77 (0, 0)) ∧ g < w'.heap.size ∧ w'.cell? ⟨g, 0, none⟩ = some (.slice P q pc) ∧ w'.frozen? ⟨g, 0, none⟩ = false ∧
      WrS B g (w'.setCell ⟨g, 0, none⟩ (.slice P' (q + 1) pc')) P' (q + 1) pc' (xs ++ [x]) ∧ Wk B g (.slice P q pc) w (w'.setCell ⟨g, 0, none⟩ (.slice P' (q + 1) pc')) ∧ Vk w (.slice P q pc) (.slice P' (q + 1) pc') ∧ Below B w w' := by
  obtain ⟨i0, hi, hz0, hz1, hz2⟩ := info_parts info_inst
  have hgl := h.lt
  have hcells : ∀ j u, x.cells[j]? = some u → w.cell? ((⟨d, 0, none⟩ : Addr).add j) = some u := by
    intro j u hu
    rw [show (⟨d, 0, none⟩ : Addr).add j = ⟨d, 0 + j, none⟩ by unfold Addr.add; split <;> simp_all, cell_of_row w d (0 + j) _ 45 (0, 0) hd, Nat.zero_add]
    simpa using hu
  have hBw : B ≤ w.heap.size := by have := h.hB; omega
  obtain ⟨V', w', h1, h2, h3, _, h4⟩ := run_append_own_at (P := Try.prog) w B 23 23 45 i0 _ 4 48 Try.underlying23 hi hz0 hz1 hz2 rfl (by decide) _ q _ h.row ⟨d, 0, none⟩ 1 1 x.cells rfl hcells x.cells_one (by unfold maxLen; omega) (by omega) hBw
  have hb' : Below B w w' := (Below.refl _ _).grown h3 hBw (by intro k hk; exact (row_lt h.row hk).1)
  have key : Vk w (.slice P q pc) V' := fun b hlt hne e => by
    rcases h4 with h4 | h4
    · exact hne (h4 ▸ e)
    · rw [h4] at e; injection e with e; omega
  have kp : ∀ b, b < w.heap.size → (Value.slice P q pc).ownBlock ≠ some b → w'.heap[b]? = w.heap[b]? := fun b hlt hne => h3.block b hlt fun e => hne e.symm
  have e : cellsI xs ++ x.cells = cellsI (xs ++ [x]) := by rw [cellsI_append]; simp [cellsI]
  rw [e] at h2
  obtain ⟨P', pc', rfl⟩ : ∃ P' pc', V' = .slice P' (q + 1) pc' := by
    rcases h2.2 with ⟨rfl, h0⟩ | ⟨b, cap, cu, rfl, _⟩
    · omega
    · exact ⟨_, _, rfl⟩
  have hg' : w'.heap[g]? = some (.cells #[.slice P q pc] 77 (0, 0)) := (kp g hgl h.ne).trans h.hg
  have hgl' : g < w'.heap.size := (Array.getElem?_eq_some_iff.1 hg').1
  have hset : (w'.setCell ⟨g, 0, none⟩ (.slice P' (q + 1) pc')).heap[g]? = some (.cells #[.slice P' (q + 1) pc'] 77 (0, 0)) := heap_setCell_same _ g 0 _ _ _ hg'
  have hoth : ∀ b, b ≠ g → (w'.setCell ⟨g, 0, none⟩ (.slice P' (q + 1) pc')).heap[b]? = w'.heap[b]? := fun b hb => Below.heap_setCell _ _ _ _ hb
  have hne' : (Value.slice P' (q + 1) pc').ownBlock ≠ some g := key g hgl h.ne
  have mv : ∀ b, FW B g (.slice P q pc) b → b < w.heap.size → FW B g (.slice P' (q + 1) pc') b ∧ (w'.setCell ⟨g, 0, none⟩ (.slice P' (q + 1) pc')).heap[b]? = w.heap[b]? := fun b hF hlt => ⟨⟨hF.1, hF.2.1, key b hlt hF.2.2⟩, (hoth b hF.2.1).trans (kp b hlt hF.2.2)⟩
  have hsz : w.heap.size ≤ (w'.setCell ⟨g, 0, none⟩ (.slice P' (q + 1) pc')).heap.size := by have := h3.size; simpa using this
  refine ⟨P', pc', w', h1, hg', hgl', cell_of_row w' g 0 _ _ (0, 0) hg', by simp [World.frozen?, hg'], ⟨hset, h.hB, row_keep h2 fun k hk hv => hoth k fun e => hne' (by rw [← e]; exact hv), hne', fun y hy => ?_⟩, ⟨hb'.trans ((Below.refl _ _).setCell (p := ⟨g, 0, none⟩) h.hB _), hsz, fun b hb h1 h2 => (hoth b h1).trans (kp b hb h2)⟩, key, hb'⟩
  rcases List.mem_append.1 hy with hy | hy
  · exact (h.sets y hy).move hsz mv
  · rw [List.mem_singleton] at hy
    subst hy
    exact hx.move hsz mv
end Go.Proofs.Ytegcebgoiocakaa
/- Which programs are right: the program's Right and the document's. -/
namespace Go.Proofs.Ytegcebgoiocakaa
open Go Go.RowKit
set_option linter.unusedVariables false
set_option maxRecDepth 20000

/-- A program that came in. -/
def InsAt (w : World) (A : Option Addr) (n : Nat) (l : List IV) : Prop :=
  l.length = n ∧ (0 < n → ∃ b o, A = some ⟨b, o, none⟩ ∧ b < w.heap.size ∧ ∀ j v, l[j]? = some v → ∀ k u, v.cells[k]? = some u → w.cell? ⟨b, o + j * 4 + k, none⟩ = some u)
theorem InsAt.below {w w' : World} {A : Option Addr} {n : Nat} {l : List IV} (h : InsAt w A n l) (hb : Below w.heap.size w w') : InsAt w' A n l := by
  refine ⟨h.1, fun hn => ?_⟩
  obtain ⟨b, o, hA, hlt, hc⟩ := h.2 hn
  exact ⟨b, o, hA, Nat.lt_of_lt_of_le hlt hb.size, fun j v hv k u hu => (hb.cell (p := ⟨b, o + j * 4 + k, none⟩) hlt).trans (hc j v hv k u hu)⟩
def inB (n : Nat) (x : Int) : Bool := decide (0 ≤ x) && decide (x < (n : Int))
def okB (n : Nat) (v : InstL) : Bool := if v.op = 0 then true else if v.op = 2 then inB n v.y && inB n v.x else if v.op = 1 ∨ v.op = 3 ∨ v.op = 4 then inB n v.x else false
def rightB (n : Nat) (l : List IV) : Bool := l.all (fun v => okB n v.i) && decide (0 < n)
theorem right_bad {n j : Nat} {l : List IV} {v : IV} (h : l[j]? = some v) (hb : okB n v.i = false) : rightB n l = false := by
  unfold rightB
  rw [Bool.and_eq_false_iff]
  left
  rw [List.all_eq_false]
  exact ⟨v, List.mem_of_getElem? h, by rw [hb]; decide⟩
theorem right_all {n : Nat} {l : List IV} (hl : l.length = n) (h : ∀ (j : Nat) (v : IV), l[j]? = some v → okB n v.i = true) : rightB n l = decide (0 < n) := by
  unfold rightB
  rw [show l.all (fun v => okB n v.i) = true from List.all_eq_true.2 fun v hv => by
    obtain ⟨j, hj⟩ := List.getElem?_of_mem hv
    exact h j v hj, Bool.true_and]
set_option maxHeartbeats 2000000 in
theorem has_any (bx n c : Nat) (A : Option Addr) (x : Int) (w : World) (h : w.cell? ⟨bx, 0, none⟩ = some (.slice A n c)) :
    Calls Try.prog 42 #[.int .i64 x, .pointer (some ⟨bx, 0, none⟩)] w fun e w' => e = .returned (.bool (inB n x)) ∧ w = w' := by
  by_cases h1 : 0 ≤ x
  · have hd : inB n x = decide (x < (n : Int)) := by unfold inB; rw [decide_eq_true h1, Bool.true_and]
    rw [hd]
    have g0 : decide (x ≥ 0) = true := decide_eq_true h1
    go_enter Try.func42, Try.ntmps42
    go_wp2
    go_ret
    exact ⟨rfl, rfl⟩
  · have hd : inB n x = false := by unfold inB; rw [decide_eq_false h1, Bool.false_and]
    rw [hd]
    go_enter Try.func42, Try.ntmps42
    go_wp2
    go_ret
    exact ⟨rfl, rfl⟩
set_option maxHeartbeats 8000000 in
theorem right_any (A : Option Addr) (n c : Nat) (l : List IV) (w : World) (h : InsAt w A n l) (hn : n ≤ 1000000) :
    Calls Try.prog 27 #[.slice A n c] w fun e w' => e = .returned (.bool (rightB n l)) ∧ Below w.heap.size w w' := by
  have HI := Lib.hid h
  obtain ⟨R, hR⟩ : ∃ R, R = rightB n l := ⟨_, rfl⟩
  rw [← hR]
  have HR := Lib.hid hR
  clear h hR
  go_enter Try.func27, Try.ntmps27
  go_wp2_with fail
  go_loopw [9] (fun vi wr => ∃ j : Nat, vi = .int .i64 (j : Int) ∧ j ≤ n ∧ Hid ((∀ i v, i < j → l[i]? = some v → okB n v.i = true) ∧ Below w.heap.size w wr ∧ wr.cell? ⟨w.heap.size, 0, none⟩ = some (.slice A n c) ∧ w.heap.size < wr.heap.size)) (fun vi _ => n - (match vi with | .int _ j => j.toNat | _ => 0))
  case atStart => exact ⟨0, rfl, Nat.zero_le _, Lib.hid ⟨fun i v hi => absurd hi (by omega), (Below.refl _ _).alloc (Nat.le_refl _) _, cell_of_row _ w.heap.size 0 _ _ (0, 0) (heap_alloc_new w _), by simp⟩⟩
  case round =>
    obtain ⟨j, rfl, hj, H⟩ := hrel
    by_cases hlt : j < n
    · obtain ⟨v, hv⟩ : ∃ v, l[j]? = some v := ⟨_, List.getElem?_eq_getElem (by rw [HI.out.1]; exact hlt)⟩
      obtain ⟨b, o, rfl, hbl, hc⟩ := (HI.out.below H.out.2.1).2 (by omega)
      have c0 := hc j v hv 0 _ rfl
      have c1 := hc j v hv 1 _ rfl
      have c2 := hc j v hv 2 _ rfl
      have c3 := hc j v hv 3 _ rfl
      rw [Nat.add_zero] at c0
      have HV := Lib.hid hv
      have HH := Lib.hid fun (x : Int) (o' : Obj) => has_any w.heap.size n c (some ⟨b, o, none⟩) x (wr.alloc o') (((Below.refl wr.heap.size wr).alloc (Nat.le_refl _) o').cell (p := ⟨w.heap.size, 0, none⟩) H.out.2.2.2 |>.trans H.out.2.2.1)
      have next : okB n v.i = true → ∀ w2, Below wr.heap.size wr w2 → Hid ((∀ i v, i < j + 1 → l[i]? = some v → okB n v.i = true) ∧ Below w.heap.size w w2 ∧ w2.cell? ⟨w.heap.size, 0, none⟩ = some (.slice (some ⟨b, o, none⟩) n c) ∧ w.heap.size < w2.heap.size) := fun hok w2 hb2 => Lib.hid ⟨fun i v' hi hv' => by
        rcases Nat.lt_or_ge i j with h1 | h1
        · exact H.out.1 i v' h1 hv'
        · obtain rfl : i = j := by omega
          rw [HV.out] at hv'
          injection hv' with hv'
          rw [← hv']; exact hok, H.out.2.1.trans (hb2.mono H.out.2.1.size), (hb2.cell (p := ⟨w.heap.size, 0, none⟩) H.out.2.2.2).trans H.out.2.2.1, Nat.lt_of_lt_of_le H.out.2.2.2 hb2.size⟩
      have HNx := Lib.hid next
      have bad : okB n v.i = false → R = false := fun h => HR.out.trans (right_bad HV.out h)
      have HBad := Lib.hid bad
      clear hc hv next bad hbl
      by_cases h0 : v.i.op = 0
      · rw [h0] at c0
        go_wp2
        exact ⟨⟨j + 1, rfl, hlt, HNx.out (by unfold okB; rw [if_pos h0]) _ ((Below.refl _ _).alloc (Nat.le_refl _) _)⟩, by show n - ((j : Int) + 1).toNat < n - (j : Int).toNat; omega⟩
      by_cases h2 : v.i.op = 2
      · have hok : okB n v.i = (inB n v.i.y && inB n v.i.x) := by unfold okB; rw [if_neg h0, if_pos h2]
        rw [h2] at c0
        rcases hy : inB n v.i.y with _ | _
        · have HB := HBad.out (by rw [hok, hy]; rfl)
          have HY := Lib.hid hy
          clear hy hok h0 h2
          go_wp2_with (go_at_call 42; (with_reducible refine (HH.out _ _).mono ?_); rintro e w2 ⟨rfl, rfl⟩; rw [HY.out])
          go_ret
          rw [HB]
          exact ⟨rfl, H.out.2.1.alloc H.out.2.1.size _⟩
        · rcases hx : inB n v.i.x with _ | _
          · have HB := HBad.out (by rw [hok, hy, hx]; rfl)
            have HY := Lib.hid hy
            have HX := Lib.hid hx
            clear hy hx hok h0 h2
            go_wp2_with (go_at_call 42; (with_reducible refine (HH.out _ _).mono ?_); rintro e w2 ⟨rfl, rfl⟩; first | rw [HY.out] | rw [HX.out])
            go_ret
            rw [HB]
            exact ⟨rfl, H.out.2.1.alloc H.out.2.1.size _⟩
          · have HOK := Lib.hid (show okB n v.i = true by rw [hok, hy, hx]; rfl)
            have HY := Lib.hid hy
            have HX := Lib.hid hx
            clear hy hx hok h0 h2
            go_wp2_with (go_at_call 42; (with_reducible refine (HH.out _ _).mono ?_); rintro e w2 ⟨rfl, rfl⟩; first | rw [HY.out] | rw [HX.out])
            exact ⟨⟨j + 1, rfl, hlt, HNx.out (by exact HOK.out) _ ((Below.refl _ _).alloc (Nat.le_refl _) _)⟩, by show n - ((j : Int) + 1).toNat < n - (j : Int).toNat; omega⟩
      by_cases h3 : v.i.op = 1 ∨ v.i.op = 3 ∨ v.i.op = 4
      · clear h0 h2
        rcases h3 with h0 | h0 | h0
        · rcases hx : inB n v.i.x with _ | _
          · have HX := Lib.hid hx
            have HB := HBad.out (by unfold okB; rw [h0, if_neg (by decide), if_neg (by decide), if_pos (by decide), hx])
            rw [h0] at c0
            clear hx
            go_wp2_with (go_at_call 42; (with_reducible refine (HH.out _ _).mono ?_); rintro e w2 ⟨rfl, rfl⟩; rw [HX.out])
            go_ret
            rw [HB]
            exact ⟨rfl, H.out.2.1.alloc H.out.2.1.size _⟩
          · have HX := Lib.hid hx
            have HOK := Lib.hid (show okB n v.i = true by unfold okB; rw [h0, if_neg (by decide), if_neg (by decide), if_pos (by decide), hx])
            rw [h0] at c0
            clear hx
            go_wp2_with (go_at_call 42; (with_reducible refine (HH.out _ _).mono ?_); rintro e w2 ⟨rfl, rfl⟩; rw [HX.out])
            exact ⟨⟨j + 1, rfl, hlt, HNx.out (by exact HOK.out) _ ((Below.refl _ _).alloc (Nat.le_refl _) _)⟩, by show n - ((j : Int) + 1).toNat < n - (j : Int).toNat; omega⟩
        · rcases hx : inB n v.i.x with _ | _
          · have HX := Lib.hid hx
            have HB := HBad.out (by unfold okB; rw [h0, if_neg (by decide), if_neg (by decide), if_pos (by decide), hx])
            rw [h0] at c0
            clear hx
            go_wp2_with (go_at_call 42; (with_reducible refine (HH.out _ _).mono ?_); rintro e w2 ⟨rfl, rfl⟩; rw [HX.out])
            go_ret
            rw [HB]
            exact ⟨rfl, H.out.2.1.alloc H.out.2.1.size _⟩
          · have HX := Lib.hid hx
            have HOK := Lib.hid (show okB n v.i = true by unfold okB; rw [h0, if_neg (by decide), if_neg (by decide), if_pos (by decide), hx])
            rw [h0] at c0
            clear hx
            go_wp2_with (go_at_call 42; (with_reducible refine (HH.out _ _).mono ?_); rintro e w2 ⟨rfl, rfl⟩; rw [HX.out])
            exact ⟨⟨j + 1, rfl, hlt, HNx.out (by exact HOK.out) _ ((Below.refl _ _).alloc (Nat.le_refl _) _)⟩, by show n - ((j : Int) + 1).toNat < n - (j : Int).toNat; omega⟩
        · rcases hx : inB n v.i.x with _ | _
          · have HX := Lib.hid hx
            have HB := HBad.out (by unfold okB; rw [h0, if_neg (by decide), if_neg (by decide), if_pos (by decide), hx])
            rw [h0] at c0
            clear hx
            go_wp2_with (go_at_call 42; (with_reducible refine (HH.out _ _).mono ?_); rintro e w2 ⟨rfl, rfl⟩; rw [HX.out])
            go_ret
            rw [HB]
            exact ⟨rfl, H.out.2.1.alloc H.out.2.1.size _⟩
          · have HX := Lib.hid hx
            have HOK := Lib.hid (show okB n v.i = true by unfold okB; rw [h0, if_neg (by decide), if_neg (by decide), if_pos (by decide), hx])
            rw [h0] at c0
            clear hx
            go_wp2_with (go_at_call 42; (with_reducible refine (HH.out _ _).mono ?_); rintro e w2 ⟨rfl, rfl⟩; rw [HX.out])
            exact ⟨⟨j + 1, rfl, hlt, HNx.out (by exact HOK.out) _ ((Below.refl _ _).alloc (Nat.le_refl _) _)⟩, by show n - ((j : Int) + 1).toNat < n - (j : Int).toNat; omega⟩
      · have HB := HBad.out (by unfold okB; rw [if_neg h0, if_neg h2, if_neg h3])
        obtain ⟨e0, e1, e2, e3, e4⟩ : (v.i.op == 0) = false ∧ (v.i.op == 1) = false ∧ (v.i.op == 2) = false ∧ (v.i.op == 3) = false ∧ (v.i.op == 4) = false := by
          simp only [beq_eq_false_iff_ne, ne_eq]
          omega
        clear h0 h2 h3
        go_wp2
        go_ret
        rw [HB]
        exact ⟨rfl, H.out.2.1.alloc H.out.2.1.size _⟩
    · obtain rfl : j = n := by omega
      have e := HR.out.trans (right_all HI.out.1 fun i v hv => H.out.1 i v (by have := (List.getElem?_eq_some_iff.1 hv).1; rw [HI.out.1] at this; exact this) hv)
      have q0 := H.out.2.2.1
      have HE := Lib.hid e
      clear e
      go_wp2
      go_ret
      refine ⟨?_, H.out.2.1⟩
      rw [HE.out]
      simp
end Go.Proofs.Ytegcebgoiocakaa
/- How programs run over code points: by instruction and place; what a walk meets. -/
namespace Go.Proofs.Ytegcebgoiocakaa
set_option linter.unusedVariables false

/-- Where an instruction goes on. -/
def outs (v : InstL) : List Nat := if v.op = 0 then [] else if v.op = 2 then [v.x.toNat, v.y.toNat] else [v.x.toNat]
/-- Does it go on without a code point at place k of m + 1? -/
def openA (m k : Nat) (op : Int) : Bool := decide (op = 2) || (decide (op = 3) && decide (k = 0)) || (decide (op = 4) && decide (k = m))
def EdgeE (p : List InstL) (m k : Nat) (i j : Nat) : Prop := ∃ v, p[i]? = some v ∧ j ∈ outs v ∧ openA m k v.op = true
def EdgeC (p : List InstL) (r : Int) (i j : Nat) : Prop := ∃ v, p[i]? = some v ∧ j ∈ outs v ∧ v.op = 1 ∧ hasL v.set r = true
def IsEnd (p : List InstL) (i : Nat) : Prop := ∃ v, p[i]? = some v ∧ v.op = 0

inductive Star (E : Nat → Nat → Prop) (i : Nat) : Nat → Prop
  | refl : Star E i i
  | tail {j k} : Star E i j → E j k → Star E i k
theorem Star.head {E : Nat → Nat → Prop} {i j k : Nat} (e : E i j) (h : Star E j k) : Star E i k := by
  induction h with
  | refl => exact .tail .refl e
  | tail _ e2 ih => exact .tail ih e2
theorem Star.trans {E : Nat → Nat → Prop} {i j k : Nat} (h1 : Star E i j) (h2 : Star E j k) : Star E i k := by
  induction h2 with
  | refl => exact h1
  | tail _ e2 ih => exact .tail ih e2
theorem Star.swap {E F : Nat → Nat → Prop} (hEF : ∀ a b, E a b → F b a) {i j : Nat} (h : Star E i j) : Star F j i := by
  induction h with
  | refl => exact .refl
  | tail _ e ih => exact .head (hEF _ _ e) ih
theorem Star.mono {E F : Nat → Nat → Prop} (hEF : ∀ a b, E a b → F a b) {i j : Nat} (h : Star E i j) : Star F i j := by
  induction h with
  | refl => exact .refl
  | tail _ e ih => exact .tail ih (hEF _ _ e)

/-- What is reached: from instruction i at place a, instruction j at place b. -/
inductive Rch (p : List InstL) (rs : List Int) (i a : Nat) : Nat → Nat → Prop
  | refl : Rch p rs i a i a
  | eps {j k b} : Rch p rs i a j b → EdgeE p rs.length b j k → Rch p rs i a k b
  | chr {j k b r} : Rch p rs i a j b → rs[b]? = some r → EdgeC p r j k → Rch p rs i a k (b + 1)
section
variable {p : List InstL} {rs : List Int} {i a j b k c : Nat}
theorem Rch.trans (h1 : Rch p rs i a j b) (h2 : Rch p rs j b k c) : Rch p rs i a k c := by
  induction h2 with
  | refl => exact h1
  | eps _ e ih => exact .eps ih e
  | chr _ hr e ih => exact .chr ih hr e
theorem Rch.le (h : Rch p rs i a j b) : a ≤ b := by
  induction h with
  | refl => exact Nat.le_refl _
  | eps _ _ ih => exact ih
  | chr _ _ _ ih => omega
theorem Rch.lt (h : Rch p rs i a j b) (ha : a ≤ rs.length) : b ≤ rs.length := by
  induction h with
  | refl => exact ha
  | eps _ _ ih => exact ih
  | chr _ hr _ _ => have := (List.getElem?_eq_some_iff.1 hr).1; omega
theorem Rch.star (h : Star (EdgeE p rs.length a) i j) : Rch p rs i a j a := by
  induction h with
  | refl => exact .refl
  | tail _ e ih => exact .eps ih e
/-- By its last code point. -/
theorem Rch.back (h : Rch p rs i a j b) : (a = b ∧ Star (EdgeE p rs.length b) i j) ∨ ∃ b' r u v, b = b' + 1 ∧ Rch p rs i a u b' ∧ rs[b']? = some r ∧ EdgeC p r u v ∧ Star (EdgeE p rs.length b) v j := by
  induction h with
  | refl => exact .inl ⟨rfl, .refl⟩
  | eps _ e ih =>
    rcases ih with ⟨h1, h2⟩ | ⟨b', r, u, v, h1, h2, h3, h4, h5⟩
    · exact .inl ⟨h1, .tail h2 e⟩
    · exact .inr ⟨b', r, u, v, h1, h2, h3, h4, .tail h5 e⟩
  | chr h hr e ih => exact .inr ⟨_, _, _, _, rfl, h, hr, e, .refl⟩
/-- By its first one. -/
theorem Rch.front (h : Rch p rs i a j b) : (a = b ∧ Star (EdgeE p rs.length a) i j) ∨ ∃ r u v, Star (EdgeE p rs.length a) i u ∧ rs[a]? = some r ∧ EdgeC p r u v ∧ Rch p rs v (a + 1) j b := by
  induction h with
  | refl => exact .inl ⟨rfl, .refl⟩
  | eps _ e ih =>
    rcases ih with ⟨h1, h2⟩ | ⟨r, u, v, h2, h3, h4, h5⟩
    · subst h1
      exact .inl ⟨rfl, .tail h2 e⟩
    · exact .inr ⟨r, u, v, h2, h3, h4, .eps h5 e⟩
  | chr h hr e ih =>
    rcases ih with ⟨h1, h2⟩ | ⟨r, u, v, h2, h3, h4, h5⟩
    · subst h1
      exact .inr ⟨_, _, _, h2, hr, e, .refl⟩
    · exact .inr ⟨r, u, v, h2, h3, h4, .chr h5 hr e⟩
/-- What goes past a place stands there once. -/
theorem Rch.mid (h : Rch p rs i a j b) (hc : a ≤ c) (hcb : c ≤ b) : ∃ u, Rch p rs i a u c ∧ Rch p rs u c j b := by
  induction h with
  | refl => obtain rfl : c = a := by omega
            exact ⟨i, .refl, .refl⟩
  | eps h e ih =>
    obtain ⟨u, h1, h2⟩ := ih hcb
    exact ⟨u, h1, .eps h2 e⟩
  | @chr j' k' b' r h hr e ih =>
    rcases Nat.lt_or_ge b' c with hl | hl
    · obtain rfl : c = b' + 1 := by omega
      exact ⟨_, .chr h hr e, .refl⟩
    · obtain ⟨u, h1, h2⟩ := ih hl
      exact ⟨u, h1, .chr h2 hr e⟩
end
/-- A match: from place a to place b. -/
def Hits (p : List InstL) (rs : List Int) (a b : Nat) : Prop := ∃ i, Rch p rs 0 a i b ∧ IsEnd p i
/-- The longest match from a place. -/
def Long (p : List InstL) (rs : List Int) (a : Nat) : Option Nat → Prop
  | none => ∀ b, ¬ Hits p rs a b
  | some b => Hits p rs a b ∧ ∀ b', Hits p rs a b' → b' ≤ b
theorem Long.uniq {p : List InstL} {rs : List Int} {a : Nat} {x y : Option Nat} (hx : Long p rs a x) (hy : Long p rs a y) : x = y := by
  cases x with
  | none => cases y with
    | none => rfl
    | some b => exact absurd hy.1 (hx b)
  | some b => cases y with
    | none => exact absurd hx.1 (hy b)
    | some c => have h1 := hx.2 c hy.1; have h2 := hy.2 b hx.1; rw [show b = c by omega]

theorem pw_all {α : Type} {R : α → α → Prop} : ∀ (l : List α), (∀ a b, R a b) → l.Pairwise R
  | [], _ => .nil
  | a :: l, h => .cons (fun b _ => h a b) (pw_all l h)
/-- Meeting an instruction with its other end f. -/
def Met (E : Nat → Nat → Prop) (h h' : List (Nat × Nat)) (i f : Nat) : Prop :=
  ∃ new : List Nat, h' = h ++ new.map (fun j => (j, f)) ∧ (∀ j ∈ new, Star E i j) ∧ i ∈ h'.map Prod.fst ∧ (∀ j ∈ new, ∀ k, E j k → k ∈ h'.map Prod.fst) ∧ (h'.map Prod.fst).Nodup
/-- Meeting many, one behind the other. -/
inductive Steps (E : Nat → Nat → Prop) : List (Nat × Nat) → List (Nat × Nat) → Prop
  | nil : Steps E [] []
  | snoc {todo h h' i f} : Steps E todo h → Met E h h' i f → Steps E (todo ++ [(i, f)]) h'
section
variable {E : Nat → Nat → Prop} {R : Nat → Nat → Prop} {todo h : List (Nat × Nat)}
theorem Steps.nodup (s : Steps E todo h) : (h.map Prod.fst).Nodup := by
  cases s with
  | nil => simp
  | snoc _ m => obtain ⟨new, _, _, _, _, hn⟩ := m; exact hn
theorem Steps.sound (s : Steps E todo h) : ∀ j f, (j, f) ∈ h → ∃ i, (i, f) ∈ todo ∧ Star E i j := by
  induction s with
  | nil => intro j f hm; simp at hm
  | @snoc todo h h' i f0 s m ih =>
    obtain ⟨new, rfl, hs, _, _, _⟩ := m
    intro j f hm
    rcases List.mem_append.1 hm with hm | hm
    · obtain ⟨i', h1, h2⟩ := ih j f hm
      exact ⟨i', List.mem_append_left _ h1, h2⟩
    · obtain ⟨j', hj, e⟩ := List.mem_map.1 hm
      injection e with e1 e2
      subst e1; subst e2
      exact ⟨i, by simp, hs _ hj⟩
theorem Steps.sorted (s : Steps E todo h) (ht : todo.Pairwise fun x y => R x.2 y.2) (hr : ∀ a, R a a) : h.Pairwise fun x y => R x.2 y.2 := by
  induction s with
  | nil => exact .nil
  | @snoc todo h h' i f s m ih =>
    obtain ⟨new, rfl, _, _, _, _⟩ := m
    rw [List.pairwise_append] at ht
    obtain ⟨h1, _, h3⟩ := ht
    rw [List.pairwise_append]
    refine ⟨ih h1, ?_, ?_⟩
    · rw [List.pairwise_map]
      exact pw_all _ (fun _ _ => hr f)
    · intro x hx y hy
      obtain ⟨j', _, rfl⟩ := List.mem_map.1 hy
      obtain ⟨i', h4, _⟩ := s.sound x.1 x.2 hx
      exact h3 _ h4 (i, f) (List.mem_singleton.2 rfl)
/-- All of it is met, with an end that is no worse; and what goes on from it. -/
theorem Steps.all (s : Steps E todo h) (ht : todo.Pairwise fun x y => R x.2 y.2) (hr : ∀ a, R a a) (htr : ∀ a b c, R a b → R b c → R a c) :
    (∀ i f, (i, f) ∈ todo → ∃ f', (i, f') ∈ h ∧ R f' f) ∧ (∀ j f, (j, f) ∈ h → ∀ k, E j k → ∃ f', (k, f') ∈ h ∧ R f' f) := by
  induction s with
  | nil => exact ⟨fun i f hm => by simp at hm, fun i f hm => by simp at hm⟩
  | @snoc todo h h' i f s m ih =>
    have ht' := ht
    rw [List.pairwise_append] at ht'
    obtain ⟨h1, _, h3⟩ := ht'
    obtain ⟨ih1, ih2⟩ := ih h1
    have hle : ∀ x ∈ h', R x.2 f := by
      intro x hx
      obtain ⟨i', h4, _⟩ := (Steps.snoc s m).sound x.1 x.2 hx
      rcases List.mem_append.1 h4 with h5 | h5
      · exact h3 _ h5 (i, f) (List.mem_singleton.2 rfl)
      · simp at h5; rw [h5.2]; exact hr _
    obtain ⟨new, rfl, hs, hi, hc, _⟩ := m
    have get : ∀ k, k ∈ (h ++ new.map fun j => (j, f)).map Prod.fst → ∃ f', (k, f') ∈ h ++ new.map (fun j => (j, f)) ∧ R f' f := by
      intro k hk
      obtain ⟨x, hx, rfl⟩ := List.mem_map.1 hk
      exact ⟨x.2, hx, hle x hx⟩
    refine ⟨fun i' f' hm => ?_, fun j f' hm k e => ?_⟩
    · rcases List.mem_append.1 hm with hm | hm
      · obtain ⟨f'', h4, h5⟩ := ih1 i' f' hm
        exact ⟨f'', List.mem_append_left _ h4, h5⟩
      · simp at hm
        obtain ⟨rfl, rfl⟩ := hm
        exact get _ hi
    · rcases List.mem_append.1 hm with hm | hm
      · obtain ⟨f'', h4, h5⟩ := ih2 j f' hm k e
        exact ⟨f'', List.mem_append_left _ h4, h5⟩
      · obtain ⟨j', hj, e1⟩ := List.mem_map.1 hm
        injection e1 with e1 e2
        subst e1; subst e2
        exact get _ (hc _ hj _ e)
theorem Steps.star (s : Steps E todo h) (ht : todo.Pairwise fun x y => R x.2 y.2) (hr : ∀ a, R a a) (htr : ∀ a b c, R a b → R b c → R a c) {i j f : Nat} (hm : (i, f) ∈ todo) (hs : Star E i j) : ∃ f', (j, f') ∈ h ∧ R f' f := by
  obtain ⟨h1, h2⟩ := s.all ht hr htr
  induction hs with
  | refl => exact h1 _ _ hm
  | tail _ e ih =>
    obtain ⟨f', h3, h4⟩ := ih
    obtain ⟨f'', h5, h6⟩ := h2 _ _ h3 _ e
    exact ⟨f'', h5, htr _ _ _ h6 h4⟩
end

/-- The ways of a walk: (by, to) from each instruction. -/
def WE (p : List InstL) (W : List (List (Nat × Nat))) (m k : Nat) (i j : Nat) : Prop := ∃ ws by_ v, W[i]? = some ws ∧ (by_, j) ∈ ws ∧ p[by_]? = some v ∧ openA m k v.op = true
/-- Which ways take a code point. -/
def takes (p : List InstL) (r : Int) (w : Nat × Nat) : Bool := match p[w.1]? with | some v => decide (v.op = 1) && hasL v.set r | none => false
/-- What a step over a code point meets. -/
def meets (p : List InstL) (W : List (List (Nat × Nat))) (r : Int) (last : List (Nat × Nat)) : List (Nat × Nat) :=
  last.flatMap fun s => ((W.getD s.1 []).filter (takes p r)).map fun w => (w.2, s.2)
theorem mem_meets {p : List InstL} {W : List (List (Nat × Nat))} {r : Int} {last : List (Nat × Nat)} {j f : Nat} : (j, f) ∈ meets p W r last ↔ ∃ i ws by_ v, (i, f) ∈ last ∧ W[i]? = some ws ∧ (by_, j) ∈ ws ∧ p[by_]? = some v ∧ v.op = 1 ∧ hasL v.set r = true := by
  unfold meets
  rw [List.mem_flatMap]
  constructor
  · rintro ⟨⟨i, f'⟩, h1, h2⟩
    obtain ⟨⟨b, t⟩, h3, h4⟩ := List.mem_map.1 h2
    injection h4 with h4 h5
    subst h4; subst h5
    obtain ⟨h6, h7⟩ := List.mem_filter.1 h3
    unfold takes at h7
    cases hv : p[b]? with
    | none => rw [hv] at h7; cases h7
    | some v =>
      rw [hv] at h7
      simp only [Bool.and_eq_true, decide_eq_true_eq] at h7
      cases hw : W[i]? with
      | none => rw [List.getD, hw] at h6; simp at h6
      | some ws =>
        rw [List.getD, hw] at h6
        exact ⟨i, ws, b, v, h1, hw, h6, hv, h7.1, h7.2⟩
  · rintro ⟨i, ws, b, v, h1, h2, h3, h4, h5, h6⟩
    refine ⟨(i, f), h1, List.mem_map.2 ⟨(b, j), List.mem_filter.2 ⟨?_, ?_⟩, rfl⟩⟩
    · rw [List.getD, h2]; exact h3
    · unfold takes; rw [h4]; simp [h5, h6]
theorem meets_sorted {R : Nat → Nat → Prop} {p : List InstL} {W : List (List (Nat × Nat))} {r : Int} {last : List (Nat × Nat)} (hl : last.Pairwise fun x y => R x.2 y.2) (hr : ∀ a, R a a) : (meets p W r last).Pairwise fun x y => R x.2 y.2 := by
  unfold meets
  induction last with
  | nil => exact .nil
  | cons s l ih =>
    rw [List.pairwise_cons] at hl
    rw [List.flatMap_cons, List.pairwise_append]
    refine ⟨?_, ih hl.2, ?_⟩
    · rw [List.pairwise_map]; exact pw_all _ (fun _ _ => hr _)
    · intro x hx y hy
      obtain ⟨_, _, rfl⟩ := List.mem_map.1 hx
      obtain ⟨s', h1, h2⟩ := List.mem_flatMap.1 hy
      obtain ⟨_, _, rfl⟩ := List.mem_map.1 h2
      exact hl.1 s' h1
theorem meets_snoc {p : List InstL} {W : List (List (Nat × Nat))} {r : Int} (l : List (Nat × Nat)) (s : Nat × Nat) : meets p W r (l ++ [s]) = meets p W r l ++ ((W.getD s.1 []).filter (takes p r)).map fun w => (w.2, s.2) := by simp [meets]
end Go.Proofs.Ytegcebgoiocakaa
