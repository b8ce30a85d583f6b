/- The document's trees while they grow: two rows of nodes that the call owns; one. -/
import Derived.Test.YtbhbdhjkicmecaaM01
import Derived.Test.YtbhbdhjkicmecaaM02
import Derived.Test.YtbhbdhjkicmecaaM05
import Derived.Test.YtbhbdhjkicmecaaM07
import Derived.BigQuiet
import Derived.Deep.RegionHeldLaw
import Derived.LoopN
import Derived.Laws.ResultCell
namespace Go.Proofs.Ytbhbdhjkicmecaa
open Go Go.RowKit
set_option linter.unusedVariables false
set_option maxRecDepth 20000

/-- append in a region that draws, by what its run gives in that world. -/
theorem step_append_ex {P : Program} {ops : Array Oper} {o : Oper} {a : Act} {w : World} {K : Act → World → Prop} {Q : Exit → Act → World → Prop} {E : Prop} (hgd : o.guard = none) (s x : Operand) (t : TypeId)
    (ho : o.op = .call { callee := .builtin .append, args := #[s, x], argTypes := #[t, t] }) (hty : o.type = t)
    (v y : Value) (hs : a.eval s = v) (hx : a.eval x = y) (R : Value → World → Prop) (hrun : ∃ v' w', (Builtin.append_ #[t, t] t #[v, y]).run P w = .ok v' w' ∧ R v' w')
    (hK : ∀ v' w', R v' w' → K (a.put o.dst v') w') : if Region.wanted o (yielded ops a.tmps) = true then Oper.wp P o a w K Q else E := by
  obtain ⟨v', w', hrun, hR⟩ := hrun
  have hw : Region.wanted o (yielded ops a.tmps) = true := by simp [Region.wanted, hgd]
  rw [if_pos hw]
  subst hty
  unfold Oper.wp
  simp [execOp, ho, resolve, invoke, builtin, hs, hx, hrun, Result.andThen]
  exact hK _ _ hR

/-- Where nodes may lie: among the tokens' sets, or made since; in neither row's own block. -/
def FT (B0 : Nat → Prop) (B : Nat) (V1 V2 : Value) (b : Nat) : Prop := (B0 b ∨ B ≤ b) ∧ V1.ownBlock ≠ some b ∧ V2.ownBlock ≠ some b
/-- Alternatives and pieces so far. -/
def TreeSt (B0 : Nat → Prop) (B : Nat) (w : World) (P1 : Option Addr) (q1 c1 : Nat) (P2 : Option Addr) (q2 c2 : Nat) (xs ys : List NV) (a p : Wood) : Prop :=
  w.ownsRow B 31 5 (.slice P1 q1 c1) q1 (cellsN xs) ∧ w.ownsRow B 31 5 (.slice P2 q2 c2) q2 (cellsN ys) ∧
  NodesIn (FT B0 B (.slice P1 q1 c1) (.slice P2 q2 c2)) w xs a ∧ NodesIn (FT B0 B (.slice P1 q1 c1) (.slice P2 q2 c2)) w ys p ∧
  ∀ b, (Value.slice P1 q1 c1).ownBlock = some b → (Value.slice P2 q2 c2).ownBlock ≠ some b

/-- A node behind those of a row, whatever world it is. -/
theorem push_at {w : World} {B : Nat} {P : Option Addr} {q pc : Nat} {xs : List NV} {x : NV} (h : w.ownsRow B 31 5 (.slice P q pc) q (cellsN xs)) {d : Nat} (hd : w.heap[d]? = some (.cells x.cells.toArray 31 (0, 0))) (hq : q ≤ 100000) (hb : B ≤ w.heap.size) :
    ∃ P' pc' w', (Builtin.append_ #[29, 29] 29 #[.slice P q pc, .slice (some ⟨d, 0, none⟩) 1 1]).run Try.prog w = .ok (.slice P' (q + 1) pc') w' ∧
      w'.ownsRow B 31 5 (.slice P' (q + 1) pc') (q + 1) (cellsN (xs ++ [x])) ∧ Below B w w' ∧ w.heap.size ≤ w'.heap.size ∧
      ∀ b, b < w.heap.size → (Value.slice P q pc).ownBlock ≠ some b → (Value.slice P' (q + 1) pc').ownBlock ≠ some b ∧ w'.heap[b]? = w.heap[b]? := by
  obtain ⟨i0, hi, hz0, hz1, hz2⟩ := info_parts info_node
  have hcells : ∀ j u, x.cells[j]? = some u → w.cell? ((⟨d, 0, none⟩ : Addr).add j) = some u := by
    intro j u hu
    rw [show (⟨d, 0, none⟩ : Addr).add j = ⟨d, 0 + j, none⟩ by unfold Addr.add; split <;> simp_all, cell_of_row w d (0 + j) _ 31 (0, 0) hd, Nat.zero_add]
    simpa using hu
  obtain ⟨V', w', h1, h2, h3, _, h4⟩ := run_append_own_at (P := Try.prog) w B 29 29 31 i0 _ 5 72 Try.underlying29 hi hz0 hz1 hz2 rfl (by decide) _ q _ h ⟨d, 0, none⟩ 1 1 x.cells rfl hcells x.cells_one (by unfold maxLen; omega) (by omega) hb
  have hb' : Below B w w' := (Below.refl _ _).grown h3 hb (by intro k hk; exact (row_lt h hk).1)
  have key : ∀ b, b < w.heap.size → (Value.slice P q pc).ownBlock ≠ some b → V'.ownBlock ≠ some b ∧ w'.heap[b]? = w.heap[b]? := by
    intro b hlt hne
    refine ⟨fun e => ?_, h3.block b hlt fun e => hne e.symm⟩
    rcases h4 with h4 | h4
    · exact hne (h4 ▸ e)
    · rw [h4] at e
      injection e with e
      omega
  have e : cellsN xs ++ x.cells = cellsN (xs ++ [x]) := by rw [cellsN_append]; simp [cellsN]
  rw [e] at h2
  rcases h2.2 with ⟨rfl, h0⟩ | ⟨b, cap, cu, rfl, _⟩
  · omega
  · exact ⟨_, _, w', h1, h2, hb', h3.size, key⟩
section
variable {B0 : Nat → Prop} {B : Nat} {w X : World} {P1 P2 : Option Addr} {q1 c1 q2 c2 : Nat} {xs ys : List NV} {a p n : Wood} {x : NV}
theorem TreeSt.below (h : TreeSt B0 B w P1 q1 c1 P2 q2 c2 xs ys a p) (hb : Below w.heap.size w X) : TreeSt B0 B X P1 q1 c1 P2 q2 c2 xs ys a p :=
  ⟨row_keep h.1 fun k hk _ => hb.block k hk, row_keep h.2.1 fun k hk _ => hb.block k hk, h.2.2.1.move hb.size fun b hF hlt => ⟨hF, hb.block b hlt⟩, h.2.2.2.1.move hb.size fun b hF hlt => ⟨hF, hb.block b hlt⟩, h.2.2.2.2⟩
theorem TreeSt.start (B0 : Nat → Prop) (B : Nat) (w : World) : TreeSt B0 B w none 0 0 none 0 0 [] [] .nil .nil := ⟨nilN _ _, nilN _ _, trivial, trivial, fun b h => by cases h⟩
theorem TreeSt.bounds (h : TreeSt B0 B w P1 q1 c1 P2 q2 c2 xs ys a p) : xs.length = q1 ∧ ys.length = q2 ∧ a.len = q1 ∧ p.len = q2 := by
  have h1 := h.1.1
  have h2 := h.2.1.1
  rw [cellsN_length] at h1 h2
  have h3 := h.2.2.1.len
  have h4 := h.2.2.2.1.len
  omega
/-- A piece. -/
theorem TreeSt.push2 (h : TreeSt B0 B w P1 q1 c1 P2 q2 c2 xs ys a p) {d : Nat} (hd : w.heap[d]? = some (.cells x.cells.toArray 31 (0, 0))) (hx : NodesIn (FT B0 B (.slice P1 q1 c1) (.slice P2 q2 c2)) w [x] n) (hq : q2 ≤ 100000) (hB : B ≤ w.heap.size) :
    ∃ P' pc' w', (Builtin.append_ #[29, 29] 29 #[.slice P2 q2 c2, .slice (some ⟨d, 0, none⟩) 1 1]).run Try.prog w = .ok (.slice P' (q2 + 1) pc') w' ∧
      TreeSt B0 B w' P1 q1 c1 P' (q2 + 1) pc' xs (ys ++ [x]) a (p.app n) ∧ Below B w w' := by
  obtain ⟨P', pc', w', h1, h2, h3, hs, h4⟩ := push_at h.2.1 hd hq hB
  have key : ∀ b, FT B0 B (.slice P1 q1 c1) (.slice P2 q2 c2) b → b < w.heap.size → FT B0 B (.slice P1 q1 c1) (.slice P' (q2 + 1) pc') b ∧ w'.heap[b]? = w.heap[b]? := fun b hF hlt => by
    obtain ⟨k1, k2⟩ := h4 b hlt hF.2.2
    exact ⟨⟨hF.1, hF.2.1, k1⟩, k2⟩
  refine ⟨P', pc', w', h1, ⟨row_keep h.1 fun k hk hv => (h4 k hk (h.2.2.2.2 k hv)).2, h2, h.2.2.1.move hs key, (h.2.2.2.1.move hs key).app (hx.move hs key), fun b hv => ?_⟩, h3⟩
  exact (h4 b (row_lt h.1 hv).2 (h.2.2.2.2 b hv)).1
/-- An alternative. -/
theorem TreeSt.push1 (h : TreeSt B0 B w P1 q1 c1 P2 q2 c2 xs ys a p) {d : Nat} (hd : w.heap[d]? = some (.cells x.cells.toArray 31 (0, 0))) (hx : NodesIn (fun b => (B0 b ∨ B ≤ b) ∧ (Value.slice P1 q1 c1).ownBlock ≠ some b) w [x] n) (hq : q1 ≤ 100000) (hB : B ≤ w.heap.size) :
    ∃ P' pc' w', (Builtin.append_ #[29, 29] 29 #[.slice P1 q1 c1, .slice (some ⟨d, 0, none⟩) 1 1]).run Try.prog w = .ok (.slice P' (q1 + 1) pc') w' ∧
      TreeSt B0 B w' P' (q1 + 1) pc' none 0 0 (xs ++ [x]) [] (a.app n) .nil ∧ Below B w w' := by
  obtain ⟨P', pc', w', h1, h2, h3, hs, h4⟩ := push_at h.1 hd hq hB
  have key : ∀ b, ((B0 b ∨ B ≤ b) ∧ (Value.slice P1 q1 c1).ownBlock ≠ some b) → b < w.heap.size → FT B0 B (.slice P' (q1 + 1) pc') (.slice none 0 0) b ∧ w'.heap[b]? = w.heap[b]? := fun b hF hlt => by
    obtain ⟨k1, k2⟩ := h4 b hlt hF.2
    exact ⟨⟨hF.1, k1, fun e => by cases e⟩, k2⟩
  exact ⟨P', pc', w', h1, ⟨h2, nilN _ _, (h.2.2.1.move hs fun b hF hlt => key b ⟨hF.1, hF.2.1⟩ hlt).app (hx.move hs key), trivial, fun b hv e => by cases e⟩, h3⟩
end

/-! ### one -/
theorem cell1_res {fn : Func} {p : Tmp} {ty : TypeId} (h : fn.results = #[.cell p ty]) (tmps : Array Value) (P : Program) (w : World) :
    (results fn tmps).run P w = ((asAddr (tmps.getD p undef)).run P w).andThen fun a w₁ => (loadVar ty a).run P w₁ := by
  simp only [results, h]
  simp [Sem.run_bind, Result.andThen]
set_option maxHeartbeats 1000000 in
theorem rone_any (op : Int) {w : World} {B : Nat} {P : Option Addr} {q pc : Nat} {xs : List NV} {T : Wood} {F F' : Nat → Prop} (h : w.ownsRow B 31 5 (.slice P q pc) q (cellsN xs)) (hT : NodesIn F w xs T) (hF : ∀ b, F b → F' b) (hV : ∀ b, (Value.slice P q pc).ownBlock = some b → F' b) (hq : q ≤ 100000) :
    Calls Try.prog 24 #[.int .i64 op, .slice P q pc] w fun e w' => ∃ v, e = .returned v ∧ NodeIn F' w' v (oneN op T) ∧ Below w.heap.size w w' := by
  have hl := hT.len
  have hq1 : xs.length = q := by have := h.1; rw [cellsN_length] at this; omega
  rcases Nat.lt_trichotomy q 1 with h0 | h0 | h0
  · have h0 : q = 0 := by omega
    subst h0
    have hx : xs = [] := List.eq_nil_of_length_eq_zero hq1
    subst hx
    have hTn : T = .nil := by
      match T, hT with
      | .nil, _ => rfl
    subst hTn
    clear h hT hl hq1
    go_enter Try.func24, Try.ntmps24
    go_wp2
    refine bodyPost_ret (v := .agg #[.int .i64 0, .slice none 0 0, .int .i64 0, .int .i64 0, .slice none 0 0]) ?_ rfl ⟨_, rfl, node_leaf _ _ 0, by go_grown⟩
    rw [cell1_res rfl]; go_simp
  · subst h0
    obtain ⟨b, rfl, hB, hb, -, -, -, hc⟩ := row_cellsN h (by omega)
    rcases xs with _ | ⟨x, _ | ⟨y, xs⟩⟩
    · simp at hq1
    · have HC := fun i v hv => hc 0 x rfl i v hv
      have c0 := HC 0 _ rfl
      have c1 := HC 1 _ rfl
      have c2 := HC 2 _ rfl
      have c3 := HC 3 _ rfl
      have c4 := HC 4 _ rfl
      have HN := Lib.hid (hT.move (F' := F') (Nat.le_refl _) (fun b hF' _ => ⟨hF b hF', rfl⟩)).one
      have hon : oneN op T = T := oneN_one (by rw [hl]; rfl)
      rw [hon]
      simp only [Nat.zero_mul, Nat.zero_add, Nat.add_zero] at c0 c1 c2 c3 c4
      have up : ∀ (j : Nat) (v : Value) (o : Obj), w.cell? ⟨b, j, none⟩ = some v → (w.alloc o).cell? ⟨b, j, none⟩ = some v := fun j v o h => (((Below.refl w.heap.size w).alloc (Nat.le_refl _) o).cell (p := ⟨b, j, none⟩) hb).trans h
      have d0 := fun o => up _ _ o c0
      have d1 := fun o => up _ _ o c1
      have d2 := fun o => up _ _ o c2
      have d3 := fun o => up _ _ o c3
      have d4 := fun o => up _ _ o c4
      clear h hT hl hq1 hc HC hon up hF hV
      go_enter Try.func24, Try.ntmps24
      go_wp2
      refine bodyPost_ret (v := x.val) ?_ rfl ⟨_, rfl, HN.out.below (by go_grown), by go_grown⟩
      rw [cell1_res rfl]; go_simp
      rfl
    · simp at hq1
  · obtain ⟨b, rfl, hB, hb, -, hqpc, -, hc⟩ := row_cellsN h (by omega)
    have hon : oneN op T = .cons op [] 0 0 T .nil := oneN_more (by omega)
    have HN := Lib.hid (show NodeIn F' w (.agg #[.int .i64 op, .slice none 0 0, .int .i64 0, .int .i64 0, .slice (some ⟨b, 0, none⟩) q pc]) (oneN op T) by
      rw [hon]
      exact ⟨op, [], 0, 0, T, none, some ⟨b, 0, none⟩, 0, 0, q, pc, rfl, rfl, ⟨rowF_nil _ w, hqpc⟩, by omega, fun _ => ⟨b, 0, rfl, hV b rfl, hb, ((hT.move (F' := F') (Nat.le_refl _) (fun b hF' _ => ⟨hF b hF', rfl⟩)).wood hc)⟩⟩)
    have n0 : ((q : Int) == 0) = false := by simp; omega
    have n1 : ((q : Int) == 1) = false := by simp; omega
    clear h hT hl hq1 hc hon hF hV hqpc
    go_enter Try.func24, Try.ntmps24
    go_wp2
    refine bodyPost_ret (v := .agg #[.int .i64 op, .slice none 0 0, .int .i64 0, .int .i64 0, .slice (some ⟨b, 0, none⟩) q pc]) ?_ rfl ⟨_, rfl, HN.out.below (by go_grown), by go_grown⟩
    rw [cell1_res rfl]; go_simp
end Go.Proofs.Ytbhbdhjkicmecaa
/- The document's number. -/
namespace Go.Proofs.Ytbhbdhjkicmecaa
open Go Go.RowKit
set_option linter.unusedVariables false
set_option maxRecDepth 20000

def numV (l : List Int) : Int × Int :=
  match numL l with
  | some (a, rest) => (a, (l.length : Int) - (rest.length : Int))
  | none => (0, 0)
theorem isDig_iff (r : Int) : isDig r = true ↔ 48 ≤ r ∧ r ≤ 57 := by unfold isDig; simp
theorem numV_nil : numV [] = (0, 0) := rfl
theorem numV_no {a : Int} {l : List Int} (h : ¬ (48 ≤ a ∧ a ≤ 57)) : numV (a :: l) = (0, 0) := by
  have hd : isDig a = false := by rw [← Bool.not_eq_true, isDig_iff]; exact h
  unfold numV
  rcases l with _ | ⟨b, l⟩ <;> simp [numL, hd]
theorem numV_one {a : Int} (h : 48 ≤ a ∧ a ≤ 57) : numV [a] = (a - 48, 1) := by
  have hd : isDig a = true := (isDig_iff a).2 h
  simp [numV, numL, hd]
theorem numV_oneb {a b : Int} {l : List Int} (h : 48 ≤ a ∧ a ≤ 57) (hb : ¬ (48 ≤ b ∧ b ≤ 57)) : numV (a :: b :: l) = (a - 48, 1) := by
  have hd : isDig a = true := (isDig_iff a).2 h
  have hd2 : isDig b = false := by rw [← Bool.not_eq_true, isDig_iff]; exact hb
  simp [numV, numL, hd, hd2]
  omega
theorem numV_two {a b : Int} {l : List Int} (h : 48 ≤ a ∧ a ≤ 57) (hb : 48 ≤ b ∧ b ≤ 57) : numV (a :: b :: l) = if 10 * (a - 48) + (b - 48) > 50 then (0, 0) else (10 * (a - 48) + (b - 48), 2) := by
  have hd : isDig a = true := (isDig_iff a).2 h
  have hd2 : isDig b = true := (isDig_iff b).2 hb
  by_cases hv : 10 * (a - 48) + (b - 48) > 50
  · simp [numV, numL, hd, hd2, hv]
  · simp [numV, numL, hd, hd2, hv]
    omega

set_option maxHeartbeats 2000000 in
theorem rnum_any (l : List Int) (A : Option Addr) (n c : Nat) (W : World) (hr : RowI .i64 W A n l) (hn : n ≤ 1000) :
    Calls Try.prog 37 #[.slice A n c] W fun e w' => e = .returned (.tuple #[.int .i64 (numV l).1, .int .i64 (numV l).2]) ∧ W = w' := by
  have hl := hr.1
  rcases l with _ | ⟨a, l⟩
  · have h0 : n = 0 := by simpa using hl.symm
    subst h0
    rw [numV_nil]
    clear hr hl
    go_enter Try.func37, Try.ntmps37
    go_wp2
    go_rounds 3
    go_ret2
    exact ⟨rfl, rfl⟩
  · obtain ⟨g, o, rfl, hg, hc⟩ := hr.2 (by rw [List.length_cons] at hl; omega)
    have c0 := hc 0 (by rw [List.length_cons] at hl; omega)
    rw [show (a :: l).getD 0 0 = a from rfl, Nat.add_zero] at c0
    by_cases ha : 48 ≤ a ∧ a ≤ 57
    · obtain ⟨a1, a2⟩ := ha
      rcases l with _ | ⟨b, l⟩
      · have h1 : n = 1 := by simpa using hl.symm
        subst h1
        rw [numV_one ⟨a1, a2⟩]
        clear hr hl hc
        go_enter Try.func37, Try.ntmps37
        go_wp2
        go_rounds 3
        go_ret2
        exact ⟨rfl, rfl⟩
      · have hn2 : 2 ≤ n := by rw [List.length_cons, List.length_cons] at hl; omega
        have c1 := hc 1 (by omega)
        rw [show (a :: b :: l).getD 1 0 = b from rfl] at c1
        have i1 : (1 : Int) < (n : Int) := by omega
        have i0 : (0 : Int) < (n : Int) := by omega
        by_cases hb : 48 ≤ b ∧ b ≤ 57
        · obtain ⟨b1, b2⟩ := hb
          have w1 : IntKind.i64.wrap ((a - 48) * 10) = (a - 48) * 10 := by rw [IntKind.wrap_i64]; omega
          have w2 : IntKind.i64.wrap ((a - 48) * 10 + b) = (a - 48) * 10 + b := by rw [IntKind.wrap_i64]; omega
          have w3 : IntKind.i64.wrap ((a - 48) * 10 + b - 48) = (a - 48) * 10 + b - 48 := by rw [IntKind.wrap_i64]; omega
          rw [numV_two ⟨a1, a2⟩ ⟨b1, b2⟩]
          by_cases hv : 10 * (a - 48) + (b - 48) > 50
          · rw [if_pos hv]
            have v1 : 50 < (a - 48) * 10 + b - 48 := by omega
            clear hr hl hc hv
            go_enter Try.func37, Try.ntmps37
            go_wp2
            go_rounds 3
            go_ret2
            exact ⟨rfl, rfl⟩
          · rw [if_neg hv]
            have v1 : ¬ 50 < (a - 48) * 10 + b - 48 := by omega
            have HV := Lib.hid (show (a - 48) * 10 + b - 48 = 10 * (a - 48) + (b - 48) by omega)
            clear hr hl hc hv
            go_enter Try.func37, Try.ntmps37
            go_wp2
            go_rounds 3
            go_ret2
            exact ⟨by rw [← HV.out]; rfl, rfl⟩
        · rw [numV_oneb ⟨a1, a2⟩ hb]
          clear hr hl hc
          by_cases hb1 : 48 ≤ b
          · have hb2 : ¬ b ≤ 57 := fun h => hb ⟨hb1, h⟩
            clear hb
            go_enter Try.func37, Try.ntmps37
            go_wp2
            go_rounds 3
            go_ret2
            exact ⟨rfl, rfl⟩
          · clear hb
            go_enter Try.func37, Try.ntmps37
            go_wp2
            go_rounds 3
            go_ret2
            exact ⟨rfl, rfl⟩
    · rw [numV_no ha]
      have i0 : (0 : Int) < (n : Int) := by rw [List.length_cons] at hl; omega
      clear hr hl hc
      by_cases ha1 : 48 ≤ a
      · have ha2 : ¬ a ≤ 57 := fun h => ha ⟨ha1, h⟩
        clear ha
        go_enter Try.func37, Try.ntmps37
        go_wp2
        go_rounds 3
        go_ret2
        exact ⟨rfl, rfl⟩
      · clear ha
        go_enter Try.func37, Try.ntmps37
        go_wp2
        go_rounds 3
        go_ret2
        exact ⟨rfl, rfl⟩
end Go.Proofs.Ytbhbdhjkicmecaa
/- The document's braces: a count behind its brace. -/
namespace Go.Proofs.Ytbhbdhjkicmecaa
open Go Go.RowKit
set_option linter.unusedVariables false
set_option maxRecDepth 20000

/-- A token as a value. -/
def tokV (t : TokL) (A : Option Addr) (n c : Nat) : Value := .agg #[.int .i64 t.kind, .int .i64 t.r, .slice A n c, .int .i64 t.mn, .int .i64 t.mx]
theorem numL_rest {l rest : List Int} {a : Int} (h : numL l = some (a, rest)) : ∃ k : Nat, 1 ≤ k ∧ k ≤ 2 ∧ rest = l.drop k ∧ k + rest.length = l.length ∧ 0 ≤ a ∧ a ≤ 50 ∧ numV l = (a, (k : Int)) := by
  rcases l with _ | ⟨x, _ | ⟨y, l⟩⟩
  · simp [numL] at h
  · by_cases hx : 48 ≤ x ∧ x ≤ 57
    · have hd := (isDig_iff x).2 hx
      simp [numL, hd] at h
      obtain ⟨rfl, rfl⟩ := h
      exact ⟨1, by omega, by omega, rfl, rfl, by omega, by omega, numV_one hx⟩
    · have hd : isDig x = false := by rw [← Bool.not_eq_true, isDig_iff]; exact hx
      simp [numL, hd] at h
  · by_cases hx : 48 ≤ x ∧ x ≤ 57
    · have hd := (isDig_iff x).2 hx
      by_cases hy : 48 ≤ y ∧ y ≤ 57
      · have hd2 := (isDig_iff y).2 hy
        by_cases hv : 10 * (x - 48) + (y - 48) > 50
        · simp [numL, hd, hd2, hv] at h
        · simp [numL, hd, hd2, hv] at h
          obtain ⟨rfl, rfl⟩ := h
          exact ⟨2, by omega, by omega, rfl, by simp; omega, by omega, by omega, by rw [numV_two hx hy, if_neg hv]; rfl⟩
      · have hd2 : isDig y = false := by rw [← Bool.not_eq_true, isDig_iff]; exact hy
        simp [numL, hd, hd2] at h
        obtain ⟨rfl, rfl⟩ := h
        exact ⟨1, by omega, by omega, rfl, by simp; omega, by omega, by omega, numV_oneb hx hy⟩
    · have hd : isDig x = false := by rw [← Bool.not_eq_true, isDig_iff]; exact hx
      simp [numL, hd] at h
theorem numL_none {l : List Int} (h : numL l = none) : numV l = (0, 0) := by unfold numV; rw [h]

/-- What braces answers. -/
def braceR (l : List Int) (e : Ending) : Prop :=
  match braceL l with
  | some (t, rest) => ∃ j : Nat, j + rest.length = l.length ∧ 1 ≤ j ∧ e = .returned (.tuple #[tokV t none 0 0, .int .i64 (j : Int)])
  | none => e = .returned (.tuple #[.agg #[.int .i64 0, .int .i64 0, .slice none 0 0, .int .i64 0, .int .i64 0], .int .i64 0])

set_option maxHeartbeats 2000000 in
theorem rbrace_none (l : List Int) (A : Option Addr) (n c : Nat) (W : World) (hr : RowI .i64 W A n l) (hn : n ≤ 1000) (hl : numL l = none) :
    Calls Try.prog 21 #[.slice A n c] W fun e w' => braceR l e ∧ Below W.heap.size W w' := by
  have HB := Lib.hid (show braceL l = none by unfold braceL; rw [hl])
  have hv := numL_none hl
  have hx : ∀ w, Below W.heap.size W w → Calls Try.prog 37 #[.slice A n c] w fun e w' => e = .returned (.tuple #[.int .i64 0, .int .i64 0]) ∧ w = w' := fun w h => by
    have := rnum_any l A n c w (hr.below h (Nat.le_refl _)) hn
    rw [hv] at this
    exact this
  have HX := Lib.hid hx
  clear hr hl hv hx
  go_enter Try.func21, Try.ntmps21
  go_wp2_with (go_at_call 37; refine (HX.out _ ((Below.refl _ _).alloc (Nat.le_refl _) _)).mono ?_; rintro e w1 ⟨rfl, rfl⟩)
  refine bodyPost_ret (v := .tuple #[.agg #[.int .i64 0, .int .i64 0, .slice none 0 0, .int .i64 0, .int .i64 0], .int .i64 0]) ?_ rfl ⟨?_, by go_grown⟩
  · rw [results_cell_tmp rfl]; go_simp
  · unfold braceR; rw [HB.out]

/-- A first number, and what is behind it. -/
theorem rbrace_head {l rest : List Int} {a : Int} {A : Option Addr} {n c : Nat} {W : World} (hr : RowI .i64 W A n l) (hn : n ≤ 1000) (hl : numL l = some (a, rest)) :
    ∃ (k : Nat) (b o : Nat), 1 ≤ k ∧ k ≤ 2 ∧ A = some ⟨b, o, none⟩ ∧ b < W.heap.size ∧ k + rest.length = n ∧ 0 ≤ a ∧ a ≤ 50 ∧ rest = l.drop k ∧ (∀ j, k + j < n → W.cell? ⟨b, o + (k + j), none⟩ = some (.int .i64 (rest.getD j 0))) ∧
      Hid (∀ w, Below W.heap.size W w → Calls Try.prog 37 #[.slice A n c] w fun e w' => e = .returned (.tuple #[.int .i64 a, .int .i64 (k : Int)]) ∧ w = w') := by
  obtain ⟨k, k1, k2, h1, h2, a0, a1, hv⟩ := numL_rest hl
  obtain ⟨b, o, rfl, hb, hc⟩ := hr.2 (by have := hr.1; omega)
  refine ⟨k, b, o, k1, k2, rfl, hb, by rw [h2, hr.1], a0, a1, h1, fun j hj => ?_, Lib.hid fun w h => ?_⟩
  · rw [hc (k + j) hj, h1]
    simp [List.getD]
  · have := rnum_any l (some ⟨b, o, none⟩) n c w (hr.below h (Nat.le_refl _)) hn
    rw [hv] at this
    exact this
set_option maxHeartbeats 4000000 in
theorem rbrace_end (l : List Int) (a : Int) (A : Option Addr) (n c : Nat) (W : World) (hr : RowI .i64 W A n l) (hn : n ≤ 1000) (hl : numL l = some (a, [])) :
    Calls Try.prog 21 #[.slice A n c] W fun e w' => braceR l e ∧ Below W.heap.size W w' := by
  have HB := Lib.hid (show braceL l = none by unfold braceL; rw [hl])
  obtain ⟨k, b, o, k1, k2, rfl, hb, hkn, a0, a1, hdr, hc, HX⟩ := rbrace_head (c := c) hr hn hl
  clear hdr
  have hk : ¬ (k : Int) = 0 := by omega
  have kb : ((k : Int) == 0) = false := by simpa using hk
  have hkn2 : (n : Int) ≤ (k : Int) := by simp at hkn; omega
  clear hr hl hc
  go_enter Try.func21, Try.ntmps21
  go_wp2_with (go_at_call 37; refine (HX.out _ ((Below.refl _ _).alloc (Nat.le_refl _) _)).mono ?_; rintro e w1 ⟨rfl, rfl⟩)
  refine bodyPost_ret (v := .tuple #[.agg #[.int .i64 0, .int .i64 0, .slice none 0 0, .int .i64 0, .int .i64 0], .int .i64 0]) ?_ rfl ⟨?_, by go_grown⟩
  · rw [results_cell_tmp rfl]; go_simp
  · unfold braceR; rw [HB.out]

set_option maxHeartbeats 4000000 in
theorem rbrace_shut (l r' : List Int) (a : Int) (A : Option Addr) (n c : Nat) (W : World) (hr : RowI .i64 W A n l) (hn : n ≤ 1000) (hl : numL l = some (a, 125 :: r')) :
    Calls Try.prog 21 #[.slice A n c] W fun e w' => braceR l e ∧ Below W.heap.size W w' := by
  have HB := Lib.hid (show braceL l = some (tokN a a, r') by unfold braceL; rw [hl]; rfl)
  obtain ⟨k, b, o, k1, k2, rfl, hb, hkn, a0, a1, hdr, hc, HX⟩ := rbrace_head (c := c) hr hn hl
  clear hdr
  rw [List.length_cons] at hkn
  have hk : ¬ (k : Int) = 0 := by omega
  have kb : ((k : Int) == 0) = false := by simpa using hk
  have hkn2 : (k : Int) < (n : Int) := by omega
  have c0 := hc 0 (by omega)
  rw [Nat.add_zero, show (125 :: r').getD 0 0 = 125 from rfl] at c0
  have HLN := Lib.hid (show (k + 1) + r'.length = l.length by have := hr.1; omega)
  clear hr hl hc hkn
  go_enter Try.func21, Try.ntmps21
  go_wp2_with (go_at_call 37; refine (HX.out _ ((Below.refl _ _).alloc (Nat.le_refl _) _)).mono ?_; rintro e w1 ⟨rfl, rfl⟩)
  refine bodyPost_ret (v := .tuple #[.agg #[.int .i64 2, .int .i64 0, .slice none 0 0, .int .i64 a, .int .i64 a], .int .i64 ((k : Int) + 1)]) ?_ rfl ⟨?_, by go_grown⟩
  · rw [results_cell_tmp rfl]; go_simp
  · unfold braceR; rw [HB.out]; exact ⟨k + 1, HLN.out, by omega, by rw [show ((k + 1 : Nat) : Int) = (k : Int) + 1 by omega]; rfl⟩
set_option maxHeartbeats 4000000 in
theorem rbrace_other (l r' : List Int) (a : Int) (x : Int) (h1 : x ≠ 125) (h2 : x ≠ 44) (A : Option Addr) (n c : Nat) (W : World) (hr : RowI .i64 W A n l) (hn : n ≤ 1000) (hl : numL l = some (a, x :: r')) :
    Calls Try.prog 21 #[.slice A n c] W fun e w' => braceR l e ∧ Below W.heap.size W w' := by
  have HB := Lib.hid (show braceL l = none by unfold braceL; rw [hl]; simp [h1, h2])
  obtain ⟨k, b, o, k1, k2, rfl, hb, hkn, a0, a1, hdr, hc, HX⟩ := rbrace_head (c := c) hr hn hl
  clear hdr
  rw [List.length_cons] at hkn
  have hk : ¬ (k : Int) = 0 := by omega
  have kb : ((k : Int) == 0) = false := by simpa using hk
  have hkn2 : (k : Int) < (n : Int) := by omega
  have c0 := hc 0 (by omega)
  rw [Nat.add_zero, show (x :: r').getD 0 0 = x from rfl] at c0
  have e1 : (x == 125) = false := by simpa using h1
  have e2 : (x != 44) = true := by simpa using h2
  clear hr hl hc hkn
  go_enter Try.func21, Try.ntmps21
  go_wp2_with (go_at_call 37; refine (HX.out _ ((Below.refl _ _).alloc (Nat.le_refl _) _)).mono ?_; rintro e w1 ⟨rfl, rfl⟩)
  refine bodyPost_ret (v := .tuple #[.agg #[.int .i64 0, .int .i64 0, .slice none 0 0, .int .i64 0, .int .i64 0], .int .i64 0]) ?_ rfl ⟨?_, by go_grown⟩
  · rw [results_cell_tmp rfl]; go_simp
  · unfold braceR; rw [HB.out]
set_option maxHeartbeats 4000000 in
theorem rbrace_comma (l r' : List Int) (a : Int) (A : Option Addr) (n c : Nat) (W : World) (hr : RowI .i64 W A n l) (hn : n ≤ 1000) (hl : numL l = some (a, [44])) :
    Calls Try.prog 21 #[.slice A n c] W fun e w' => braceR l e ∧ Below W.heap.size W w' := by
  have HB := Lib.hid (show braceL l = none by unfold braceL; rw [hl]; rfl)
  obtain ⟨k, b, o, k1, k2, rfl, hb, hkn, a0, a1, hdr, hc, HX⟩ := rbrace_head (c := c) hr hn hl
  clear hdr
  rw [List.length_cons] at hkn
  have hk : ¬ (k : Int) = 0 := by omega
  have kb : ((k : Int) == 0) = false := by simpa using hk
  have hkn2 : (k : Int) < (n : Int) := by omega
  have c0 := hc 0 (by omega)
  rw [Nat.add_zero, show ([(44 : Int)]).getD 0 0 = 44 from rfl] at c0
  have hkn3 : (n : Int) ≤ (k : Int) + 1 := by simp at hkn; omega
  clear hr hl hc hkn
  go_enter Try.func21, Try.ntmps21
  go_wp2_with (go_at_call 37; refine (HX.out _ ((Below.refl _ _).alloc (Nat.le_refl _) _)).mono ?_; rintro e w1 ⟨rfl, rfl⟩)
  refine bodyPost_ret (v := .tuple #[.agg #[.int .i64 0, .int .i64 0, .slice none 0 0, .int .i64 0, .int .i64 0], .int .i64 0]) ?_ rfl ⟨?_, by go_grown⟩
  · rw [results_cell_tmp rfl]; go_simp
  · unfold braceR; rw [HB.out]
set_option maxHeartbeats 4000000 in
theorem rbrace_open (l r' : List Int) (a : Int) (A : Option Addr) (n c : Nat) (W : World) (hr : RowI .i64 W A n l) (hn : n ≤ 1000) (hl : numL l = some (a, 44 :: 125 :: r')) :
    Calls Try.prog 21 #[.slice A n c] W fun e w' => braceR l e ∧ Below W.heap.size W w' := by
  have HB := Lib.hid (show braceL l = some (tokN a (-1), r') by unfold braceL; rw [hl]; rfl)
  obtain ⟨k, b, o, k1, k2, rfl, hb, hkn, a0, a1, hdr, hc, HX⟩ := rbrace_head (c := c) hr hn hl
  clear hdr
  rw [List.length_cons] at hkn
  have hk : ¬ (k : Int) = 0 := by omega
  have kb : ((k : Int) == 0) = false := by simpa using hk
  have hkn2 : (k : Int) < (n : Int) := by omega
  have c0 := hc 0 (by omega)
  rw [Nat.add_zero, show (44 :: 125 :: r').getD 0 0 = 44 from rfl] at c0
  rw [List.length_cons] at hkn
  have c1 := hc 1 (by omega)
  rw [show (44 :: 125 :: r').getD 1 0 = 125 from rfl] at c1
  have c2 := c1
  rw [← Nat.add_assoc] at c2
  have hkn3 : (k : Int) + 1 < (n : Int) := by omega
  have HLN := Lib.hid (show (k + 2) + r'.length = l.length by have := hr.1; omega)
  clear hr hl hc hkn
  go_enter Try.func21, Try.ntmps21
  go_wp2_with (go_at_call 37; refine (HX.out _ ((Below.refl _ _).alloc (Nat.le_refl _) _)).mono ?_; rintro e w1 ⟨rfl, rfl⟩)
  refine bodyPost_ret (v := .tuple #[.agg #[.int .i64 2, .int .i64 0, .slice none 0 0, .int .i64 a, .int .i64 (-1)], .int .i64 ((k : Int) + 2)]) ?_ rfl ⟨?_, by go_grown⟩
  · rw [results_cell_tmp rfl]; go_simp
  · unfold braceR; rw [HB.out]; exact ⟨k + 2, HLN.out, by omega, by rw [show ((k + 2 : Nat) : Int) = (k : Int) + 2 by omega]; rfl⟩
end Go.Proofs.Ytbhbdhjkicmecaa
/- Rows of the document's tokens, and where a parenthesis is closed. -/
namespace Go.Proofs.Ytbhbdhjkicmecaa
open Go Go.RowKit
set_option linter.unusedVariables false
set_option maxRecDepth 20000

/-- A token's five values. -/
def tokC5 (t : TokL) (A : Option Addr) (m c : Nat) : List Value := [.int .i64 t.kind, .int .i64 t.r, .slice A m c, .int .i64 t.mn, .int .i64 t.mx]
/-- The slice at L with n tokens reads as ts; the sets' blocks are of F. -/
def ToksAt (F : Nat → Prop) (w : World) (L : Option Addr) (n : Nat) (ts : List TokL) : Prop :=
  ts.length = n ∧ (0 < n → ∃ b o, L = some ⟨b, o, none⟩ ∧ b < w.heap.size ∧ ∀ j t, ts[j]? = some t → ∃ (A : Option Addr) (m c : Nat), (∀ i v, (tokC5 t A m c)[i]? = some v → w.cell? ⟨b, o + j * 5 + i, none⟩ = some v) ∧ RowF F w A m t.set)
section
variable {F : Nat → Prop} {w w' : World} {L : Option Addr} {n : Nat} {ts : List TokL}
theorem ToksAt.below (h : ToksAt F w L n ts) (hb : Below w.heap.size w w') : ToksAt F w' L n ts := by
  refine ⟨h.1, fun hn => ?_⟩
  obtain ⟨b, o, hL, hlt, hc⟩ := h.2 hn
  refine ⟨b, o, hL, Nat.lt_of_lt_of_le hlt hb.size, fun j t ht => ?_⟩
  obtain ⟨A, m, c, h1, h2⟩ := hc j t ht
  exact ⟨A, m, c, fun i v hv => (hb.cell (p := ⟨b, o + j * 5 + i, none⟩) hlt).trans (h1 i v hv), h2.below hb⟩
theorem ToksAt.cut (h : ToksAt F w L n ts) (k m : Nat) (hk : k + m ≤ n) (b o : Nat) (hL : L = some ⟨b, o, none⟩) : ToksAt F w (some ⟨b, o + k * 5, none⟩) m ((ts.drop k).take m) := by
  refine ⟨by rw [List.length_take, List.length_drop, h.1]; omega, fun hm => ?_⟩
  obtain ⟨b', o', hL', hlt, hc⟩ := h.2 (by omega)
  rw [hL] at hL'
  injection hL' with hL'
  injection hL' with e1 e2
  subst e1; subst e2
  refine ⟨b, o + k * 5, rfl, hlt, fun j t ht => ?_⟩
  have hj : j < m := by have := (List.getElem?_eq_some_iff.1 ht).1; rw [List.length_take] at this; omega
  rw [List.getElem?_take_of_lt hj, List.getElem?_drop] at ht
  obtain ⟨A, m', c, h1, h2⟩ := hc (k + j) t ht
  exact ⟨A, m', c, fun i v hv => by rw [show o + k * 5 + j * 5 + i = o + (k + j) * 5 + i by omega]; exact h1 i v hv, h2⟩
end

/-- Where a parenthesis is closed, counted. -/
def closeR : Nat → List TokL → Option Nat
  | _, [] => none
  | d, t :: l => if isOpen t = true then (closeR (d + 1) l).map (· + 1) else if isShut t = true then (if d = 1 then some 0 else (closeR (d - 1) l).map (· + 1)) else (closeR d l).map (· + 1)
theorem closeR_is : ∀ (l : List TokL) (c : Nat), closeR (c + 1) l = closeL c l
  | [], _ => by rw [closeR, closeL]
  | t :: l, c => by
    rw [closeR, closeL_cons, closeR_is l (c + 1)]
    rcases c with _ | c
    · rw [if_pos rfl, closeR_is l 0]
    · have e : ∀ x : Option Nat, (if c + 1 + 1 = 1 then some 0 else x) = x := fun x => if_neg (by omega)
      rw [e, show c + 1 + 1 - 1 = c + 1 by omega, closeR_is l c, closeR_is l (c + 1)]
def closeI (at' : Nat) (r : Option Nat) : Int := match r with
  | some k => (at' : Int) + (k : Int)
  | none => -1
theorem closeR_some : ∀ (l : List TokL) (d k : Nat), closeR d l = some k → k < l.length
  | [], _, _, h => by cases h
  | t :: l, d, k, h => by
    rw [closeR] at h
    rw [List.length_cons]
    split at h
    · obtain ⟨i, hi, rfl⟩ := Option.map_eq_some_iff.1 h
      have := closeR_some l _ i hi
      omega
    · split at h
      · split at h
        · injection h with h; omega
        · obtain ⟨i, hi, rfl⟩ := Option.map_eq_some_iff.1 h
          have := closeR_some l _ i hi
          omega
      · obtain ⟨i, hi, rfl⟩ := Option.map_eq_some_iff.1 h
        have := closeR_some l _ i hi
        omega

set_option maxHeartbeats 2000000 in
theorem rclose_any {F : Nat → Prop} {W : World} {L : Option Addr} {n : Nat} {ts : List TokL} (c : Nat) (h : ToksAt F W L n ts) (hn : n ≤ 200) (k : Nat) (t0 : TokL) (hk : ts[k]? = some t0) (h0 : isOpen t0 = true) :
    Calls Try.prog 25 #[.slice L n c, .int .i64 (k : Int)] W fun e w' => e = .returned (.int .i64 (closeI k (closeR 0 (ts.drop k)))) ∧ W = w' := by
  have hkn : k < n := by have := (List.getElem?_eq_some_iff.1 hk).1; rw [h.1] at this; exact this
  obtain ⟨b, o, rfl, hlt, hc⟩ := h.2 (by omega)
  have HL := Lib.hid h.1
  have HC := Lib.hid fun j t (ht : ts[j]? = some t) => show W.cell? ⟨b, o + j * 5, none⟩ = some (.int .i64 t.kind) ∧ W.cell? ⟨b, o + j * 5 + 1, none⟩ = some (.int .i64 t.r) from by
    obtain ⟨A, m, c, h1, _⟩ := hc j t ht
    exact ⟨h1 0 _ rfl, h1 1 _ rfl⟩
  have HK := Lib.hid (And.intro hk h0)
  clear h hc hk h0
  go_enter Try.func25, Try.ntmps25
  go_wp2_with fail
  go_loopw [5, 6] (fun vd vi wr => ∃ (d j : Nat), vd = .int .i64 (d : Int) ∧ vi = .int .i64 (j : Int) ∧ wr = W ∧ j ≤ n ∧ k ≤ j ∧ d ≤ j ∧ Hid ((1 ≤ d ∨ (d = 0 ∧ j = k)) ∧ closeR 0 (ts.drop k) = (closeR d (ts.drop j)).map (· + (j - k)))) (fun _ vi _ => match vi with | .int _ j => n - j.toNat | _ => 0)
  case atStart => exact ⟨0, k, rfl, rfl, rfl, by omega, by omega, by omega, Lib.hid ⟨.inr ⟨rfl, rfl⟩, by simp⟩⟩
  case round =>
    obtain ⟨d, j, rfl, rfl, rfl, hjn, hkj, hdj, H⟩ := hrel
    by_cases hj : j < n
    · obtain ⟨t, ht⟩ : ∃ t, ts[j]? = some t := ⟨_, List.getElem?_eq_getElem (by rw [HL.out]; exact hj)⟩
      obtain ⟨c0, c1⟩ := HC.out j t ht
      have HD := Lib.hid (show ts.drop j = t :: ts.drop (j + 1) by
        obtain ⟨h1, h2⟩ := List.getElem?_eq_some_iff.1 ht
        rw [List.drop_eq_getElem_cons h1, h2])
      have HT := Lib.hid ht
      have hw1 : IntKind.i64.wrap ((d : Int) + 1) = ((d + 1 : Nat) : Int) := by rw [IntKind.wrap_i64]; omega
      clear ht
      have hms : n - (j + 1) < n - j := by omega
      have step : ∀ d' : Nat, (1 ≤ d' ∨ (d' = 0 ∧ j + 1 = k)) → closeR d (t :: ts.drop (j + 1)) = (closeR d' (ts.drop (j + 1))).map (· + 1) → Hid ((1 ≤ d' ∨ (d' = 0 ∧ j + 1 = k)) ∧ closeR 0 (ts.drop k) = (closeR d' (ts.drop (j + 1))).map (· + (j + 1 - k))) := fun d' h1 h2 => Lib.hid ⟨h1, by
        rw [H.out.2, HD.out, h2, Option.map_map]
        congr 1
        funext x
        show x + 1 + (j - k) = x + (j + 1 - k)
        omega⟩
      have HSt := Lib.hid step
      clear step
      by_cases hk1 : t.kind = 1
      · by_cases h40 : t.r = 40
        · have HO := Lib.hid (show isOpen t = true by unfold isOpen; rw [hk1, h40]; rfl)
          rw [hk1] at c0
          rw [h40] at c1
          clear hk1 h40
          go_wp2
          exact ⟨⟨d + 1, j + 1, rfl, rfl, trivial, by omega, by omega, by omega, HSt.out _ (.inl (by omega)) (by rw [closeR, if_pos HO.out])⟩, by show n - ((j : Int) + 1).toNat < n - (j : Int).toNat; omega⟩
        · have HO := Lib.hid (show isOpen t = false from open_no (.inr h40))
          have hd1 : 1 ≤ d := by
            rcases H.out.1 with h | ⟨_, h⟩
            · exact h
            · subst h
              have := HK.out.1
              rw [HT.out] at this
              injection this with this
              rw [this, HK.out.2] at HO
              cases HO.out
          have e40 : (t.r == 40) = false := by simpa using h40
          by_cases h41 : t.r = 41
          · have HS := Lib.hid (show isShut t = true by unfold isShut; rw [hk1, h41]; rfl)
            have hw2 : IntKind.i64.wrap ((d : Int) - 1) = ((d - 1 : Nat) : Int) := by rw [IntKind.wrap_i64]; omega
            rw [hk1] at c0
            rw [h41] at c1
            clear hk1 h40 h41 e40
            by_cases hd : d = 1
            · subst hd
              go_wp2
              go_ret
              have e : closeR 0 (ts.drop k) = some (j - k) := by
                rw [H.out.2, HD.out, closeR, if_neg (by rw [HO.out]; decide), if_pos HS.out, if_pos rfl]
                show some (0 + (j - k)) = _
                rw [Nat.zero_add]
              rw [e]
              refine ⟨?_, rfl⟩
              show _ = Ending.returned (.int .i64 ((k : Int) + ((j - k : Nat) : Int)))
              rw [show (k : Int) + ((j - k : Nat) : Int) = (j : Int) by omega]
              rfl
            · have n1 : ((d : Int) - 1 == 0) = false := by simp; omega
              go_wp2
              exact ⟨⟨d - 1, j + 1, by rw [show ((d - 1 : Nat) : Int) = (d : Int) - 1 by omega], rfl, trivial, by omega, by omega, by omega, HSt.out _ (.inl (by omega)) (by rw [closeR, if_neg (by rw [HO.out]; decide), if_pos HS.out, if_neg hd])⟩, by show n - ((j : Int) + 1).toNat < n - (j : Int).toNat; omega⟩
          · have HS := Lib.hid (show isShut t = false from shut_no (.inr h41))
            have e41 : (t.r == 41) = false := by simpa using h41
            rw [hk1] at c0
            clear hk1 h40 h41
            go_wp2
            exact ⟨⟨d, j + 1, rfl, rfl, trivial, by omega, by omega, by omega, HSt.out _ (.inl hd1) (by rw [closeR, if_neg (by rw [HO.out]; decide), if_neg (by rw [HS.out]; decide)])⟩, by show n - ((j : Int) + 1).toNat < n - (j : Int).toNat; omega⟩
      · have HO := Lib.hid (show isOpen t = false from open_no (.inl hk1))
        have HS := Lib.hid (show isShut t = false from shut_no (.inl hk1))
        have hd1 : 1 ≤ d := by
          rcases H.out.1 with h | ⟨_, h⟩
          · exact h
          · subst h
            have := HK.out.1
            rw [HT.out] at this
            injection this with this
            rw [this, HK.out.2] at HO
            cases HO.out
        have e1 : (t.kind == 1) = false := by simpa using hk1
        clear hk1
        go_wp2
        exact ⟨⟨d, j + 1, rfl, rfl, trivial, by omega, by omega, by omega, HSt.out _ (.inl hd1) (by rw [closeR, if_neg (by rw [HO.out]; decide), if_neg (by rw [HS.out]; decide)])⟩, by show n - ((j : Int) + 1).toNat < n - (j : Int).toNat; omega⟩
    · have hjn' : j = n := by omega
      subst hjn'
      go_wp2
      go_ret
      have e : closeR 0 (ts.drop k) = none := by
        rw [H.out.2, List.drop_eq_nil_of_le (by rw [HL.out]; exact Nat.le_refl _), closeR]
        rfl
      rw [e]
      exact ⟨rfl, rfl⟩
end Go.Proofs.Ytbhbdhjkicmecaa
