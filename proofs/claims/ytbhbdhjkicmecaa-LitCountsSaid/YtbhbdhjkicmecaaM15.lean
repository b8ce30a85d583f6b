/- The document's tokens in a row that grows. -/
import Derived.Test.YtbhbdhjkicmecaaM02
import Derived.Test.YtbhbdhjkicmecaaM09
import Derived.Test.YtbhbdhjkicmecaaM11
import Derived.Test.YtbhbdhjkicmecaaM14
import Derived.Lib.SliceRun
import Derived.Deep.MidRow
namespace Go.Proofs.Ytbhbdhjkicmecaa
open Go Go.RowKit
set_option linter.unusedVariables false
set_option maxRecDepth 20000

/-- A token as it lies there. -/
structure TV where
  t : TokL
  A : Option Addr
  m : Nat
  c : Nat
def TV.cells (x : TV) : List Value := tokC5 x.t x.A x.m x.c
def cellsT5 (xs : List TV) : List Value := xs.flatMap TV.cells
theorem cellsT5_length (xs : List TV) : (cellsT5 xs).length = xs.length * 5 := by
  induction xs with
  | nil => rfl
  | cons p s ih =>
    show (p.cells ++ cellsT5 s).length = _
    rw [List.length_append, ih, List.length_cons, show p.cells.length = 5 from rfl]
    omega
theorem cellsT5_at : ∀ (xs : List TV) (j : Nat) (x : TV), xs[j]? = some x → ∀ i v, x.cells[i]? = some v → (cellsT5 xs)[j * 5 + i]? = some v
  | [], j, x, h, _, _, _ => by simp at h
  | p :: s, 0, x, h, i, v, hv => by
    simp only [List.getElem?_cons_zero, Option.some.injEq] at h
    subst h
    have hi : i < 5 := (List.getElem?_eq_some_iff.1 hv).1
    show (p.cells ++ cellsT5 s)[0 * 5 + i]? = _
    rw [Nat.zero_mul, Nat.zero_add, List.getElem?_append_left (show i < p.cells.length from hi)]
    exact hv
  | p :: s, j + 1, x, h, i, v, hv => by
    have ih := cellsT5_at s j x (by simpa using h) i v hv
    show (p.cells ++ cellsT5 s)[(j + 1) * 5 + i]? = _
    rw [List.getElem?_append_right (by show 5 ≤ _; omega), show (j + 1) * 5 + i - p.cells.length = j * 5 + i by show _ - 5 = _; omega]
    exact ih
theorem TV.cells_one (x : TV) : ∀ u ∈ x.cells, u.oneCell' = true := by
  intro u hu
  simp only [TV.cells, tokC5, List.mem_cons, List.not_mem_nil, or_false] at hu
  rcases hu with rfl | rfl | rfl | rfl | rfl <;> rfl
theorem info_tok : (Try.prog.info? 44).map (fun i => (i.zero, i.size, i.bytes)) = some (some (.agg #[.int .i64 0, .int .i64 0, .slice none 0 0, .int .i64 0, .int .i64 0]), 5, 56) := by kernel_rfl
/-- Tokens so far: a row that the call owns, and their sets. -/
def ToksG (B : Nat) (w : World) (P : Option Addr) (q pc : Nat) (xs : List TV) : Prop :=
  w.ownsRow B 44 5 (.slice P q pc) q (cellsT5 xs) ∧ ∀ x ∈ xs, RowF (fun b => B ≤ b ∧ (Value.slice P q pc).ownBlock ≠ some b) w x.A x.m x.t.set
section
variable {B q pc : Nat} {w w' : World} {P : Option Addr} {xs : List TV} {x : TV}
theorem ToksG.start (B : Nat) (w : World) : ToksG B w none 0 0 [] := ⟨World.ownsRow_nil _ _ _ _, fun x hx => by cases hx⟩
theorem ToksG.below (h : ToksG B w P q pc xs) (hb : Below w.heap.size w w') : ToksG B w' P q pc xs :=
  ⟨row_keep h.1 fun k hk _ => hb.block k hk, fun x hx => (h.2 x hx).below hb⟩
theorem ToksG.len (h : ToksG B w P q pc xs) : xs.length = q := by have := h.1.1; rw [cellsT5_length] at this; omega
/-- One more. -/
theorem ToksG.push (h : ToksG B w P q pc xs) {d : Nat} (hd : w.heap[d]? = some (.cells x.cells.toArray 44 (0, 0))) (hx : RowF (fun b => B ≤ b ∧ (Value.slice P q pc).ownBlock ≠ some b) w x.A x.m x.t.set) (hq : q ≤ 100000) (hb : B ≤ w.heap.size) :
    ∃ P' pc' w', (Builtin.append_ #[42, 42] 42 #[.slice P q pc, .slice (some ⟨d, 0, none⟩) 1 1]).run Try.prog w = .ok (.slice P' (q + 1) pc') w' ∧ ToksG B w' P' (q + 1) pc' (xs ++ [x]) ∧ Below B w w' := by
  obtain ⟨i0, hi, hz0, hz1, hz2⟩ := info_parts info_tok
  have hcells : ∀ j u, x.cells[j]? = some u → w.cell? ((⟨d, 0, none⟩ : Addr).add j) = some u := by
    intro j u hu
    rw [show (⟨d, 0, none⟩ : Addr).add j = ⟨d, 0 + j, none⟩ by unfold Addr.add; split <;> simp_all, cell_of_row w d (0 + j) _ 44 (0, 0) hd, Nat.zero_add]
    simpa using hu
  obtain ⟨V', w', h1, h2, h3, _, h4⟩ := run_append_own_at (P := Try.prog) w B 42 42 44 i0 _ 5 56 Try.underlying42 hi hz0 hz1 hz2 rfl (by decide) _ q _ h.1 ⟨d, 0, none⟩ 1 1 x.cells rfl hcells x.cells_one (by unfold maxLen; omega) (by omega) hb
  have hb' : Below B w w' := (Below.refl _ _).grown h3 hb (by intro k hk; exact (row_lt h.1 hk).1)
  have key : ∀ b, (B ≤ b ∧ (Value.slice P q pc).ownBlock ≠ some b) → b < w.heap.size → (B ≤ b ∧ V'.ownBlock ≠ some b) ∧ w'.heap[b]? = w.heap[b]? := by
    intro b hF hlt
    refine ⟨⟨hF.1, fun e => ?_⟩, h3.block b hlt fun e => hF.2 e.symm⟩
    rcases h4 with h4 | h4
    · exact hF.2 (h4 ▸ e)
    · rw [h4] at e
      injection e with e
      omega
  have e : cellsT5 xs ++ x.cells = cellsT5 (xs ++ [x]) := by simp [cellsT5]
  rw [e] at h2
  have hN : ∀ y ∈ xs ++ [x], RowF (fun b => B ≤ b ∧ V'.ownBlock ≠ some b) w' y.A y.m y.t.set := fun y hy => by
    rcases List.mem_append.1 hy with hy | hy
    · exact (h.2 y hy).move h3.size key
    · rw [List.mem_singleton] at hy
      subst hy
      exact hx.move h3.size key
  rcases h2.2 with ⟨rfl, h0⟩ | ⟨b, cap, cu, rfl, _⟩
  · omega
  · exact ⟨_, _, w', h1, ⟨h2, hN⟩, hb'⟩
/-- Tokens to be read. -/
theorem ToksG.toks (h : ToksG B w P q pc xs) : ToksAt (fun b => B ≤ b ∧ b < w.heap.size) w P q (xs.map TV.t) ∧ q ≤ pc := by
  have hl := h.len
  have hcap : q ≤ pc := by
    rcases h.1.2 with ⟨e, h0⟩ | ⟨g, cap, cur, e, _, _, hnc, _⟩
    · omega
    · injection e with _ _ e3; omega
  refine ⟨⟨by rw [List.length_map, hl], fun h0 => ?_⟩, hcap⟩
  rcases h.1.2 with ⟨e, h0'⟩ | ⟨g, cap, cur, e, hB, hg, hnc, hcm, hcs, ht⟩
  · omega
  · injection e with e1 _ e3
    subst e1; subst e3
    refine ⟨g, 0, rfl, (Array.getElem?_eq_some_iff.1 hg).1, fun j t htj => ?_⟩
    rw [List.getElem?_map] at htj
    obtain ⟨x, hx, rfl⟩ := Option.map_eq_some_iff.1 htj
    have hj : j < xs.length := (List.getElem?_eq_some_iff.1 hx).1
    refine ⟨x.A, x.m, x.c, fun i v hv => ?_, (h.2 x (List.mem_of_getElem? hx)).1, fun b o hm hA => ?_⟩
    · have hi : i < 5 := (List.getElem?_eq_some_iff.1 hv).1
      have := cellsT5_at xs j x hx i v hv
      rw [cell_of_row w g (0 + j * 5 + i) cur 44 (0, 0) hg, ← this, ← ht, List.getElem?_take_of_lt (by omega), Array.getElem?_toList, Nat.zero_add]
    · obtain ⟨b', o', hA', hlt, _⟩ := (h.2 x (List.mem_of_getElem? hx)).1.2 hm
      rw [hA] at hA'
      injection hA' with hA'
      injection hA' with e1 _
      subst e1
      exact ⟨((h.2 x (List.mem_of_getElem? hx)).2 b o hm hA).1, hlt⟩
end
theorem int_elem9 : Try.prog.elem 39 = 3 := by kernel_rfl
theorem int_size9 (w : World) : (sizeOf 3).run Try.prog w = .ok 1 w := by kernel_rfl
theorem int_slice9 : Try.prog.underlying 39 = some (.slice (Try.prog.elem 39)) := by rw [int_elem9]; exact Try.underlying39
/-- rs[n:], of a slice of numbers at whatever address. -/
theorem cutI_from (A : Option Addr) (n c l : Nat) (hl : l ≤ n) :
    ∃ A', (∀ w : World, (Instr.slice 39 (.slice A n c) (some (.int .i64 (l : Int))) none none).run Try.prog w = .ok (.slice A' (n - l) (c - l)) w) ∧
      (∀ (w : World) (xs : List Int), RowI .i64 w A n xs → n ≤ c → RowI .i64 w A' (n - l) (xs.drop l)) := by
  refine ⟨if c = l then A else A.map (·.add (l * 1)), fun w => ?_, fun w xs h hnc => ?_⟩
  · have hr := run_slice_l (P := Try.prog) (w := w) (t := 39) (a := A) (len := n) (cap := c) (ht := int_slice9) (kl := .i64) (l := (l : Int)) (h0 := by omega) (h1 := by omega)
    rw [hr, int_elem9, int_size9]
    simp [Result.andThen, sliced]
  · refine ⟨by rw [List.length_drop, h.1], fun h0 => ?_⟩
    obtain ⟨b, o, hA, hlt, hc⟩ := h.2 (by omega)
    rw [if_neg (by omega), hA]
    refine ⟨b, o + l, by simp [Addr.add], hlt, fun j hj => ?_⟩
    rw [Nat.add_assoc, hc (l + j) (by omega)]
    simp [List.getD, List.getElem?_drop]
end Go.Proofs.Ytbhbdhjkicmecaa
/- A text's tree. -/
namespace Go.Proofs.Ytbhbdhjkicmecaa
open Go Go.RowKit

/-- A text's tree. -/
def parseT (s : ByteArray) : Option Wood := (pointsL (nums s)).bind treeL
end Go.Proofs.Ytbhbdhjkicmecaa
/- The document's Parse. -/
namespace Go.Proofs.Ytbhbdhjkicmecaa
open Go Go.RowKit
set_option linter.unusedVariables false
set_option maxRecDepth 20000

/-- A room for a node was made first; nothing up to it has turned. -/
def RoomN (w a : World) : Prop := Below w.heap.size w a ∧ w.heap.size < a.heap.size ∧ a.heap[w.heap.size]? = some (.cells #[.int .i64 0, .slice none 0 0, .int .i64 0, .int .i64 0, .slice none 0 0] 31 (0, 0))
section
variable {w a b : World}
theorem RoomN.base (h : RoomN w a) : Below w.heap.size w a := h.1
theorem RoomN.lt (h : RoomN w a) : w.heap.size < a.heap.size := h.2.1
theorem RoomN.is (h : RoomN w a) : a.heap[w.heap.size]? = some (.cells #[.int .i64 0, .slice none 0 0, .int .i64 0, .int .i64 0, .slice none 0 0] 31 (0, 0)) := h.2.2
theorem RoomN.start (w : World) : RoomN w (w.alloc (.cells #[.int .i64 0, .slice none 0 0, .int .i64 0, .int .i64 0, .slice none 0 0] 31)) := ⟨(Below.refl _ _).alloc (Nat.le_refl _) _, by simp, heap_alloc_new w _⟩
theorem RoomN.next (h : RoomN w a) {B : Nat} (hb : Below B a b) (hB : w.heap.size < B) : RoomN w b := ⟨h.1.trans (hb.mono (Nat.le_of_lt hB)), Nat.lt_of_lt_of_le h.2.1 hb.size, (hb.block _ hB).trans h.2.2⟩
theorem RoomN.over (h : RoomN w a) {r : Nat} (hr : w.heap.size < r) (hb : Below r a b) : RoomN w b := h.next hb hr
theorem RoomN.alloc (h : RoomN w a) (o : Obj) : RoomN w (a.alloc o) := h.next ((Below.refl _ _).alloc (Nat.le_refl _) o) h.2.1
theorem RoomN.put (h : RoomN w a) (v0 v1 v2 v3 v4 : Value) : Below w.heap.size w (put5 a w.heap.size v0 v1 v2 v3 v4) := h.1.trans (put5_below a (Nat.le_refl _) _ _ _ _ _)
theorem RoomN.facts (h : RoomN w a) : a.cell? ⟨w.heap.size, 0, none⟩ = some (.int .i64 0) ∧ a.cell? ⟨w.heap.size, 1, none⟩ = some (.slice none 0 0) ∧ a.cell? ⟨w.heap.size, 2, none⟩ = some (.int .i64 0) ∧ a.cell? ⟨w.heap.size, 3, none⟩ = some (.int .i64 0) ∧ a.cell? ⟨w.heap.size, 4, none⟩ = some (.slice none 0 0) ∧ ∀ j, a.frozen? ⟨w.heap.size, j, none⟩ = false := box_facts h.2.2
theorem RoomN.cells (h : RoomN w a) (v0 v1 v2 v3 v4 : Value) : (put5 a w.heap.size v0 v1 v2 v3 v4).cell? ⟨w.heap.size, 0, none⟩ = some v0 ∧ (put5 a w.heap.size v0 v1 v2 v3 v4).cell? ⟨w.heap.size, 1, none⟩ = some v1 ∧ (put5 a w.heap.size v0 v1 v2 v3 v4).cell? ⟨w.heap.size, 2, none⟩ = some v2 ∧ (put5 a w.heap.size v0 v1 v2 v3 v4).cell? ⟨w.heap.size, 3, none⟩ = some v3 ∧ (put5 a w.heap.size v0 v1 v2 v3 v4).cell? ⟨w.heap.size, 4, none⟩ = some v4 ∧ ∀ j, (put5 a w.heap.size v0 v1 v2 v3 v4).frozen? ⟨w.heap.size, j, none⟩ = false := box_facts (put5_heap h.2.2 _ _ _ _ _)
theorem RoomN.beside (h : RoomN w a) {r : Nat} (hr : w.heap.size < r) (v0 v1 v2 v3 v4 : Value) : RoomN w (put5 a r v0 v1 v2 v3 v4) := ⟨h.1.trans (put5_below a (Nat.le_of_lt hr) _ _ _ _ _), by rw [put5_size]; exact h.2.1, (put5_other a (by omega) _ _ _ _ _).trans h.2.2⟩
end
theorem info_sz {ty : TypeId} {z : Option Value} {s n : Nat} (h : (Try.prog.info? ty).map (fun i => (i.zero, i.size, i.bytes)) = some (z, s, n)) : (Try.prog.info? ty).map (·.size) = some s := by
  cases hi : Try.prog.info? ty with
  | none => rw [hi] at h; cases h
  | some i =>
    rw [hi] at h
    simp only [Option.map_some, Option.some.injEq, Prod.mk.injEq] at h ⊢
    exact h.2.1
/-- A node is stored into a block that held one. -/
theorem wpList_store_node {ops : Array Oper} {rest : List Oper} {op : Oper} {a : Act} {w : World} {Q : Exit → Act → World → Prop} (hgd : op.guard = none) (x y : Operand) (ho : op.op = .store 31 x y) (G : Nat) (n : NV) {v0 v1 v2 v3 v4 : Value} (hx : a.eval x = .pointer (some ⟨G, 0, none⟩)) (hy : a.eval y = n.val)
    (hG : w.heap[G]? = some (.cells #[v0, v1, v2, v3, v4] 31 (0, 0))) (h : ∀ w4, w4.heap[G]? = some (.cells #[.int .i64 n.op, .slice n.A n.ns n.cs, .int .i64 n.mn, .int .i64 n.mx, .slice n.D n.nk n.ck] 31 (0, 0)) → (∀ b, b ≠ G → w4.heap[b]? = w.heap[b]?) → w4.heap.size = w.heap.size → Below G w w4 → wpList Try.prog ops Q rest (a.put op.dst undef) w4) : wpList Try.prog ops Q (op :: rest) a w := by
  obtain ⟨c0, c1, c2, c3, c4, cf⟩ := box_facts hG
  refine wpList_store_mid hgd 31 x y ho G 0 #[.int .i64 n.op, .slice n.A n.ns n.cs, .int .i64 n.mn, .int .i64 n.mx, .slice n.D n.nk n.ck] hx hy (fun j hj => ?_) (info_sz info_node) (by simp [Value.oneCell']) ?_
  · have hj : j < 5 := hj
    refine ⟨?_, cf _⟩
    rcases (show j = 0 ∨ j = 1 ∨ j = 2 ∨ j = 3 ∨ j = 4 by omega) with rfl | rfl | rfl | rfl | rfl
    · rw [show 0 + 0 = 0 from rfl, c0]; rfl
    · rw [show 0 + 1 = 1 from rfl, c1]; rfl
    · rw [show 0 + 2 = 2 from rfl, c2]; rfl
    · rw [show 0 + 3 = 3 from rfl, c3]; rfl
    · rw [show 0 + 4 = 4 from rfl, c4]; rfl
  · exact h (put5 w G _ _ _ _ _) (put5_heap hG _ _ _ _ _) (fun b hb => put5_other w hb _ _ _ _ _) (put5_size _ _ _ _ _ _ _) (put5_below w (Nat.le_refl _) _ _ _ _ _)
/-- What the document's Parse answers. -/
def RParseV (s : ByteArray) (w : World) (e : Ending) (w' : World) : Prop :=
  Below w.heap.size w w' ∧ ((200 < s.size ∧ e = .returned (.tuple #[.agg #[.int .i64 0, .slice none 0 0, .int .i64 0, .int .i64 0, .slice none 0 0], .int .i64 16])) ∨ (s.size ≤ 200 ∧ parseT s = none ∧ e = .returned (.tuple #[.agg #[.int .i64 0, .slice none 0 0, .int .i64 0, .int .i64 0, .slice none 0 0], .int .i64 15])) ∨
    ∃ (x : NV) (n : Wood), s.size ≤ 200 ∧ parseT s = some n ∧ e = .returned (.tuple #[x.val, .int .i64 0]) ∧ NodesIn (fun _ => True) w' [x] n)
set_option maxHeartbeats 2000000 in
theorem rparse_big (s : ByteArray) (w : World) (hs : 200 < s.size) :
    Calls Try.prog 7 #[.string s] w (RParseV s w) := by
  have HR := Lib.hid (RoomN.start w)
  have h2 : (200 : Int) < (s.size : Int) := by omega
  go_enter Try.func7, Try.ntmps7
  go_wp2
  (try simp only [Exit.inBlock, Exit.then])
  refine bodyPost_ret (v := .tuple #[.agg #[.int .i64 0, .slice none 0 0, .int .i64 0, .int .i64 0, .slice none 0 0], .int .i64 16]) ?_ rfl ?_
  · rw [results_cell_tmp rfl]; go_simp
  · exact ⟨HR.out.base, .inl ⟨hs, rfl⟩⟩
set_option maxHeartbeats 4000000 in
theorem rparse_octets (s : ByteArray) (w : World) (hs : s.size ≤ 200) (hp : pointsL (nums s) = none) :
    Calls Try.prog 7 #[.string s] w (RParseV s w) := by
  have HR1 := Lib.hid (RoomN.start w)
  have h2 : ¬ (200 : Int) < (s.size : Int) := by omega
  have HD := Lib.hid fun w => show Calls Try.prog 10 #[.string s] w fun e w' => e = .returned (.tuple #[.slice none 0 0, .bool false]) ∧ Below w.heap.size w w' from (rpoints_any s w hs).mono fun e w' hv => by
    obtain ⟨hb, ⟨he, _⟩ | ⟨P, q, pc, xs, he, hx, ho⟩⟩ := hv
    · exact ⟨he, hb⟩
    · rw [hp] at hx; cases hx
  have HP := Lib.hid hp
  clear hp
  go_enter Try.func7, Try.ntmps7
  go_wp2_with (go_at_call 10; (with_reducible refine (HD.out _).mono ?_); rintro e w2 ⟨rfl, hb⟩; have HR2 := Lib.hid (HR1.out.next hb HR1.out.lt); clear hb)
  go_loopw [] (fun wr => wr = w2) (fun _ => 0)
  case atStart => rfl
  case round =>
    have hrel' := hrel
    subst hrel'
    have HR3 := Lib.hid (HR2.out.alloc (.cells #[.int .i64 0, .slice none 0 0, .int .i64 0, .int .i64 0, .slice none 0 0] 31))
    obtain ⟨q0, q1, q2, q3, q4, qf⟩ := HR3.out.facts
    go_wp2
    obtain ⟨z0, z1, z2, z3, z4, _⟩ := HR3.out.cells (.int .i64 0) (.slice none 0 0) (.int .i64 0) (.int .i64 0) (.slice none 0 0)
    simp only [put5] at z0 z1 z2 z3 z4
    (try simp only [Exit.inBlock, Exit.then])
    refine bodyPost_ret (v := .tuple #[.agg #[.int .i64 0, .slice none 0 0, .int .i64 0, .int .i64 0, .slice none 0 0], .int .i64 15]) ?_ rfl ?_
    · rw [results_cell_tmp rfl]; go_simp
    · exact ⟨HR3.out.put _ _ _ _ _, .inr (.inl ⟨hs, by unfold parseT; rw [HP.out]; rfl, rfl⟩)⟩
/-- A block besides the one that a node is put into. -/
theorem put_beside {w : World} {g r : Nat} {v0 v1 v2 v3 v4 : Value} (h : w.heap[g]? = some (.cells #[v0, v1, v2, v3, v4] 31 (0, 0))) (hne : g ≠ r) (a b c d e : Value) : (put5 w r a b c d e).heap[g]? = some (.cells #[v0, v1, v2, v3, v4] 31 (0, 0)) := (put5_other w hne _ _ _ _ _).trans h
/-- A token behind the others. -/
theorem tok_push {B q pc : Nat} {wr w1 : World} {P A : Option Addr} {m c : Nat} {xs : List TV} {t : TokL} (h : ToksG B wr P q pc xs) (hb : Below wr.heap.size wr w1) (ho : w1.ownsRow wr.heap.size 58 2 (.slice A m c) m (cellsG t.set)) (hq : q ≤ 100000) (hB : B ≤ wr.heap.size) :
    ∃ P' pc' w', (Builtin.append_ #[42, 42] 42 #[.slice P q pc, .slice (some ⟨w1.heap.size + 1, 0, none⟩) 1 1]).run Try.prog ((w1.alloc (.cells #[.int .i64 t.kind, .int .i64 t.r, .slice A m c, .int .i64 t.mn, .int .i64 t.mx] 44)).alloc (.cells #[.int .i64 t.kind, .int .i64 t.r, .slice A m c, .int .i64 t.mn, .int .i64 t.mx] 44)) = .ok (.slice P' (q + 1) pc') w' ∧
      ToksG B w' P' (q + 1) pc' (xs ++ [⟨t, A, m, c⟩]) ∧ Below B wr w' := by
  obtain ⟨X, hX⟩ : ∃ X, X = (w1.alloc (.cells #[.int .i64 t.kind, .int .i64 t.r, .slice A m c, .int .i64 t.mn, .int .i64 t.mx] 44)).alloc (.cells #[.int .i64 t.kind, .int .i64 t.r, .slice A m c, .int .i64 t.mn, .int .i64 t.mx] 44) := ⟨_, rfl⟩
  have hb1 : Below w1.heap.size w1 X := by rw [hX]; exact ((Below.refl _ _).alloc (Nat.le_refl _) _).alloc (by simp) _
  have hd : X.heap[w1.heap.size + 1]? = some (.cells #[.int .i64 t.kind, .int .i64 t.r, .slice A m c, .int .i64 t.mn, .int .i64 t.mx] 44 (0, 0)) := by
    rw [hX]
    exact hp_new (by simp)
  rw [← hX]
  have hrow : RowF (fun b => B ≤ b ∧ (Value.slice P q pc).ownBlock ≠ some b) w1 A m t.set := (rowF_own ho).move (Nat.le_refl _) fun b hF hlt => ⟨⟨by have hF : wr.heap.size ≤ b := hF; omega, fun e => by have := (row_lt h.1 e).2; have hF : wr.heap.size ≤ b := hF; omega⟩, rfl⟩
  obtain ⟨P', pc', w', h1, h2, h3⟩ := ((h.below hb).below hb1).push (x := ⟨t, A, m, c⟩) hd (hrow.below hb1) hq (Nat.le_trans hB (Nat.le_trans hb.size hb1.size))
  exact ⟨P', pc', w', h1, h2, ((hb.mono hB).trans (hb1.mono (Nat.le_trans hB hb.size))).trans h3⟩
set_option maxHeartbeats 8000000 in
theorem rparse_points (s : ByteArray) (w : World) (hs : s.size ≤ 200) {l : List Int} (hp : pointsL (nums s) = some l) :
    Calls Try.prog 7 #[.string s] w (RParseV s w) := by
  have HR1 := Lib.hid (RoomN.start w)
  have h2 : ¬ (200 : Int) < (s.size : Int) := by omega
  have hll : l.length ≤ 200 := by have := pointsL_len _ _ _ (Nat.le_refl _) hp; rw [nums_length] at this; omega
  have HD := Lib.hid fun w => show Calls Try.prog 10 #[.string s] w fun e w' => ∃ P q pc, e = .returned (.tuple #[.slice P q pc, .bool true]) ∧ w'.ownsRow w.heap.size 3 1 (.slice P q pc) q (l.map (.int .i64)) ∧ Below w.heap.size w w' from (rpoints_any s w hs).mono fun e w' hv => by
    obtain ⟨hb, ⟨_, hn⟩ | ⟨P, q, pc, xs, he, hx, ho⟩⟩ := hv
    · rw [hp] at hn; cases hn
    · rw [hp] at hx; injection hx with hx; subst hx
      exact ⟨P, q, pc, he, ho, hb⟩
  have HP := Lib.hid (And.intro hp (pointsL_is hp))
  have HT : Hid (∀ r, toksL l.length l = r → parseT s = r.bind fun ts => runT 0 ts [] .nil .nil false) := Lib.hid fun r hr => by
    unfold parseT
    rw [hp]
    show treeL l = _
    unfold treeL
    rw [hr]
  clear hp
  go_enter Try.func7, Try.ntmps7
  go_wp2_with (go_at_call 10; (with_reducible refine (HD.out _).mono ?_); rintro e w2 ⟨P0, q0, pc0, rfl, ho, hb⟩; have HR2 := Lib.hid (HR1.out.next hb HR1.out.lt); have HO := Lib.hid (ownI_row ho); clear ho hb)
  have hq0 : q0 ≤ 200 := by have := HO.out.1.1; omega
  go_loopw [4, 6] (fun vr vl wr => ∃ (n c q pc : Nat) (A P : Option Addr) (lr : List Int) (xs : List TV), vr = .slice A n c ∧ vl = .slice P q pc ∧ q + n ≤ 200 ∧
    Hid (Below w2.heap.size w2 wr ∧ RowI .i64 w2 A n lr ∧ n ≤ c ∧ (∀ x ∈ lr, 0 ≤ x ∧ x ≤ 1114111) ∧ ToksG w2.heap.size wr P q pc xs ∧ (∀ x ∈ xs, TokOk x.t) ∧ toksL l.length l = (toksL lr.length lr).map (fun ts => xs.map TV.t ++ ts))) (fun vr _ _ => match vr with | .slice _ n _ => n | _ => 0)
  case atStart => exact ⟨q0, pc0, 0, 0, P0, none, l, [], rfl, rfl, by omega, Lib.hid ⟨Below.refl _ _, HO.out.1, HO.out.2.1, HP.out.2, ToksG.start _ _, (fun x hx => by cases hx), by cases toksL l.length l <;> rfl⟩⟩
  case round =>
    obtain ⟨n, c, q, pc, A, P, lr, xs, rfl, rfl, hqn, H⟩ := hrel
    have HRr := Lib.hid (HR2.out.next H.out.1 HR2.out.lt)
    rcases Nat.eq_zero_or_pos n with h0 | h0
    · subst h0
      have hlr : lr = [] := List.eq_nil_of_length_eq_zero H.out.2.1.1
      have hts : toksL l.length l = some (xs.map TV.t) := by
        rw [H.out.2.2.2.2.2.2, hlr]
        show some (xs.map TV.t ++ []) = _
        rw [List.append_nil]
      have hpt := HT.out _ hts
      have HR3 := Lib.hid (HRr.out.alloc (.cells #[.int .i64 0, .slice none 0 0, .int .i64 0, .int .i64 0, .slice none 0 0] 31))
      have htk := H.out.2.2.2.2.1.toks
      have hTr := rtree_any 200 (xs.map TV.t) 0 P q pc (wr.alloc (.cells #[.int .i64 0, .slice none 0 0, .int .i64 0, .int .i64 0, .slice none 0 0] 31)) (fun b => w2.heap.size ≤ b ∧ b < wr.heap.size) (by rw [List.length_map, H.out.2.2.2.2.1.len]; omega) (fun b hb => by have hb := hb.2; simp; omega) (by omega) (htk.1.below ((Below.refl _ _).alloc (Nat.le_refl _) _)) (by omega) htk.2 (fun t ht => by obtain ⟨x, hx, rfl⟩ := List.mem_map.1 ht; exact H.out.2.2.2.2.2.1 x hx)
      have e0 : treeT 0 (xs.map TV.t) = parseT s := by rw [hpt]; exact if_neg (by omega)
      rw [e0, show ((0 : Nat) : Int) = 0 from rfl] at hTr
      clear hts htk e0 hpt hlr
      rcases hT : parseT s with _ | T
      · rw [hT] at hTr
        have HTr := Lib.hid hTr
        have HN := Lib.hid hT
        clear hTr hT
        go_wp2_with (first
          | (go_at_call 12; (with_reducible refine HTr.out.mono ?_); rintro e w3 ⟨rfl, hb⟩; have HBx := Lib.hid (show w3.heap[wr.heap.size]? = some (.cells #[.int .i64 0, .slice none 0 0, .int .i64 0, .int .i64 0, .slice none 0 0] 31 (0, 0)) from (hb.block _ (by simp)).trans (heap_alloc_new wr _)); have HR4 := Lib.hid (HR3.out.next hb HR3.out.lt); clear hb)
          | (refine wpList_store_node rfl (.tmp 9) (.tmp 45) rfl wr.heap.size ⟨0, none, 0, 0, 0, 0, none, 0, 0⟩ rfl rfl HBx.out ?_; intro w4 hb4 ho4 hs4 hw4; have HR5 := Lib.hid (HR4.out.over HRr.out.lt hw4); have HO4 := Lib.hid (And.intro ho4 hs4); obtain ⟨y0, y1, y2, y3, y4, yf⟩ := box_facts hb4; obtain ⟨r0, r1, r2, r3, r4, rf⟩ := HR5.out.facts; clear hb4 ho4 hs4 hw4))
        obtain ⟨z0, z1, z2, z3, z4, _⟩ := HR5.out.cells (.int .i64 0) (.slice none 0 0) (.int .i64 0) (.int .i64 0) (.slice none 0 0)
        simp only [put5] at z0 z1 z2 z3 z4
        (try simp only [Exit.inBlock, Exit.then])
        refine bodyPost_ret (v := .tuple #[.agg #[.int .i64 0, .slice none 0 0, .int .i64 0, .int .i64 0, .slice none 0 0], .int .i64 15]) ?_ rfl ?_
        · rw [results_cell_tmp rfl]; go_simp
        · exact ⟨HR5.out.put _ _ _ _ _, .inr (.inl ⟨hs, HN.out, rfl⟩)⟩
      · rw [hT] at hTr
        have HTr := Lib.hid hTr
        have HN := Lib.hid hT
        clear hTr hT
        go_wp2_with (first
          | (go_at_call 12; (with_reducible refine HTr.out.mono ?_); rintro e w3 ⟨⟨x, rfl, hN⟩, hb⟩; have HBx := Lib.hid (show w3.heap[wr.heap.size]? = some (.cells #[.int .i64 0, .slice none 0 0, .int .i64 0, .int .i64 0, .slice none 0 0] 31 (0, 0)) from (hb.block _ (by simp)).trans (heap_alloc_new wr _)); have HR4 := Lib.hid (HR3.out.next hb HR3.out.lt); clear hb; have HNx := Lib.hid hN; clear hN; simp only [NV.val])
          | (refine wpList_store_node rfl (.tmp 9) (.tmp 45) rfl wr.heap.size x rfl rfl HBx.out ?_; intro w4 hb4 ho4 hs4 hw4; have HR5 := Lib.hid (HR4.out.over HRr.out.lt hw4); have HO4 := Lib.hid (And.intro ho4 hs4); obtain ⟨y0, y1, y2, y3, y4, yf⟩ := box_facts hb4; obtain ⟨r0, r1, r2, r3, r4, rf⟩ := HR5.out.facts; clear hb4 ho4 hs4 hw4))
        obtain ⟨z0, z1, z2, z3, z4, _⟩ := HR5.out.cells (.int .i64 x.op) (.slice x.A x.ns x.cs) (.int .i64 x.mn) (.int .i64 x.mx) (.slice x.D x.nk x.ck)
        simp only [put5] at z0 z1 z2 z3 z4
        (try simp only [Exit.inBlock, Exit.then])
        refine bodyPost_ret (v := .tuple #[x.val, .int .i64 0]) ?_ rfl ?_
        · rw [results_cell_tmp rfl]; go_simp
          rfl
        · refine ⟨HR5.out.put _ _ _ _ _, .inr (.inr ⟨x, T, hs, HN.out, rfl, HNx.out.move (by show w3.heap.size ≤ (put5 w4 _ _ _ _ _ _).heap.size; rw [put5_size]; exact Nat.le_of_eq HO4.out.2.symm) fun b hF hlt => ⟨trivial, ?_⟩⟩)⟩
          have h1 := HRr.out.lt
          have hsz : (wr.alloc (.cells #[.int .i64 0, .slice none 0 0, .int .i64 0, .int .i64 0, .slice none 0 0] 31)).heap.size = wr.heap.size + 1 := by simp
          rcases hF with hF2 | hF
          · have hF := hF2
            have h3 := HR2.out.lt
            have hF := hF.1
            exact (put5_other w4 (by omega) _ _ _ _ _).trans (HO4.out.1 b (by have := hF2.2; omega))
          · exact (put5_other w4 (by omega) _ _ _ _ _).trans (HO4.out.1 b (by omega))
    · have hl0 : lr ≠ [] := fun e => by have := H.out.2.1.1; rw [e] at this; simp at this; omega
      have HTk := Lib.hid (rtok_any lr hl0 A n c wr (H.out.2.1.below H.out.1 (Nat.le_refl _)) (by omega) H.out.2.2.1 H.out.2.2.2.1)
      have n0 : (0 : Int) < (n : Int) := by omega
      rcases hT : tokL lr with _ | ⟨t, rest⟩
      · have HX := Lib.hid hT
        have HN := Lib.hid (show parseT s = none by
          refine (HT.out none ?_)
          rw [H.out.2.2.2.2.2.2]
          rcases lr with _ | ⟨r, lr⟩
          · exact absurd rfl hl0
          · rw [toksL_none hT]; rfl)
        clear hT hl0
        go_wp2_with (go_at_call 11; (with_reducible refine HTk.out.mono ?_); rintro e w3 ⟨hv, hb⟩; unfold tokR at hv; rw [HX.out] at hv; dsimp only at hv; subst hv; have HR3 := Lib.hid (HRr.out.next hb HRr.out.lt); have y := (fun o => box_facts (NodeAlloc HR3.out.is o)); have y0 := fun o => (y o).1; have y1 := fun o => (y o).2.1; have y2 := fun o => (y o).2.2.1; have y3 := fun o => (y o).2.2.2.1; have y4 := fun o => (y o).2.2.2.2.1; have yf := fun o => (y o).2.2.2.2.2; clear y hb)
        have HR4 := Lib.hid (HR3.out.alloc (.cells #[.int .i64 0, .int .i64 0, .slice none 0 0, .int .i64 0, .int .i64 0] 44))
        obtain ⟨z0, z1, z2, z3, z4, _⟩ := HR4.out.cells (.int .i64 0) (.slice none 0 0) (.int .i64 0) (.int .i64 0) (.slice none 0 0)
        simp only [put5] at z0 z1 z2 z3 z4
        (try simp only [Exit.inBlock, Exit.then])
        refine bodyPost_ret (v := .tuple #[.agg #[.int .i64 0, .slice none 0 0, .int .i64 0, .int .i64 0, .slice none 0 0], .int .i64 15]) ?_ rfl ?_
        · rw [results_cell_tmp rfl]; go_simp
        · exact ⟨HR4.out.put _ _ _ _ _, .inr (.inl ⟨hs, HN.out, rfl⟩)⟩
      · have HX := Lib.hid hT
        have hto := tokL_ok hT
        have htl : toksL lr.length lr = (toksL rest.length rest).map fun ts => t :: ts := by
          rcases lr with _ | ⟨r, lr⟩
          · exact absurd rfl hl0
          · exact toksL_some hT
        have HTL := Lib.hid (And.intro hto htl)
        clear hT hl0 hto htl
        go_wp2_with (first
          | (go_at_call 11; (with_reducible refine HTk.out.mono ?_); rintro e w3 ⟨hv, hb⟩; unfold tokR at hv; rw [HX.out] at hv; dsimp only at hv; obtain ⟨A', m, c', k, rfl, hk1, hk2, hk3, ho⟩ := hv; unfold tokV; have hkn : k ≤ n := (by have := H.out.2.1.1; omega); have HK := Lib.hid (And.intro hk1 (And.intro hkn hk3)); have k0 : ¬ (k : Int) = 0 := (by omega); have k1 : ((k : Int) == 0) = false := (by simpa using k0); obtain ⟨A2, hcut, hrc⟩ := cutI_from A n c k hkn; have HRC := Lib.hid hrc; have HPu := Lib.hid (tok_push H.out.2.2.2.2.1 hb ho (by omega) H.out.1.size); obtain ⟨P', pc', w', HA⟩ : ∃ P' pc' w', Hid ((Builtin.append_ #[42, 42] 42 #[.slice P q pc, .slice (some ⟨w3.heap.size + 1, 0, none⟩) 1 1]).run Try.prog ((w3.alloc (.cells #[.int .i64 t.kind, .int .i64 t.r, .slice A' m c', .int .i64 t.mn, .int .i64 t.mx] 44)).alloc (.cells #[.int .i64 t.kind, .int .i64 t.r, .slice A' m c', .int .i64 t.mn, .int .i64 t.mx] 44)) = .ok (.slice P' (q + 1) pc') w' ∧ ToksG w2.heap.size w' P' (q + 1) pc' (xs ++ [⟨t, A', m, c'⟩]) ∧ Below w2.heap.size wr w') := (by obtain ⟨P', pc', w', h⟩ := HPu.out; exact ⟨P', pc', w', Lib.hid h⟩); clear hb ho hk1 hkn hk2 hk3 hrc HPu)
          | (at_builtin; refine wpList_append_run rfl _ _ 42 rfl rfl _ _ _ _ rfl rfl HA.out.1 ?_))
        have hkk := HK.out
        refine ⟨⟨n - k, c - k, q + 1, pc', A2, P', rest, xs ++ [⟨t, A', m, c'⟩], rfl, rfl, by omega, Lib.hid ⟨H.out.1.trans HA.out.2.2, ?_, by have := H.out.2.2.1; omega, fun x hx => ?_, HA.out.2.1, fun x hx => ?_, ?_⟩⟩, by show n - k < n; omega⟩
        · rw [hkk.2.2]; exact HRC.out w2 lr H.out.2.1 H.out.2.2.1
        · rw [hkk.2.2] at hx; exact H.out.2.2.2.1 x (List.mem_of_mem_drop hx)
        · rcases List.mem_append.1 hx with hx | hx
          · exact H.out.2.2.2.2.2.1 x hx
          · rw [List.mem_singleton] at hx; subst hx; exact HTL.out.1
        · rw [H.out.2.2.2.2.2.2, HTL.out.2]
          cases toksL rest.length rest with
          | none => rfl
          | some r => simp
/-- A text's tree, or why there is none: the document's. -/
theorem rparse_any (s : ByteArray) (w : World) : Calls Try.prog 7 #[.string s] w (RParseV s w) := by
  by_cases hs : 200 < s.size
  · exact rparse_big s w hs
  · rcases hp : pointsL (nums s) with _ | l
    · exact rparse_octets s w (by omega) hp
    · exact rparse_points s w (by omega) hp
end Go.Proofs.Ytbhbdhjkicmecaa
