/- Programs while they are written: instructions in a row that a writer owns. -/
import Derived.Test.YtjpabeeokgfloaaM08
import Derived.Test.YtjpabeeokgfloaaR01
import Derived.BigQuiet
import Derived.Deep.RegionHeldLaw
import Derived.Deep.RegionLaw
import Derived.Lib.SliceRun
import Derived.Lib.MinMax
import Derived.OwnWalk
namespace Go.Proofs.Ytjpabeeokgfloaa
open Go Go.RowKit
set_option linter.unusedVariables false
set_option maxRecDepth 20000

/-- An instruction. -/
structure InstL where
  op : Int
  set : List (Int × Int)
  x : Int
  y : Int
/-- An instruction as it lies there. -/
structure IV where
  i : InstL
  A : Option Addr
  n : Nat
  c : Nat
def IV.cells (v : IV) : List Value := [.int .i64 v.i.op, .slice v.A v.n v.c, .int .i64 v.i.x, .int .i64 v.i.y]
def cellsI (xs : List IV) : List Value := xs.flatMap IV.cells
theorem cellsI_length (xs : List IV) : (cellsI xs).length = xs.length * 4 := by
  induction xs with
  | nil => rfl
  | cons p s ih =>
    show (p.cells ++ cellsI s).length = _
    rw [List.length_append, ih, List.length_cons, show p.cells.length = 4 from rfl]
    omega
theorem cellsI_append (a b : List IV) : cellsI (a ++ b) = cellsI a ++ cellsI b := by simp [cellsI]
theorem cellsI_at : ∀ (xs : List IV) (j : Nat) (x : IV), xs[j]? = some x → ∀ i v, x.cells[i]? = some v → (cellsI xs)[j * 4 + i]? = some v
  | [], j, x, h, _, _, _ => by simp at h
  | p :: s, 0, x, h, i, v, hv => by
    simp only [List.getElem?_cons_zero, Option.some.injEq] at h
    subst h
    have hi : i < 4 := (List.getElem?_eq_some_iff.1 hv).1
    show (p.cells ++ cellsI s)[0 * 4 + i]? = _
    rw [Nat.zero_mul, Nat.zero_add, List.getElem?_append_left (show i < p.cells.length from hi)]
    exact hv
  | p :: s, j + 1, x, h, i, v, hv => by
    have ih := cellsI_at s j x (by simpa using h) i v hv
    show (p.cells ++ cellsI s)[(j + 1) * 4 + i]? = _
    rw [List.getElem?_append_right (by show 4 ≤ _; omega), show (j + 1) * 4 + i - p.cells.length = j * 4 + i by show _ - 4 = _; omega]
    exact ih
theorem IV.cells_one (x : IV) : ∀ u ∈ x.cells, u.oneCell' = true := by
  intro u hu
  simp only [IV.cells, List.mem_cons, List.not_mem_nil, or_false] at hu
  rcases hu with rfl | rfl | rfl | rfl <;> rfl
theorem info_inst : (Try.prog.info? 37).map (fun i => (i.zero, i.size, i.bytes)) = some (some (.agg #[.int .i64 0, .slice none 0 0, .int .i64 0, .int .i64 0]), 4, 48) := by kernel_rfl
/-- Where a set may lie: made since B, neither the writer nor its row. -/
def FW (B g : Nat) (V : Value) (b : Nat) : Prop := B ≤ b ∧ b ≠ g ∧ V.ownBlock ≠ some b
/-- The writer at block g holds these instructions; row and writer were made since B. -/
structure WrS (B g : Nat) (w : World) (P : Option Addr) (q pc : Nat) (xs : List IV) : Prop where
  hg : w.heap[g]? = some (.cells #[.slice P q pc] 49 (0, 0))
  hB : B ≤ g
  row : w.ownsRow B 37 4 (.slice P q pc) q (cellsI xs)
  ne : (Value.slice P q pc).ownBlock ≠ some g
  sets : ∀ x ∈ xs, RowF (FW B g (.slice P q pc)) w x.A x.n x.i.set
/-- All but the writer and its row stays. -/
def Wk (B g : Nat) (V : Value) (w w' : World) : Prop := Below B w w' ∧ w.heap.size ≤ w'.heap.size ∧ ∀ b, b < w.heap.size → b ≠ g → V.ownBlock ≠ some b → w'.heap[b]? = w.heap[b]?
/-- Where a row that grew lies. -/
def Vk (w : World) (V V' : Value) : Prop := ∀ b, b < w.heap.size → V.ownBlock ≠ some b → V'.ownBlock ≠ some b
section
variable {B g q pc q' pc' : Nat} {w w' w'' : World} {P P' : Option Addr} {xs : List IV} {V V' V'' : Value}
theorem WrS.lt (h : WrS B g w P q pc xs) : g < w.heap.size := (Array.getElem?_eq_some_iff.1 h.hg).1
theorem WrS.len (h : WrS B g w P q pc xs) : xs.length = q := by have := h.row.1; rw [cellsI_length] at this; omega
theorem Wk.refl (B g : Nat) (V : Value) (w : World) : Wk B g V w w := ⟨Below.refl _ _, Nat.le_refl _, fun _ _ _ _ => rfl⟩
theorem Vk.refl (w : World) (V : Value) : Vk w V V := fun _ _ h => h
theorem Wk.trans (h : Wk B g V w w') (hv : Vk w V V') (k : Wk B g V' w' w'') : Wk B g V w w'' :=
  ⟨h.1.trans k.1, Nat.le_trans h.2.1 k.2.1, fun b hb h1 h2 => (k.2.2 b (Nat.lt_of_lt_of_le hb h.2.1) h1 (hv b hb h2)).trans (h.2.2 b hb h1 h2)⟩
theorem Vk.trans (hs : w.heap.size ≤ w'.heap.size) (h : Vk w V V') (k : Vk w' V' V'') : Vk w V V'' := fun b hb hn => k b (Nat.lt_of_lt_of_le hb hs) (h b hb hn)
theorem Wk.of_below (hB : B ≤ w.heap.size) (h : Below w.heap.size w w') : Wk B g V w w' := ⟨h.mono hB, h.size, fun b hb _ _ => h.block b hb⟩
/-- What is made beside leaves the writer as it is. -/
theorem WrS.below (h : WrS B g w P q pc xs) (hb : Below w.heap.size w w') : WrS B g w' P q pc xs :=
  ⟨(hb.block g h.lt).trans h.hg, h.hB, row_keep h.row fun k hk _ => hb.block k hk, h.ne, fun x hx => (h.sets x hx).below hb⟩
end
theorem instL_cells (x : IV) : x.cells.toArray = #[.int .i64 x.i.op, .slice x.A x.n x.c, .int .i64 x.i.x, .int .i64 x.i.y] := rfl
/-- append of one instruction, and the store of the row. -/
theorem WrS.push {B g q pc : Nat} {w : World} {P : Option Addr} {xs : List IV} {x : IV} (h : WrS B g w P q pc xs) {d : Nat} (hd : w.heap[d]? = some (.cells x.cells.toArray 37 (0, 0))) (hx : RowF (FW B g (.slice P q pc)) w x.A x.n x.i.set) (hq : q ≤ 100000) :
    ∃ P' pc' w', (Builtin.append_ #[22, 22] 22 #[.slice P q pc, .slice (some ⟨d, 0, none⟩) 1 1]).run Try.prog w = .ok (.slice P' (q + 1) pc') w' ∧
      w'.heap[g]? = some (.cells #[.slice P q pc] 49 (0, 0)) ∧ g < w'.heap.size ∧ w'.cell? ⟨g, 0, none⟩ = some (.slice P q pc) ∧ w'.frozen? ⟨g, 0, none⟩ = false ∧
      WrS B g (w'.setCell ⟨g, 0, none⟩ (.slice P' (q + 1) pc')) P' (q + 1) pc' (xs ++ [x]) ∧ Wk B g (.slice P q pc) w (w'.setCell ⟨g, 0, none⟩ (.slice P' (q + 1) pc')) ∧ Vk w (.slice P q pc) (.slice P' (q + 1) pc') ∧ Below B w w' := by
  obtain ⟨i0, hi, hz0, hz1, hz2⟩ := info_parts info_inst
  have hgl := h.lt
  have hcells : ∀ j u, x.cells[j]? = some u → w.cell? ((⟨d, 0, none⟩ : Addr).add j) = some u := by
    intro j u hu
    rw [show (⟨d, 0, none⟩ : Addr).add j = ⟨d, 0 + j, none⟩ by unfold Addr.add; split <;> simp_all, cell_of_row w d (0 + j) _ 37 (0, 0) hd, Nat.zero_add]
    simpa using hu
  have hBw : B ≤ w.heap.size := by have := h.hB; omega
  obtain ⟨V', w', h1, h2, h3, _, h4⟩ := run_append_own_at (P := Try.prog) w B 22 22 37 i0 _ 4 48 Try.underlying22 hi hz0 hz1 hz2 rfl (by decide) _ q _ h.row ⟨d, 0, none⟩ 1 1 x.cells rfl hcells x.cells_one (by unfold maxLen; omega) (by omega) hBw
  have hb' : Below B w w' := (Below.refl _ _).grown h3 hBw (by intro k hk; exact (row_lt h.row hk).1)
  have key : Vk w (.slice P q pc) V' := fun b hlt hne e => by
    rcases h4 with h4 | h4
    · exact hne (h4 ▸ e)
    · rw [h4] at e; injection e with e; omega
  have kp : ∀ b, b < w.heap.size → (Value.slice P q pc).ownBlock ≠ some b → w'.heap[b]? = w.heap[b]? := fun b hlt hne => h3.block b hlt fun e => hne e.symm
  have e : cellsI xs ++ x.cells = cellsI (xs ++ [x]) := by rw [cellsI_append]; simp [cellsI]
  rw [e] at h2
  obtain ⟨P', pc', rfl⟩ : ∃ P' pc', V' = .slice P' (q + 1) pc' := by
    rcases h2.2 with ⟨rfl, h0⟩ | ⟨b, cap, cu, rfl, _⟩
    · omega
    · exact ⟨_, _, rfl⟩
  have hg' : w'.heap[g]? = some (.cells #[.slice P q pc] 49 (0, 0)) := (kp g hgl h.ne).trans h.hg
  have hgl' : g < w'.heap.size := (Array.getElem?_eq_some_iff.1 hg').1
  have hset : (w'.setCell ⟨g, 0, none⟩ (.slice P' (q + 1) pc')).heap[g]? = some (.cells #[.slice P' (q + 1) pc'] 49 (0, 0)) := heap_setCell_same _ g 0 _ _ _ hg'
  have hoth : ∀ b, b ≠ g → (w'.setCell ⟨g, 0, none⟩ (.slice P' (q + 1) pc')).heap[b]? = w'.heap[b]? := fun b hb => Below.heap_setCell _ _ _ _ hb
  have hne' : (Value.slice P' (q + 1) pc').ownBlock ≠ some g := key g hgl h.ne
  have mv : ∀ b, FW B g (.slice P q pc) b → b < w.heap.size → FW B g (.slice P' (q + 1) pc') b ∧ (w'.setCell ⟨g, 0, none⟩ (.slice P' (q + 1) pc')).heap[b]? = w.heap[b]? := fun b hF hlt => ⟨⟨hF.1, hF.2.1, key b hlt hF.2.2⟩, (hoth b hF.2.1).trans (kp b hlt hF.2.2)⟩
  have hsz : w.heap.size ≤ (w'.setCell ⟨g, 0, none⟩ (.slice P' (q + 1) pc')).heap.size := by have := h3.size; simpa using this
  refine ⟨P', pc', w', h1, hg', hgl', cell_of_row w' g 0 _ _ (0, 0) hg', by simp [World.frozen?, hg'], ⟨hset, h.hB, row_keep h2 fun k hk hv => hoth k fun e => hne' (by rw [← e]; exact hv), hne', fun y hy => ?_⟩, ⟨hb'.trans ((Below.refl _ _).setCell (p := ⟨g, 0, none⟩) h.hB _), hsz, fun b hb h1 h2 => (hoth b h1).trans (kp b hb h2)⟩, key, hb'⟩
  rcases List.mem_append.1 hy with hy | hy
  · exact (h.sets y hy).move hsz mv
  · rw [List.mem_singleton] at hy
    subst hy
    exact hx.move hsz mv
end Go.Proofs.Ytjpabeeokgfloaa
/- The writer's put. -/
namespace Go.Proofs.Ytjpabeeokgfloaa
open Go Go.RowKit
set_option linter.unusedVariables false
set_option maxRecDepth 20000

/-- What is behind put's append. -/
def PutR (B g : Nat) (P : Option Addr) (q pc : Nat) (xs : List IV) (x : IV) (w : World) (v' : Value) (w' : World) : Prop :=
  ∃ P' pc', v' = .slice P' (q + 1) pc' ∧ w'.cell? ⟨g, 0, none⟩ = some (.slice P q pc) ∧ w'.frozen? ⟨g, 0, none⟩ = false ∧
    WrS B g (w'.setCell ⟨g, 0, none⟩ (.slice P' (q + 1) pc')) P' (q + 1) pc' (xs ++ [x]) ∧ Wk B g (.slice P q pc) w (w'.setCell ⟨g, 0, none⟩ (.slice P' (q + 1) pc')) ∧ Vk w (.slice P q pc) (.slice P' (q + 1) pc')
theorem put_ex {B g q pc : Nat} {w X : World} {P : Option Addr} {xs : List IV} {x : IV} (h : WrS B g w P q pc xs) (hx : RowF (FW B g (.slice P q pc)) w x.A x.n x.i.set) (hX : Below w.heap.size w X) {d : Nat} (hd : X.heap[d]? = some (.cells #[.int .i64 x.i.op, .slice x.A x.n x.c, .int .i64 x.i.x, .int .i64 x.i.y] 37 (0, 0))) (hq : q ≤ 50000) :
    ∃ v' w', (Builtin.append_ #[22, 22] 22 #[.slice P q pc, .slice (some ⟨d, 0, none⟩) 1 1]).run Try.prog X = .ok v' w' ∧ PutR B g P q pc xs x w v' w' := by
  obtain ⟨P', pc', w', h1, _, _, h2, h3, h4, h5, h6⟩ := (h.below hX).push hd (hx.below hX) (by omega)
  have hBw : B ≤ w.heap.size := by have := h.hB; have := h.lt; omega
  exact ⟨_, w', h1, P', pc', rfl, h2, h3, h4, (Wk.of_below hBw hX).trans (Vk.refl _ _) h5, fun b hb hn => h6.1 b (Nat.lt_of_lt_of_le hb hX.size) hn⟩

set_option maxHeartbeats 4000000 in
theorem put_any {B g q pc : Nat} {w : World} {P : Option Addr} {xs : List IV} (h : WrS B g w P q pc xs) (op x0 y : Int) (A : Option Addr) (n c : Nat) (set : List (Int × Int)) (hx : RowF (FW B g (.slice P q pc)) w A n set) (hq : q ≤ 50000) :
    Calls Try.prog 25 #[.pointer (some ⟨g, 0, none⟩), .agg #[.int .i64 op, .slice A n c, .int .i64 x0, .int .i64 y]] w fun e w' => e = .returned (.tuple #[]) ∧ ∃ P' pc', WrS B g w' P' (q + 1) pc' (xs ++ [⟨⟨op, set, (q : Int) + 1, y⟩, A, n, c⟩]) ∧ Wk B g (.slice P q pc) w w' ∧ Vk w (.slice P q pc) (.slice P' (q + 1) pc') := by
  have hgl := h.lt
  have HS := Lib.hid h
  have HX := Lib.hid hx
  have hw : IntKind.i64.wrap ((q : Int) + 1) = (q : Int) + 1 := by rw [IntKind.wrap_i64]; omega
  have g0 : ∀ o, (w.alloc o).cell? ⟨g, 0, none⟩ = some (.slice P q pc) := fun o => cell_of_row _ g 0 _ _ (0, 0) ((Below.heap_alloc w o g hgl).trans h.hg)
  clear h hx
  go_enter Try.func25, Try.ntmps25
  go_wp2_with fail
  have HPu : Hid (∀ (X : World) (d : Nat), Below w.heap.size w X → X.heap[d]? = some (.cells #[.int .i64 op, .slice A n c, .int .i64 ((q : Int) + 1), .int .i64 y] 37 (0, 0)) → ∃ v' w', (Builtin.append_ #[22, 22] 22 #[.slice P q pc, .slice (some ⟨d, 0, none⟩) 1 1]).run Try.prog X = .ok v' w' ∧ PutR B g P q pc xs ⟨⟨op, set, (q : Int) + 1, y⟩, A, n, c⟩ w v' w') := Lib.hid fun X d hX hd => put_ex HS.out HX.out hX hd hq
  go_region_law (first | (refine step_append_ex rfl (.tmp 15) (.tmp 17) 22 rfl rfl _ _ (by rfl) (by rfl) _ (HPu.out _ _ (by first | exact ((Below.refl _ _).alloc (Nat.le_refl _) _).alloc (by simp) _ | exact ((((Below.refl _ _).alloc (Nat.le_refl _) _).drew).alloc (by simp) _) | exact (((Below.refl _ _).alloc (Nat.le_refl _) _).alloc (by simp) _).drew) (by first | exact hp_new (by simp) | exact hp_drew (hp_new (by simp)))) ?_; intro v' w' hR; obtain ⟨P', pc', rfl, hc1, hc2, hR1, hR2, hR3⟩ := hR))
  all_goals
    go_end0
    exact ⟨rfl, P', pc', hR1, hR2, hR3⟩
end Go.Proofs.Ytjpabeeokgfloaa
/- The writer's split and jump, and what their answers do. -/
namespace Go.Proofs.Ytjpabeeokgfloaa
open Go Go.RowKit
set_option linter.unusedVariables false
set_option maxRecDepth 20000

/-- A closure's boxes: the writer and a place. -/
def HereAt (w : World) (bx ix g i : Nat) : Prop := w.heap[bx]? = some (.cells #[.pointer (some ⟨g, 0, none⟩)] 65 (0, 0)) ∧ w.heap[ix]? = some (.cells #[.int .i64 (i : Int)] 3 (0, 0))
theorem HereAt.lt {w : World} {bx ix g i : Nat} (h : HereAt w bx ix g i) : bx < w.heap.size ∧ ix < w.heap.size := ⟨(Array.getElem?_eq_some_iff.1 h.1).1, (Array.getElem?_eq_some_iff.1 h.2).1⟩
set_option maxHeartbeats 4000000 in
theorem split_any {B g q pc : Nat} {w : World} {P : Option Addr} {xs : List IV} (h : WrS B g w P q pc xs) (hq : q ≤ 50000) :
    Calls Try.prog 38 #[.pointer (some ⟨g, 0, none⟩)] w fun e w' => ∃ bx ix, e = .returned (.func (Fn.func 44) #[] #[.pointer (some ⟨bx, 0, none⟩), .pointer (some ⟨ix, 0, none⟩)]) ∧ HereAt w' bx ix g q ∧ w.heap.size ≤ bx ∧ w.heap.size ≤ ix ∧ ∃ P' pc', WrS B g w' P' (q + 1) pc' (xs ++ [⟨⟨2, [], (q : Int) + 1, 0⟩, none, 0, 0⟩]) ∧ Wk B g (.slice P q pc) w w' ∧ Vk w (.slice P q pc) (.slice P' (q + 1) pc') ∧ (Value.slice P' (q + 1) pc').ownBlock ≠ some bx ∧ (Value.slice P' (q + 1) pc').ownBlock ≠ some ix := by
  have hgl := h.lt
  have HS := Lib.hid h
  have hw : IntKind.i64.wrap ((q : Int) + 1) = (q : Int) + 1 := by rw [IntKind.wrap_i64]; omega
  have g0 : ∀ o, (w.alloc o).cell? ⟨g, 0, none⟩ = some (.slice P q pc) := fun o => cell_of_row _ g 0 _ _ (0, 0) ((Below.heap_alloc w o g hgl).trans h.hg)
  clear h
  go_enter Try.func38, Try.ntmps38
  have HX : Hid (Below w.heap.size w ((w.alloc (.cells #[.pointer (some ⟨g, 0, none⟩)] 65)).alloc (.cells #[.int .i64 (q : Int)] 3))) := Lib.hid (((Below.refl _ _).alloc (Nat.le_refl _) _).alloc (by simp) _)
  have HQ := Lib.hid (put_any (HS.out.below HX.out) 2 0 0 none 0 0 [] (rowF_nil _ _) hq)
  go_wp2_with (go_at_call 25; (with_reducible refine HQ.out.mono ?_); rintro e w1 ⟨rfl, P', pc', hR1, hR2, hR3⟩; have HR := Lib.hid (And.intro hR1 (And.intro hR2 hR3)); clear hR1 hR2 hR3)
  go_ret
  have hb := HX.out
  have hbx : ∀ b, (b = w.heap.size ∨ b = w.heap.size + 1) → w1.heap[b]? = ((w.alloc (.cells #[.pointer (some ⟨g, 0, none⟩)] 65)).alloc (.cells #[.int .i64 (q : Int)] 3)).heap[b]? := fun b hb => HR.out.2.1.2.2 b (by simp; omega) (by omega) fun e => by have := (row_lt HS.out.row e).2; omega
  have hBw : B ≤ w.heap.size := by have := HS.out.hB; omega
  refine ⟨w.heap.size, w.heap.size + 1, rfl, ⟨(hbx _ (.inl rfl)).trans (hp_old (hp_new rfl)), (hbx _ (.inr rfl)).trans (hp_new (by simp))⟩, Nat.le_refl _, by omega, P', pc', HR.out.1, (Wk.of_below hBw hb).trans (Vk.refl _ _) HR.out.2.1, (fun b hb' hn => HR.out.2.2 b (Nat.lt_of_lt_of_le hb' hb.size) hn), HR.out.2.2 _ (by simp; omega) (fun e => by have := (row_lt HS.out.row e).2; omega), HR.out.2.2 _ (by simp) (fun e => by have := (row_lt HS.out.row e).2; omega)⟩
set_option maxHeartbeats 4000000 in
theorem jump_any {B g q pc : Nat} {w : World} {P : Option Addr} {xs : List IV} (h : WrS B g w P q pc xs) (hq : q ≤ 50000) :
    Calls Try.prog 39 #[.pointer (some ⟨g, 0, none⟩)] w fun e w' => ∃ bx ix, e = .returned (.func (Fn.func 45) #[] #[.pointer (some ⟨bx, 0, none⟩), .pointer (some ⟨ix, 0, none⟩)]) ∧ HereAt w' bx ix g q ∧ w.heap.size ≤ bx ∧ w.heap.size ≤ ix ∧ ∃ P' pc', WrS B g w' P' (q + 1) pc' (xs ++ [⟨⟨2, [], (q : Int) + 1, 0⟩, none, 0, 0⟩]) ∧ Wk B g (.slice P q pc) w w' ∧ Vk w (.slice P q pc) (.slice P' (q + 1) pc') ∧ (Value.slice P' (q + 1) pc').ownBlock ≠ some bx ∧ (Value.slice P' (q + 1) pc').ownBlock ≠ some ix := by
  have hgl := h.lt
  have HS := Lib.hid h
  have hw : IntKind.i64.wrap ((q : Int) + 1) = (q : Int) + 1 := by rw [IntKind.wrap_i64]; omega
  have g0 : ∀ o, (w.alloc o).cell? ⟨g, 0, none⟩ = some (.slice P q pc) := fun o => cell_of_row _ g 0 _ _ (0, 0) ((Below.heap_alloc w o g hgl).trans h.hg)
  clear h
  go_enter Try.func39, Try.ntmps39
  have HX : Hid (Below w.heap.size w ((w.alloc (.cells #[.pointer (some ⟨g, 0, none⟩)] 65)).alloc (.cells #[.int .i64 (q : Int)] 3))) := Lib.hid (((Below.refl _ _).alloc (Nat.le_refl _) _).alloc (by simp) _)
  have HQ := Lib.hid (put_any (HS.out.below HX.out) 2 0 0 none 0 0 [] (rowF_nil _ _) hq)
  go_wp2_with (go_at_call 25; (with_reducible refine HQ.out.mono ?_); rintro e w1 ⟨rfl, P', pc', hR1, hR2, hR3⟩; have HR := Lib.hid (And.intro hR1 (And.intro hR2 hR3)); clear hR1 hR2 hR3)
  go_ret
  have hb := HX.out
  have hbx : ∀ b, (b = w.heap.size ∨ b = w.heap.size + 1) → w1.heap[b]? = ((w.alloc (.cells #[.pointer (some ⟨g, 0, none⟩)] 65)).alloc (.cells #[.int .i64 (q : Int)] 3)).heap[b]? := fun b hb => HR.out.2.1.2.2 b (by simp; omega) (by omega) fun e => by have := (row_lt HS.out.row e).2; omega
  have hBw : B ≤ w.heap.size := by have := HS.out.hB; omega
  refine ⟨w.heap.size, w.heap.size + 1, rfl, ⟨(hbx _ (.inl rfl)).trans (hp_old (hp_new rfl)), (hbx _ (.inr rfl)).trans (hp_new (by simp))⟩, Nat.le_refl _, by omega, P', pc', HR.out.1, (Wk.of_below hBw hb).trans (Vk.refl _ _) HR.out.2.1, (fun b hb' hn => HR.out.2.2 b (Nat.lt_of_lt_of_le hb' hb.size) hn), HR.out.2.2 _ (by simp; omega) (fun e => by have := (row_lt HS.out.row e).2; omega), HR.out.2.2 _ (by simp) (fun e => by have := (row_lt HS.out.row e).2; omega)⟩
/-- An instruction's ends turned. -/
def setIV (f : InstL → InstL) (i : Nat) (xs : List IV) : List IV := xs.modify i fun v => { v with i := f v.i }
theorem WrS.at {B g q pc : Nat} {w : World} {P : Option Addr} {xs : List IV} (h : WrS B g w P q pc xs) {i : Nat} (hi : i < q) : ∃ b x, P = some ⟨b, 0, none⟩ ∧ B ≤ b ∧ b < w.heap.size ∧ b ≠ g ∧ xs[i]? = some x ∧ (∀ k v, x.cells[k]? = some v → w.cell? ⟨b, i * 4 + k, none⟩ = some v) ∧ (∀ j, w.frozen? ⟨b, j, none⟩ = false) := by
  have hl := h.len
  obtain ⟨x, hx⟩ : ∃ x, xs[i]? = some x := ⟨_, List.getElem?_eq_getElem (by omega)⟩
  rcases h.row.2 with ⟨e, h0⟩ | ⟨b, cap, cur, e, hB, hb, hnc, hcm, hcs, ht⟩
  · omega
  · injection e with e1 _ e3
    subst e1; subst e3
    refine ⟨b, x, rfl, hB, (Array.getElem?_eq_some_iff.1 hb).1, fun e => h.ne (by rw [e]; rfl), hx, fun k v hv => ?_, fun j => by simp [World.frozen?, hb]⟩
    have hk : k < 4 := (List.getElem?_eq_some_iff.1 hv).1
    have := cellsI_at xs i x hx k v hv
    rw [cell_of_row w b (i * 4 + k) cur 37 (0, 0) hb, ← this, ← ht, List.getElem?_take_of_lt (by omega), Array.getElem?_toList]
theorem cellsI_set (f : InstL → InstL) (k : Nat) (hk : k < 4) (u : Value) : ∀ (xs : List IV) (i : Nat), (∀ x, xs[i]? = some x → (IV.cells { x with i := f x.i }) = x.cells.set k u) → i < xs.length → (cellsI xs).set (i * 4 + k) u = cellsI (setIV f i xs)
  | [], i, _, h => by simp at h
  | p :: s, 0, h, _ => by
    have h1 := h p rfl
    show (p.cells ++ cellsI s).set (0 * 4 + k) u = IV.cells { p with i := f p.i } ++ cellsI s
    rw [h1, Nat.zero_mul, Nat.zero_add, List.set_append_left _ _ (show k < p.cells.length from hk)]
  | p :: s, i + 1, h, hl => by
    have ih := cellsI_set f k hk u s i (fun x hx => h x (by simpa using hx)) (by simpa using hl)
    show (p.cells ++ cellsI s).set ((i + 1) * 4 + k) u = p.cells ++ cellsI (setIV f i s)
    rw [← ih, List.set_append_right _ _ (by show 4 ≤ _; omega), show (i + 1) * 4 + k - p.cells.length = i * 4 + k by show _ - 4 = _; omega]
theorem setIV_mem (f : InstL → InstL) (i : Nat) (xs : List IV) (x : IV) (h : x ∈ setIV f i xs) : ∃ y ∈ xs, x = y ∨ x = { y with i := f y.i } := by
  obtain ⟨j, hj⟩ := List.getElem?_of_mem h
  unfold setIV at hj
  rw [List.getElem?_modify] at hj
  obtain ⟨y, hy, e⟩ := Option.map_eq_some_iff.1 hj
  refine ⟨y, List.mem_of_getElem? hy, ?_⟩
  by_cases hij : i = j
  · right; rw [if_pos hij] at e; exact e.symm
  · left; rw [if_neg hij] at e; exact e.symm
/-- A store into an instruction's ends. -/
theorem WrS.turn {B g q pc b i k : Nat} {w : World} {xs : List IV} (h : WrS B g w (some ⟨b, 0, none⟩) q pc xs) (hB : B ≤ b) (hbl : b < w.heap.size) (hbg : b ≠ g) (f : InstL → InstL) (hk : k < 4) (u : Value) (hi : i < q) (hf : ∀ x : IV, (IV.cells { x with i := f x.i }) = x.cells.set k u) (hs : ∀ v, (f v).set = v.set) :
    WrS B g (w.setCell ⟨b, i * 4 + k, none⟩ u) (some ⟨b, 0, none⟩) q pc (setIV f i xs) ∧ Wk B g (.slice (some ⟨b, 0, none⟩) q pc) w (w.setCell ⟨b, i * 4 + k, none⟩ u) := by
  have hst := (h.row.stored (i * 4 + k) u).1
  rw [cellsI_set f k hk u xs i (fun x _ => hf x) (by rw [h.len]; exact hi)] at hst
  have hoth : ∀ c, c ≠ b → (w.setCell ⟨b, i * 4 + k, none⟩ u).heap[c]? = w.heap[c]? := fun c hc => Below.heap_setCell _ _ _ _ hc
  have hown : (Value.slice (some ⟨b, 0, none⟩) q pc).ownBlock = some b := rfl
  have hsz : (w.setCell ⟨b, i * 4 + k, none⟩ u).heap.size = w.heap.size := by simp
  have mv : ∀ c, FW B g (.slice (some ⟨b, 0, none⟩) q pc) c → c < w.heap.size → FW B g (.slice (some ⟨b, 0, none⟩) q pc) c ∧ (w.setCell ⟨b, i * 4 + k, none⟩ u).heap[c]? = w.heap[c]? := fun c hF _ => ⟨hF, hoth c fun e => hF.2.2 (by rw [hown, e])⟩
  refine ⟨⟨(hoth g (Ne.symm hbg)).trans h.hg, h.hB, hst, h.ne, fun x hx => ?_⟩, (Below.refl _ _).setCell (p := ⟨b, i * 4 + k, none⟩) hB _, by omega, fun c _ _ hn => hoth c fun e => hn (by rw [hown, e])⟩
  obtain ⟨y, hy, rfl | rfl⟩ := setIV_mem f i xs x hx
  · exact (h.sets _ hy).move (by omega) mv
  · have := (h.sets y hy).move (by omega) mv
    show RowF _ _ y.A y.n (f y.i).set
    rw [hs]
    exact this
theorem WrS.drew {B g q pc : Nat} {w : World} {P : Option Addr} {xs : List IV} (h : WrS B g w P q pc xs) : WrS B g w.drew P q pc xs := ⟨h.hg, h.hB, h.row, h.ne, fun x hx => (h.sets x hx).move (Nat.le_refl _) fun b hF _ => ⟨hF, rfl⟩⟩
theorem Wk.drew {B g : Nat} {V : Value} {w w' : World} (h : Wk B g V w w') : Wk B g V w w'.drew := ⟨h.1.drew, h.2.1, h.2.2⟩
set_option maxHeartbeats 4000000 in
theorem here_any {B g q pc bx ix i : Nat} {w : World} {P : Option Addr} {xs : List IV} (h : WrS B g w P q pc xs) (hh : HereAt w bx ix g i) (hi : i < q) (hq : q ≤ 50000) :
    Calls Try.prog 44 #[.pointer (some ⟨bx, 0, none⟩), .pointer (some ⟨ix, 0, none⟩)] w fun e w' => e = .returned (.tuple #[]) ∧ WrS B g w' P q pc (setIV (fun v => { v with y := (q : Int) }) i xs) ∧ Wk B g (.slice P q pc) w w' := by
  obtain ⟨b, x, rfl, hB, hbl, hbg, hx, hc, hf⟩ := h.at hi
  have HS := Lib.hid h
  have HH := Lib.hid (And.intro hx hbl)
  have c0 : w.cell? ⟨bx, 0, none⟩ = some (.pointer (some ⟨g, 0, none⟩)) := cell_of_row w bx 0 _ _ (0, 0) hh.1
  have c1 : w.cell? ⟨ix, 0, none⟩ = some (.int .i64 (i : Int)) := cell_of_row w ix 0 _ _ (0, 0) hh.2
  have c2 : w.cell? ⟨g, 0, none⟩ = some (.slice (some ⟨b, 0, none⟩) q pc) := cell_of_row w g 0 _ _ (0, 0) h.hg
  have c3 := hc 3 _ rfl
  have hi1 : (0 : Int) ≤ (i : Int) := by omega
  have hi2 : (i : Int) < (q : Int) := by omega
  have f3 := hf (i * 4 + 3)
  clear h hh hc hx hf
  go_enter Try.func44, Try.ntmps44
  go_wp2_with fail
  go_region
  go_end0
  obtain ⟨k1, k2⟩ := HS.out.turn hB hbl hbg (fun v => { v with y := (q : Int) }) (k := 3) (by omega) (.int .i64 (q : Int)) hi (fun x => rfl) (fun v => rfl)
  exact ⟨rfl, k1.drew, k2.drew⟩
end Go.Proofs.Ytjpabeeokgfloaa
/- The writer's trees: how many instructions are put. -/
namespace Go.Proofs.Ytjpabeeokgfloaa
open Go Go.RowKit
set_option linter.unusedVariables false
set_option maxRecDepth 20000

theorem app_G2 {w : World} {B : Nat} {P : Option Addr} {q pc : Nat} {xs : List (Int × Int)} (h : w.ownsRow B 58 2 (.slice P q pc) q (cellsG xs)) {A : Option Addr} {n c : Nat} {s : List (Int × Int)} (hr : RowG w A n s) (hA : A = none → n = 0 ∧ c = 0) (hq : q ≤ 3000000) (hn : n ≤ 3000000) (hb : B ≤ w.heap.size) :
    ∃ P' pc' w', (Builtin.append_ #[25, 25] 25 #[.slice P q pc, .slice A n c]).run Try.prog w = .ok (.slice P' (q + n) pc') w' ∧ w'.ownsRow B 58 2 (.slice P' (q + n) pc') (q + n) (cellsG (xs ++ s)) ∧ Below B w w' := by
  obtain ⟨i0, hi, hz0, hz1, hz2⟩ := info_parts info_rng
  have hl := hr.1
  rw [cellsG_append]
  rcases A with _ | ad
  · obtain ⟨rfl, rfl⟩ := hA rfl
    have hs : s = [] := List.eq_nil_of_length_eq_zero hl
    subst hs
    rw [show cellsG [] = [] from rfl, List.append_nil]
    exact ⟨P, pc, w, run_append_owned_none (P := Try.prog) w B 25 25 58 i0 2 Try.underlying25 hi _ q _ h, h, Below.refl _ _⟩
  · have hcells : ∀ j u, (cellsG s)[j]? = some u → w.cell? (ad.add j) = some u := by
      intro j u hu
      have hj : j < n * 2 := by
        have := cellsG_length s
        rcases Nat.lt_or_ge j (cellsG s).length with h1 | h1
        · omega
        · rw [List.getElem?_eq_none h1] at hu; cases hu
      obtain ⟨b, o, hA, _, hc⟩ := hr.2 (by omega)
      injection hA with hA
      subst hA
      have hadd : (⟨b, o, none⟩ : Addr).add j = ⟨b, o + j, none⟩ := by unfold Addr.add; split <;> simp_all
      obtain ⟨e0, e1⟩ := cellsG_at s (j / 2) (by omega)
      obtain ⟨c0, c1⟩ := hc (j / 2) (by omega)
      rw [hadd]
      rcases Nat.mod_two_eq_zero_or_one j with hm | hm
      · have e : j = j / 2 * 2 := by omega
        rw [e] at hu ⊢
        rw [e0] at hu
        rw [c0, hu]
      · have e : j = j / 2 * 2 + 1 := by omega
        rw [e] at hu ⊢
        rw [e1] at hu
        rw [← Nat.add_assoc, c1, hu]
    obtain ⟨V', w', h1, h2, h3, _⟩ := run_append_own (P := Try.prog) w B 25 25 58 i0 _ 2 16 Try.underlying25 hi hz0 hz1 hz2 rfl (by decide) _ q _ h ad n c (cellsG s) (by rw [cellsG_length, hl]) hcells
      (by intro u hu; obtain ⟨p, _, hp⟩ := List.mem_flatMap.1 hu; simp at hp; rcases hp with rfl | rfl <;> rfl) (by unfold maxLen; omega) (by omega) hb
    have hb' : Below B w w' := (Below.refl _ _).grown h3 hb (by intro k hk; exact (row_lt h hk).1)
    rcases h2.2 with ⟨rfl, h0⟩ | ⟨b, cap, cu, rfl, _⟩
    · rw [h0] at h2 ⊢
      exact ⟨none, 0, w', h1, h2, hb'⟩
    · exact ⟨_, _, w', h1, h2, hb'⟩

/-- slices.Clone of ranges. -/
theorem gclone_any {F : Nat → Prop} (A : Option Addr) (n c : Nat) (s : List (Int × Int)) (w : World) (hr : RowF F w A n s) (hn : n ≤ 2000000) :
    Calls Try.prog 26 #[.slice A n c] w fun e w' => ∃ P q pc, e = .returned (.slice P q pc) ∧ w'.ownsRow w.heap.size 58 2 (.slice P q pc) q (cellsG s) ∧ Below w.heap.size w w' := by
  have q22 : ∀ (w : World) (a : Option Addr) (n c n' c' : Nat), (binOp .eql 25 (.slice a n c) (.slice none n' c')).run Try.prog w = .ok (.bool a.isNone) w := fun w a n c n' c' => Lib.run_eql_slice_nil w _ _ a n c n' c' Try.underlying25
  rcases A with _ | a
  · have h0 : n = 0 := by
      rcases Nat.eq_zero_or_pos n with h0 | h0
      · exact h0
      · obtain ⟨_, _, h, _⟩ := hr.1.2 h0
        cases h
    subst h0
    have : s = [] := List.eq_nil_of_length_eq_zero hr.1.1
    subst this
    clear hr
    go_enter Try.func26, Try.ntmps26
    go_wp2
    go_ret
    exact ⟨_, _, _, rfl, nilG _ _, Below.refl _ _⟩
  · obtain ⟨P', pc', w', happ, hown, hb⟩ := app_G2 (w := w.alloc (.cells #[] 58)) (B := w.heap.size) (xs := []) (World.ownsRow_made w #[] 0 (Nat.le_refl _) (Nat.zero_le _) rfl) (A := some a) (n := n) (c := c) (s := s) (hr.1.below ((Below.refl _ _).alloc (Nat.le_refl _) _) (Nat.le_refl _)) (fun h => by cases h) (by omega) (by omega) (by simp)
    rw [Nat.zero_add, List.nil_append] at hown
    rw [Nat.zero_add] at happ
    have HAPP := Lib.hid happ
    have HOWN := Lib.hid (And.intro hown (((Below.refl _ w).alloc (Nat.le_refl _) _).trans hb))
    clear happ hown hb hr
    go_enter Try.func26, Try.ntmps26
    go_wp2_with (at_builtin; refine wpList_append_run rfl _ _ 25 rfl rfl _ _ _ _ rfl rfl HAPP.out ?_)
    go_ret
    exact ⟨_, _, _, rfl, HOWN.out.1, HOWN.out.2⟩
/-- What a call of the writer does: so many instructions more. -/
def Added (B g : Nat) (w : World) (P : Option Addr) (q pc c : Nat) (e : Ending) (w' : World) : Prop :=
  e = .returned (.tuple #[]) ∧ ∃ P' pc' xs', WrS B g w' P' (q + c) pc' xs' ∧ Wk B g (.slice P q pc) w w' ∧ Vk w (.slice P q pc) (.slice P' (q + c) pc')
/-- A tree of c instructions, among memory that stays. -/
def TreeC (B g : Nat) (w0 : World) (v : Value) (c : Nat) : Prop :=
  ∀ w P q pc xs, Below B w0 w → WrS B g w P q pc xs → q + c ≤ 20000 → Calls Try.prog 14 #[.pointer (some ⟨g, 0, none⟩), v] w (Added B g w P q pc c)
def RowC (B g : Nat) (w0 : World) (v : Value) (c : Nat) : Prop :=
  ∀ w P q pc xs, Below B w0 w → WrS B g w P q pc xs → q ≤ 20000 → Calls Try.prog 27 #[.pointer (some ⟨g, 0, none⟩), v] w (Added B g w P q pc c)
/-- Behind memory that was made first. -/
theorem Added.behind {B g q pc c : Nat} {w w1 w' : World} {P : Option Addr} {e : Ending} (hB : B ≤ w.heap.size) (hb : Below w.heap.size w w1) (h : Added B g w1 P q pc c e w') : Added B g w P q pc c e w' := by
  obtain ⟨he, P', pc', xs', h1, h2, h3⟩ := h
  exact ⟨he, P', pc', xs', h1, (Wk.of_below hB hb).trans (Vk.refl _ _) h2, fun b hb' hn => h3 b (Nat.lt_of_lt_of_le hb' hb.size) hn⟩
theorem Added.then_ {B g q pc c d : Nat} {w w1 w2 : World} {P P1 : Option Addr} {pc1 : Nat} {e : Ending} (k2 : Wk B g (.slice P q pc) w w1) (k3 : Vk w (.slice P q pc) (.slice P1 (q + c) pc1)) (h : Added B g w1 P1 (q + c) pc1 d e w2) : Added B g w P q pc (c + d) e w2 := by
  obtain ⟨he, P', pc', xs', h1, h2, h3⟩ := h
  rw [Nat.add_assoc] at h1 h3
  exact ⟨he, P', pc', xs', h1, k2.trans k3 h2, k3.trans k2.2.1 h3⟩
set_option maxHeartbeats 4000000 in
theorem tree_char {B g : Nat} {w0 : World} {A D : Option Addr} {ns cs nk ck : Nat} {mn mx : Int} {s : List (Int × Int)} (hr : RowF (fun b => b < B) w0 A ns s) (hn : ns ≤ 2000000) (hBw : B ≤ w0.heap.size) : TreeC B g w0 (.agg #[.int .i64 1, .slice A ns cs, .int .i64 mn, .int .i64 mx, .slice D nk ck]) 1 := by
  intro w P q pc xs hb0 h hq
  have hBg := h.hB
  have hgl := h.lt
  have HS := Lib.hid h
  have HC := Lib.hid (gclone_any A ns cs s (w.alloc (.cells #[.int .i64 1, .slice A ns cs, .int .i64 mn, .int .i64 mx, .slice D nk ck] 28)) ((hr.keep hb0.size fun b hb _ => hb0.block b hb).below ((Below.refl _ _).alloc (Nat.le_refl _) _)) hn)
  clear h hr
  go_enter Try.func14, Try.ntmps14
  go_wp2_with (first
    | (go_at_call 26; (with_reducible refine HC.out.mono ?_); rintro e w1 ⟨P1, q1, pc1, rfl, ho, hb⟩; have hb1 : Below w.heap.size w w1 := ((Below.refl _ _).alloc (Nat.le_refl _) _).trans (hb.mono (by simp)); have HB1 := Lib.hid hb1; have HPu := Lib.hid (put_any (HS.out.below hb1) 1 0 0 P1 q1 pc1 s ((rowF_own ho).move (Nat.le_refl _) fun b hF hlt => ⟨⟨by have hF : (w.alloc (.cells #[.int .i64 1, .slice A ns cs, .int .i64 mn, .int .i64 mx, .slice D nk ck] 28)).heap.size ≤ b := hF; simp at hF; omega, by have hF : (w.alloc (.cells #[.int .i64 1, .slice A ns cs, .int .i64 mn, .int .i64 mx, .slice D nk ck] 28)).heap.size ≤ b := hF; simp at hF; omega, fun e => by have hF : (w.alloc (.cells #[.int .i64 1, .slice A ns cs, .int .i64 mn, .int .i64 mx, .slice D nk ck] 28)).heap.size ≤ b := hF; simp at hF; have := (row_lt HS.out.row e).2; omega⟩, rfl⟩) (by omega)); clear ho hb hb1)
    | (go_at_call 25; (with_reducible refine HPu.out.mono ?_); rintro e w2 ⟨rfl, P', pc', hR1, hR2, hR3⟩; have HR := Lib.hid (And.intro hR1 (And.intro hR2 hR3)); clear hR1 hR2 hR3))
  go_end0
  exact Added.behind (by omega) HB1.out ⟨rfl, P', pc', _, HR.out.1, HR.out.2.1, HR.out.2.2⟩
end Go.Proofs.Ytjpabeeokgfloaa
/- The writer's row. -/
namespace Go.Proofs.Ytjpabeeokgfloaa
open Go Go.RowKit
set_option linter.unusedVariables false
set_option maxRecDepth 20000

set_option maxHeartbeats 4000000 in
theorem row_adds {B g : Nat} {w0 : World} {D : Option Addr} {nk ck : Nat} {K : Wood} (hk : KidsAt (fun b => b < B) w0 D nk K) (hnk : nk ≤ 1000) (hBw : B ≤ w0.heap.size) (cf : Nat → Nat) (hc : ∀ j, cf j ≤ cf (j + 1)) (hc0 : cf 0 = 0) (hcl : cf nk ≤ 20000)
    (HT : ∀ j, j < nk → ∀ v, NodeIn (fun b => b < B) w0 v (K.nth j) → TreeC B g w0 v (cf (j + 1) - cf j)) :
    ∀ w P q pc xs, Below B w0 w → WrS B g w P q pc xs → q + cf nk ≤ 20000 → Calls Try.prog 27 #[.pointer (some ⟨g, 0, none⟩), .slice D nk ck] w (Added B g w P q pc (cf nk)) := by
  intro w P q pc xs hb0 h hq
  have hmono : ∀ a b, a ≤ b → cf a ≤ cf b := fun a b hab => by
    induction hab with
    | refl => exact Nat.le_refl _
    | step _ ih => exact Nat.le_trans ih (hc _)
  have HS := Lib.hid h
  have HK := Lib.hid hk
  have HTr := Lib.hid HT
  have HM := Lib.hid (And.intro hmono hc0)
  have HB := Lib.hid (And.intro hb0 hBw)
  clear h hk HT hmono hc hc0 hb0 hBw
  go_enter Try.func27, Try.ntmps27
  go_wp2_with fail
  go_loopw [8] (fun vi wr => ∃ (j pc' : Nat) (P' : Option Addr) (xs' : List IV), vi = .int .i64 (j : Int) ∧ j ≤ nk ∧ Hid (WrS B g wr P' (q + cf j) pc' xs' ∧ Wk B g (.slice P q pc) w wr ∧ Vk w (.slice P q pc) (.slice P' (q + cf j) pc'))) (fun vi _ => nk - (match vi with | .int _ j => j.toNat | _ => 0))
  case atStart =>
    refine ⟨0, pc, P, xs, rfl, Nat.zero_le _, Lib.hid ?_⟩
    rw [HM.out.2, Nat.add_zero]
    exact ⟨HS.out, Wk.refl _ _ _ _, Vk.refl _ _⟩
  case round =>
    obtain ⟨j, pc', P', xs', rfl, hj, H⟩ := hrel
    by_cases hlt : j < nk
    · have hbr : Below B w0 wr := HB.out.1.trans H.out.2.1.1
      have hkw : KidsAt (fun b => b < B) wr D nk K := HK.out.keep hbr.size fun b hb _ => hbr.block b hb
      obtain ⟨b, o, op, s, mn, mx, k', A', D', ns, cs, nk', ck', rfl, hbl, e, c0, c1, c2, c3, c4, hin⟩ := hkw.kid hlt
      have hin0 : NodeIn (fun b => b < B) w0 (.agg #[.int .i64 op, .slice A' ns cs, .int .i64 mn, .int .i64 mx, .slice D' nk' ck']) (K.nth j) := by
        obtain ⟨b2, o2, op2, s2, mn2, mx2, k2, A2, D2, ns2, cs2, nk2, ck2, hD2, hbl2, e2, d0, d1, d2, d3, d4, hin2⟩ := HK.out.kid hlt
        injection hD2 with hD2
        injection hD2 with e3 e4
        subst e3; subst e4
        have hbB : b < B := by
          obtain ⟨b5, o5, hD5, hF5, _⟩ := HK.out.2 (by omega)
          injection hD5 with hD5
          injection hD5 with e5 _
          subst e5
          exact hF5
        have up : ∀ x, wr.cell? ⟨b, x, none⟩ = w0.cell? ⟨b, x, none⟩ := fun x => hbr.cell (p := ⟨b, x, none⟩) hbB
        rw [up] at c0 c1 c2 c3 c4
        rw [d0] at c0; rw [d1] at c1; rw [d2] at c2; rw [d3] at c3; rw [d4] at c4
        injection c0 with c0; injection c0 with _ c0
        injection c1 with c1; injection c1 with a1 a2 a3
        injection c2 with c2; injection c2 with _ c2
        injection c3 with c3; injection c3 with _ c3
        injection c4 with c4; injection c4 with b1 b2 b3
        subst c0; subst a1; subst a2; subst a3; subst c2; subst c3; subst b1; subst b2; subst b3
        exact hin2
      have hcm := HM.out.1 (j + 1) nk (by omega)
      have hcm2 := HM.out.1 j (j + 1) (by omega)
      have HC := Lib.hid (HTr.out j hlt _ hin0 (wr.alloc (.cells #[.int .i64 op, .slice A' ns cs, .int .i64 mn, .int .i64 mx, .slice D' nk' ck'] 28)) P' (q + cf j) pc' xs' (hbr.alloc (by have := hbr.size; have := HB.out.2; omega) _) (H.out.1.below ((Below.refl _ _).alloc (Nat.le_refl _) _)) (by omega))
      have HCM := Lib.hid (And.intro hcm hcm2)
      have HBR := Lib.hid hbr
      clear hin hin0 hkw e hbr hcm hcm2
      go_wp2_with (go_at_call 14; (with_reducible refine HC.out.mono ?_); rintro e w2 hv; have HV := Lib.hid hv; obtain ⟨rfl, -⟩ := hv)
      obtain ⟨_, P2, pc2, xs2, k1, k2, k3⟩ := Added.behind (B := B) (by have := HBR.out.size; have := HB.out.2; omega) ((Below.refl wr.heap.size wr).alloc (Nat.le_refl _) _) HV.out
      have hcm := HCM.out
      rw [show q + cf j + (cf (j + 1) - cf j) = q + cf (j + 1) by omega] at k1 k3
      exact ⟨⟨j + 1, pc2, P2, xs2, rfl, hlt, Lib.hid ⟨k1, H.out.2.1.trans H.out.2.2 k2, H.out.2.2.trans H.out.2.1.2.1 k3⟩⟩, by show nk - ((j : Int) + 1).toNat < nk - (j : Int).toNat; omega⟩
    · obtain rfl : j = nk := by omega
      go_wp2
      go_end0
      exact ⟨rfl, P', pc', xs', H.out.1, H.out.2.1, H.out.2.2⟩
end Go.Proofs.Ytjpabeeokgfloaa
/- The writer's loop. -/
namespace Go.Proofs.Ytjpabeeokgfloaa
open Go Go.RowKit
set_option linter.unusedVariables false
set_option maxRecDepth 20000

theorem HereAt.keep {w w' : World} {bx ix g i : Nat} {B : Nat} {V : Value} (h : HereAt w bx ix g i) (hk : Wk B g V w w') (h1 : bx ≠ g) (h2 : ix ≠ g) (h3 : V.ownBlock ≠ some bx) (h4 : V.ownBlock ≠ some ix) : HereAt w' bx ix g i :=
  ⟨(hk.2.2 bx h.lt.1 h1 h3).trans h.1, (hk.2.2 ix h.lt.2 h2 h4).trans h.2⟩
set_option maxHeartbeats 8000000 in
theorem loop_any {B g q pc c : Nat} {w : World} {P : Option Addr} {xs : List IV} {v : Value} (h : WrS B g w P q pc xs) (hq : q + c + 2 ≤ 20000)
    (HR : ∀ w1 P1 pc1 xs1, Below B w w1 → WrS B g w1 P1 (q + 1) pc1 xs1 → Calls Try.prog 27 #[.pointer (some ⟨g, 0, none⟩), v] w1 (Added B g w1 P1 (q + 1) pc1 c)) :
    Calls Try.prog 40 #[.pointer (some ⟨g, 0, none⟩), v] w (Added B g w P q pc (c + 2)) := by
  have hgl := h.lt
  have HSp := Lib.hid (split_any h (by omega))
  have HRo := Lib.hid HR
  clear h HR
  go_enter Try.func40, Try.ntmps40
  go_wp2_with (first
    | (go_at_call 38; (with_reducible refine HSp.out.mono ?_); rintro e w1 ⟨bx, ix, rfl, hh, hbx, hix, P1, pc1, k1, k2, k3, k4, k5⟩; have HS1 := Lib.hid k1; have HH := Lib.hid (And.intro hh (And.intro hbx (And.intro hix (And.intro k2 (And.intro k3 (And.intro k4 k5)))))); have HC := Lib.hid (HRo.out w1 P1 pc1 _ k2.1 k1); have g1 : w1.cell? ⟨g, 0, none⟩ = some (.slice P1 (q + 1) pc1) := cell_of_row w1 g 0 _ _ (0, 0) k1.hg; clear hh hbx hix k1 k2 k3 k4 k5)
    | (go_at_call 27; (with_reducible refine HC.out.mono ?_); rintro e w2 ⟨rfl, P2, pc2, xs2, k1, k2, k3⟩; have HS2 := Lib.hid k1; have HH2 := Lib.hid (And.intro k2 k3); have g2 : w2.cell? ⟨g, 0, none⟩ = some (.slice P2 (q + 1 + c) pc2) := cell_of_row w2 g 0 _ _ (0, 0) k1.hg; clear k1 k2 k3))
  have HPu : Hid (∀ (X : World) (d : Nat), Below w2.heap.size w2 X → X.heap[d]? = some (.cells #[.int .i64 2, .slice none 0 0, .int .i64 ((q : Int) + 1), .int .i64 ((q : Int) + 1 + (c : Int) + 1)] 37 (0, 0)) → ∃ v' w', (Builtin.append_ #[22, 22] 22 #[.slice P2 (q + 1 + c) pc2, .slice (some ⟨d, 0, none⟩) 1 1]).run Try.prog X = .ok v' w' ∧ PutR B g P2 (q + 1 + c) pc2 xs2 ⟨⟨2, [], (q : Int) + 1, (q : Int) + 1 + (c : Int) + 1⟩, none, 0, 0⟩ w2 v' w') := Lib.hid fun X d hX hd => put_ex HS2.out (rowF_nil _ _) hX hd (by omega)
  have hw : IntKind.i64.wrap ((q : Int) + 1 + (c : Int) + 1) = (q : Int) + 1 + (c : Int) + 1 := by rw [IntKind.wrap_i64]; omega
  have g3 : ∀ o, (w2.alloc o).cell? ⟨g, 0, none⟩ = some (.slice P2 (q + 1 + c) pc2) := fun o => cell_of_row _ g 0 _ _ (0, 0) ((Below.heap_alloc w2 o g HS2.out.lt).trans HS2.out.hg)
  clear g1
  go_region_law (first | (refine step_append_ex rfl (.tmp 20) (.tmp 29) 22 rfl rfl _ _ (by rfl) (by rfl) _ (HPu.out _ _ (by first | exact (Below.refl _ _).alloc (Nat.le_refl _) _ | exact ((Below.refl _ _).alloc (Nat.le_refl _) _).drew | exact (Below.refl _ _).drew.alloc (by simp) _) (by first | exact hp_new rfl | exact hp_drew (hp_new rfl) | exact hp_new (by simp) | exact hp_drew (hp_new (by simp)))) ?_; intro v' w' hR; obtain ⟨P3, pc3, rfl, hc1, hc2, hR1, hR2, hR3⟩ := hR))
  all_goals
    have HPR := Lib.hid (And.intro hR1 (And.intro hR2 hR3))
    obtain ⟨w4, hw4⟩ : ∃ w4, w4 = w'.setCell ⟨g, 0, none⟩ (.slice P3 (q + 1 + c + 1) pc3) := ⟨_, rfl⟩
    rw [← hw4] at HPR
    rw [← hw4]
    have hne := HH.out
    have hh2 := hne.1.keep HH2.out.1 (by omega) (by omega) hne.2.2.2.2.2.1 hne.2.2.2.2.2.2
    have n3 := HH2.out.2 bx hne.1.lt.1 hne.2.2.2.2.2.1
    have n4 := HH2.out.2 ix hne.1.lt.2 hne.2.2.2.2.2.2
    have hh4 := hh2.keep HPR.out.2.1 (by omega) (by omega) n3 n4
    have HHe := Lib.hid (here_any HPR.out.1 hh4 (i := q) (by omega) (by omega))
    clear hw4 hR1 hR2 hR3 hc1 hc2 hne hh2 n3 n4 hh4 g2 g3 hw
    go_wp2_with (go_at_call 44; (with_reducible refine HHe.out.mono ?_); rintro e w5 ⟨rfl, k1, k2⟩; have HF := Lib.hid (And.intro k1 k2); clear k1 k2)
    go_end0
    refine ⟨rfl, P3, pc3, _, by rw [show q + (c + 2) = q + 1 + c + 1 by omega]; exact HF.out.1, ?_, ?_⟩
    · exact ((HH.out.2.2.2.1.trans HH.out.2.2.2.2.1 HH2.out.1).trans (HH.out.2.2.2.2.1.trans HH.out.2.2.2.1.2.1 HH2.out.2) HPR.out.2.1).trans ((HH.out.2.2.2.2.1.trans HH.out.2.2.2.1.2.1 HH2.out.2).trans (HH.out.2.2.2.1.trans HH.out.2.2.2.2.1 HH2.out.1).2.1 HPR.out.2.2) HF.out.2
    · rw [show q + (c + 2) = q + 1 + c + 1 by omega]
      exact (HH.out.2.2.2.2.1.trans HH.out.2.2.2.1.2.1 HH2.out.2).trans (HH.out.2.2.2.1.trans HH.out.2.2.2.2.1 HH2.out.1).2.1 HPR.out.2.2
end Go.Proofs.Ytjpabeeokgfloaa
/- The writer's often, and its trees. -/
namespace Go.Proofs.Ytjpabeeokgfloaa
open Go Go.RowKit
set_option linter.unusedVariables false
set_option maxRecDepth 20000

set_option maxHeartbeats 4000000 in
theorem counts_exact {A D : Option Addr} {ns cs nk ck : Nat} {op mx : Int} (mn : Nat) (hmn : mn ≤ 1000) (hmx : mx ≤ (mn : Int)) (hmx0 : -1 ≤ mx) (w : World) :
    Calls Try.prog 16 #[.agg #[.int .i64 op, .slice A ns cs, .int .i64 (mn : Int), .int .i64 mx, .slice D nk ck]] w fun e w' => e = .returned (.tuple #[.int .i64 (mn : Int), .int .i64 0]) ∧ Below w.heap.size w w' := by
  have m1 : max (mn : Int) 0 = (mn : Int) := by omega
  have m2 : max mx (mn : Int) = (mn : Int) := by omega
  have hw : IntKind.i64.wrap ((mn : Int) - (mn : Int)) = 0 := by rw [IntKind.wrap_i64]; omega
  have hw2 : (mn : Int) - (mn : Int) = 0 := by omega
  go_enter Try.func16, Try.ntmps16
  go_wp2_with fail
  go_region
  all_goals
    go_wp2
    go_ret2
    exact ⟨rfl, ((Below.refl _ _).alloc (Nat.le_refl _) _).drew⟩
set_option maxHeartbeats 8000000 in
theorem often_any {B g q pc c : Nat} {w : World} {P : Option Addr} {xs : List IV} (h : WrS B g w P q pc xs) {A D : Option Addr} {ns cs nk ck : Nat} {op mx : Int} (mn : Nat) (hmn : mn ≤ 1000) (hx : mx = (mn : Int) ∨ mx = -1) (hc : 1 ≤ c) (hq : q + (mn * c + if mx < 0 then c + 2 else 0) ≤ 20000)
    (HR : ∀ w1 P1 q1 pc1 xs1, Below B w w1 → WrS B g w1 P1 q1 pc1 xs1 → q1 + c ≤ 20000 → Calls Try.prog 27 #[.pointer (some ⟨g, 0, none⟩), .slice D nk ck] w1 (Added B g w1 P1 q1 pc1 c)) :
    Calls Try.prog 29 #[.pointer (some ⟨g, 0, none⟩), .agg #[.int .i64 op, .slice A ns cs, .int .i64 (mn : Int), .int .i64 mx, .slice D nk ck]] w (Added B g w P q pc (mn * c + if mx < 0 then c + 2 else 0)) := by
  have hgl := h.lt
  have hBw : B ≤ w.heap.size := by have := h.hB; omega
  have HCo := Lib.hid fun w' => counts_exact (A := A) (D := D) (ns := ns) (cs := cs) (nk := nk) (ck := ck) (op := op) (mx := mx) mn hmn (by omega) (by omega) w'
  have HRo := Lib.hid HR
  have HS := Lib.hid h
  have HX := Lib.hid hx
  have HB := Lib.hid hBw
  obtain ⟨C, hC⟩ : ∃ C, C = mn * c + if mx < 0 then c + 2 else 0 := ⟨_, rfl⟩
  rw [← hC]
  rw [← hC] at hq
  have HQ := Lib.hid (And.intro (show q + mn * c ≤ 20000 by omega) (And.intro hc hq))
  have HCC := Lib.hid hC
  clear h HR hq hBw hx hC
  go_enter Try.func29, Try.ntmps29
  go_wp2_with (go_at_call 16; (with_reducible refine (HCo.out _).mono ?_); rintro e w1 ⟨rfl, hb⟩; have HB1 := Lib.hid (((Below.refl w.heap.size w).alloc (Nat.le_refl _) (.cells #[.int .i64 op, .slice A ns cs, .int .i64 (mn : Int), .int .i64 mx, .slice D nk ck] 28)).trans (hb.mono (by simp))); have HBx := Lib.hid (show w1.heap[w.heap.size]? = some (.cells #[.int .i64 op, .slice A ns cs, .int .i64 (mn : Int), .int .i64 mx, .slice D nk ck] 28 (0, 0)) from (hb.block _ (by simp)).trans (heap_alloc_new w _)); clear hb)
  go_loopw [6, 16] (fun vb vi wr => ∃ (j pc' : Nat) (P' : Option Addr) (xs' : List IV), vi = .int .i64 (j : Int) ∧ j ≤ mn ∧ Hid (WrS B g wr P' (q + j * c) pc' xs' ∧ Wk B g (.slice P q pc) w wr ∧ Vk w (.slice P q pc) (.slice P' (q + j * c) pc') ∧ wr.heap[w.heap.size]? = some (.cells #[.int .i64 op, .slice A ns cs, .int .i64 (mn : Int), .int .i64 mx, .slice D nk ck] 28 (0, 0)) ∧ (Value.slice P' (q + j * c) pc').ownBlock ≠ some w.heap.size)) (fun _ vi _ => mn - (match vi with | .int _ j => j.toNat | _ => 0))
  case atStart =>
    refine ⟨0, pc, P, xs, rfl, Nat.zero_le _, Lib.hid ?_⟩
    rw [Nat.zero_mul, Nat.add_zero]
    exact ⟨HS.out.below HB1.out, Wk.of_below HB.out HB1.out, Vk.refl _ _, HBx.out, fun e => by have := (row_lt HS.out.row e).2; omega⟩
  case round =>
    obtain ⟨j, pc', P', xs', rfl, hj, H⟩ := hrel
    obtain ⟨y0, y1, y2, y3, y4, yf⟩ := box_facts H.out.2.2.2.1
    have g1 : wr.cell? ⟨g, 0, none⟩ = some (.slice P' (q + j * c) pc') := cell_of_row wr g 0 _ _ (0, 0) H.out.1.hg
    by_cases hlt : j < mn
    · have hjc : j * c + c ≤ mn * c := by have := Nat.mul_le_mul_right c hlt; rw [Nat.succ_mul] at this; exact this
      have HJ := Lib.hid hjc
      obtain ⟨z, hz⟩ : ∃ z, z = q + j * c := ⟨_, rfl⟩
      rw [← hz] at g1
      have HZ := Lib.hid hz
      have HC := Lib.hid (show Calls Try.prog 27 #[.pointer (some ⟨g, 0, none⟩), .slice D nk ck] wr (Added B g wr P' z pc' c) from by
        have hq := HQ.out.1
        rw [hz]
        exact HRo.out wr P' (q + j * c) pc' xs' H.out.2.1.1 H.out.1 (by omega))
      have n1 : (((z + c : Nat) : Int) == (z : Int)) = false := by simp; omega
      have n2 : ((z : Int) + (c : Int) == (z : Int)) = false := by simp; omega
      have h00 : (j : Int) < (mn : Int) := by omega
      clear hz hjc y0 y1 y2 y3 yf
      go_wp2_with (go_at_call 27; (with_reducible refine HC.out.mono ?_); rintro e w2 ⟨rfl, P2, pc2, xs2, k1, k2, k3⟩; have HV := Lib.hid (And.intro k1 (And.intro k2 k3)); have g2 : w2.cell? ⟨g, 0, none⟩ = some (.slice P2 (z + c) pc2) := cell_of_row w2 g 0 _ _ (0, 0) k1.hg; clear k1 k2 k3)
      have hz := HZ.out
      have hzq : q + (j + 1) * c = z + c := by rw [hz, Nat.succ_mul]; omega
      have hbl : w.heap.size < wr.heap.size := (Array.getElem?_eq_some_iff.1 H.out.2.2.2.1).1
      have hH := H.out
      rw [← hz] at hH
      refine ⟨⟨j + 1, pc2, P2, xs2, rfl, hlt, Lib.hid ?_⟩, by show mn - ((j : Int) + 1).toNat < mn - (j : Int).toNat; omega⟩
      rw [hzq]
      exact ⟨HV.out.1, hH.2.1.trans hH.2.2.1 HV.out.2.1, hH.2.2.1.trans hH.2.1.2.1 HV.out.2.2, (HV.out.2.1.2.2 _ hbl (by omega) hH.2.2.2.2).trans hH.2.2.2.1, HV.out.2.2 _ hbl hH.2.2.2.2⟩
    · obtain rfl : j = mn := by omega
      rcases HX.out with rfl | rfl
      · have n0 : ¬ (j : Int) < 0 := by omega
        have HCe := Lib.hid (show C = j * c by rw [HCC.out, if_neg n0, Nat.add_zero])
        clear HX HCo
        go_wp2_with fail
        go_loopw [7, 43] (fun va vi wx => va = .slice none 0 0 ∧ vi = .int .i64 0 ∧ wx = wr) (fun _ _ _ => 0)
        case atStart => exact ⟨rfl, rfl, rfl⟩
        case round =>
          obtain ⟨rfl, rfl, hx1⟩ := hrel
          subst hx1
          go_wp2_with fail
          go_loopw [57] (fun vi wy => vi = .int .i64 0 ∧ wy = wr) (fun _ _ => 0)
          case atStart => exact ⟨rfl, rfl⟩
          case round =>
            obtain ⟨rfl, hx2⟩ := hrel
            subst hx2
            go_wp2
            go_end0
            rw [HCe.out]
            exact ⟨rfl, P', pc', xs', H.out.1, H.out.2.1, H.out.2.2.1⟩
      · have HLo := Lib.hid (loop_any (v := .slice D nk ck) (c := c) H.out.1 (by have := HQ.out.2.2; rw [HCC.out, if_pos (by decide)] at this; omega) fun w1 P1 pc1 xs1 hb1 h1 => HRo.out w1 P1 _ pc1 xs1 (H.out.2.1.1.trans hb1) h1 (by have := HQ.out.2.2; rw [HCC.out, if_pos (by decide)] at this; omega))
        have HCe := Lib.hid (show C = j * c + (c + 2) by rw [HCC.out, if_pos (by decide)])
        clear HX HCo
        go_wp2_with (go_at_call 40; (with_reducible refine HLo.out.mono ?_); rintro e w2 ⟨rfl, P2, pc2, xs2, k1, k2, k3⟩; have HV := Lib.hid (And.intro k1 (And.intro k2 k3)); clear k1 k2 k3)
        first | go_end0 | go_ret | (refine bodyPost_ret (results_none rfl _ _ _) rfl ?_)
        rw [HCe.out]
        exact ⟨rfl, P2, pc2, xs2, by rw [← Nat.add_assoc]; exact HV.out.1, H.out.2.1.trans H.out.2.2.1 HV.out.2.1, by rw [← Nat.add_assoc]; exact H.out.2.2.1.trans H.out.2.1.2.1 HV.out.2.2⟩
set_option maxHeartbeats 4000000 in
theorem tree_cat {B g c : Nat} {w0 : World} {A D : Option Addr} {ns cs nk ck : Nat} {mn mx : Int} (hBw : B ≤ w0.heap.size)
    (HR : ∀ w P q pc xs, Below B w0 w → WrS B g w P q pc xs → q + c ≤ 20000 → Calls Try.prog 27 #[.pointer (some ⟨g, 0, none⟩), .slice D nk ck] w (Added B g w P q pc c)) : TreeC B g w0 (.agg #[.int .i64 4, .slice A ns cs, .int .i64 mn, .int .i64 mx, .slice D nk ck]) c := by
  intro w P q pc xs hb0 h hq
  have hgl := h.lt
  have hB : B ≤ w.heap.size := by have := h.hB; omega
  have HC := Lib.hid (HR (w.alloc (.cells #[.int .i64 4, .slice A ns cs, .int .i64 mn, .int .i64 mx, .slice D nk ck] 28)) P q pc xs (hb0.alloc (by have := hb0.size; omega) _) (h.below ((Below.refl _ _).alloc (Nat.le_refl _) _)) hq)
  have HB := Lib.hid hB
  clear h HR hB
  go_enter Try.func14, Try.ntmps14
  go_wp2_with (go_at_call 27; (with_reducible refine HC.out.mono ?_); rintro e w2 hv; have HV := Lib.hid hv; obtain ⟨rfl, -⟩ := hv)
  go_end0
  exact Added.behind HB.out ((Below.refl _ _).alloc (Nat.le_refl _) _) HV.out
set_option maxHeartbeats 4000000 in
theorem tree_rep {B g c : Nat} {w0 : World} {A D : Option Addr} {ns cs nk ck : Nat} {mn mx : Int} (hBw : B ≤ w0.heap.size)
    (HR : ∀ w P q pc xs, Below B w0 w → WrS B g w P q pc xs → q + c ≤ 20000 → Calls Try.prog 29 #[.pointer (some ⟨g, 0, none⟩), .agg #[.int .i64 6, .slice A ns cs, .int .i64 mn, .int .i64 mx, .slice D nk ck]] w (Added B g w P q pc c)) : TreeC B g w0 (.agg #[.int .i64 6, .slice A ns cs, .int .i64 mn, .int .i64 mx, .slice D nk ck]) c := by
  intro w P q pc xs hb0 h hq
  have hgl := h.lt
  have hB : B ≤ w.heap.size := by have := h.hB; omega
  have HC := Lib.hid (HR (w.alloc (.cells #[.int .i64 6, .slice A ns cs, .int .i64 mn, .int .i64 mx, .slice D nk ck] 28)) P q pc xs (hb0.alloc (by have := hb0.size; omega) _) (h.below ((Below.refl _ _).alloc (Nat.le_refl _) _)) hq)
  have HB := Lib.hid hB
  clear h HR hB
  go_enter Try.func14, Try.ntmps14
  go_wp2_with (go_at_call 29; (with_reducible refine HC.out.mono ?_); rintro e w2 hv; have HV := Lib.hid hv; obtain ⟨rfl, -⟩ := hv)
  go_end0
  exact Added.behind HB.out ((Below.refl _ _).alloc (Nat.le_refl _) _) HV.out
end Go.Proofs.Ytjpabeeokgfloaa
/- Lengths of small trees. -/
namespace Go.Proofs.Ytjpabeeokgfloaa
open Go Go.RowKit
set_option linter.unusedVariables false
set_option maxRecDepth 20000

/-- A tree's length. -/
def LenC (B : Nat) (w0 : World) (v : Value) (c : Nat) : Prop := ∀ w, Below B w0 w → B ≤ w.heap.size → Calls Try.prog 9 #[v] w fun e w' => e = .returned (.int .i64 (c : Int)) ∧ Below w.heap.size w w'
set_option maxHeartbeats 2000000 in
theorem len_char (B : Nat) (w0 : World) (A D : Option Addr) (ns cs nk ck : Nat) (mn mx : Int) : LenC B w0 (.agg #[.int .i64 1, .slice A ns cs, .int .i64 mn, .int .i64 mx, .slice D nk ck]) 1 := by
  intro w _ _
  go_enter Try.func9, Try.ntmps9
  go_wp2
  go_ret
  exact ⟨rfl, (Below.refl _ _).alloc (Nat.le_refl _) _⟩
set_option maxHeartbeats 4000000 in
theorem together_any {B : Nat} {w0 : World} {D : Option Addr} {nk ck : Nat} {K : Wood} (hk : KidsAt (fun b => b < B) w0 D nk K) (hnk : nk ≤ 1000) (cf : Nat → Nat) (hc : ∀ j, cf j ≤ cf (j + 1)) (hc0 : cf 0 = 0) (hcl : cf nk ≤ 20000)
    (HT : ∀ j, j < nk → ∀ v, NodeIn (fun b => b < B) w0 v (K.nth j) → LenC B w0 v (cf (j + 1) - cf j)) :
    ∀ w, Below B w0 w → B ≤ w.heap.size → Calls Try.prog 15 #[.slice D nk ck] w fun e w' => e = .returned (.int .i64 (cf nk : Int)) ∧ Below w.heap.size w w' := by
  intro w hb0 hBw
  have hmono : ∀ a b, a ≤ b → cf a ≤ cf b := fun a b hab => by
    induction hab with
    | refl => exact Nat.le_refl _
    | step _ ih => exact Nat.le_trans ih (hc _)
  have HK := Lib.hid hk
  have HTr := Lib.hid HT
  have HM := Lib.hid (And.intro hmono hc0)
  have HB := Lib.hid (And.intro hb0 hBw)
  clear hk HT hmono hc hc0 hb0 hBw
  go_enter Try.func15, Try.ntmps15
  go_wp2_with fail
  go_loopw [3, 8] (fun vs vi wr => ∃ (j S : Nat), vs = .int .i64 (S : Int) ∧ vi = .int .i64 (j : Int) ∧ j ≤ nk ∧ S ≤ 20000 ∧ Hid (S = cf j ∧ Below w.heap.size w wr)) (fun _ vi _ => nk - (match vi with | .int _ j => j.toNat | _ => 0))
  case atStart => exact ⟨0, 0, rfl, rfl, Nat.zero_le _, by omega, Lib.hid ⟨HM.out.2.symm, Below.refl _ _⟩⟩
  case round =>
    obtain ⟨j, S, rfl, rfl, hj, hS, H⟩ := hrel
    by_cases hlt : j < nk
    · have hbr : Below B w0 wr := HB.out.1.trans (H.out.2.mono HB.out.2)
      have hBr : B ≤ wr.heap.size := Nat.le_trans HB.out.2 H.out.2.size
      have hkw : KidsAt (fun b => b < B) wr D nk K := HK.out.keep hbr.size fun b hb _ => hbr.block b hb
      obtain ⟨b, o, op, s, mn, mx, k', A', D', ns, cs, nk', ck', rfl, hbl, e, c0, c1, c2, c3, c4, hin⟩ := hkw.kid hlt
      have hin0 : NodeIn (fun b => b < B) w0 (.agg #[.int .i64 op, .slice A' ns cs, .int .i64 mn, .int .i64 mx, .slice D' nk' ck']) (K.nth j) := by
        obtain ⟨b2, o2, op2, s2, mn2, mx2, k2, A2, D2, ns2, cs2, nk2, ck2, hD2, hbl2, e2, d0, d1, d2, d3, d4, hin2⟩ := HK.out.kid hlt
        injection hD2 with hD2
        injection hD2 with e3 e4
        subst e3; subst e4
        have hbB : b < B := by
          obtain ⟨b5, o5, hD5, hF5, _⟩ := HK.out.2 (by omega)
          injection hD5 with hD5
          injection hD5 with e5 _
          subst e5
          exact hF5
        have up : ∀ x, wr.cell? ⟨b, x, none⟩ = w0.cell? ⟨b, x, none⟩ := fun x => hbr.cell (p := ⟨b, x, none⟩) hbB
        rw [up] at c0 c1 c2 c3 c4
        rw [d0] at c0; rw [d1] at c1; rw [d2] at c2; rw [d3] at c3; rw [d4] at c4
        injection c0 with c0; injection c0 with _ c0
        injection c1 with c1; injection c1 with a1 a2 a3
        injection c2 with c2; injection c2 with _ c2
        injection c3 with c3; injection c3 with _ c3
        injection c4 with c4; injection c4 with b1 b2 b3
        subst c0; subst a1; subst a2; subst a3; subst c2; subst c3; subst b1; subst b2; subst b3
        exact hin2
      have hcm := HM.out.1 (j + 1) nk (by omega)
      have hcm2 := HM.out.1 j (j + 1) (by omega)
      obtain ⟨d, hd⟩ : ∃ d, d = cf (j + 1) - cf j := ⟨_, rfl⟩
      have HC := HTr.out j hlt _ hin0 (wr.alloc (.cells #[.int .i64 op, .slice A' ns cs, .int .i64 mn, .int .i64 mx, .slice D' nk' ck'] 28)) (hbr.alloc hBr _) (by simp; omega)
      rw [← hd] at HC
      have HCH := Lib.hid HC
      have hSd := H.out.1
      have HCM := Lib.hid (show S + d = cf (j + 1) by omega)
      have hd2 : S + d ≤ 20000 := by omega
      have hm1 : min ((S : Int) + (d : Int)) 1099511627776 = (S : Int) + (d : Int) := by omega
      have hw1 : IntKind.i64.wrap ((S : Int) + (d : Int)) = (S : Int) + (d : Int) := by rw [IntKind.wrap_i64]; omega
      clear hin hin0 hkw e hbr hcm hcm2 HC hd hSd hBr
      go_wp2_with (go_at_call 9; (with_reducible refine HCH.out.mono ?_); rintro e w2 ⟨rfl, hb⟩; have HV := Lib.hid hb; clear hb)
      exact ⟨⟨j + 1, S + d, by simp, rfl, hlt, hd2, Lib.hid ⟨HCM.out, (H.out.2.alloc H.out.2.size _).trans (HV.out.mono (Nat.le_trans H.out.2.size (by simp)))⟩⟩, by show nk - ((j : Int) + 1).toNat < nk - (j : Int).toNat; omega⟩
    · obtain rfl : j = nk := by omega
      go_wp2
      go_ret
      rw [← H.out.1]
      exact ⟨rfl, H.out.2⟩
theorem times31 (w : World) : Calls Try.prog 17 #[.int .i64 3, .int .i64 1] w fun e w' => e = .returned (.int .i64 3) ∧ w = w' := by
  go_enter Try.func17, Try.ntmps17
  go_wp2
  go_ret
  exact ⟨rfl, rfl⟩
theorem times02 (w : World) : Calls Try.prog 17 #[.int .i64 0, .int .i64 2] w fun e w' => e = .returned (.int .i64 0) ∧ w = w' := by
  go_enter Try.func17, Try.ntmps17
  go_wp2
  go_ret
  exact ⟨rfl, rfl⟩
theorem times01 (w : World) : Calls Try.prog 17 #[.int .i64 0, .int .i64 1] w fun e w' => e = .returned (.int .i64 0) ∧ w = w' := by
  go_enter Try.func17, Try.ntmps17
  go_wp2
  go_ret
  exact ⟨rfl, rfl⟩
set_option maxHeartbeats 2000000 in
theorem len_cat {B c : Nat} {w0 : World} {A D : Option Addr} {ns cs nk ck : Nat} {mn mx : Int} (hT : ∀ w, Below B w0 w → B ≤ w.heap.size → Calls Try.prog 15 #[.slice D nk ck] w fun e w' => e = .returned (.int .i64 (c : Int)) ∧ Below w.heap.size w w') : LenC B w0 (.agg #[.int .i64 4, .slice A ns cs, .int .i64 mn, .int .i64 mx, .slice D nk ck]) c := by
  intro w hb hBw
  have HT := Lib.hid (hT (w.alloc (.cells #[.int .i64 4, .slice A ns cs, .int .i64 mn, .int .i64 mx, .slice D nk ck] 28)) (hb.alloc hBw _) (by simp; omega))
  clear hT
  go_enter Try.func9, Try.ntmps9
  go_wp2_with (go_at_call 15; (with_reducible refine HT.out.mono ?_); rintro e w1 ⟨rfl, hb1⟩; have H1 := Lib.hid (((Below.refl w.heap.size w).alloc (Nat.le_refl _) (.cells #[.int .i64 4, .slice A ns cs, .int .i64 mn, .int .i64 mx, .slice D nk ck] 28)).trans (hb1.mono (by simp))); clear hb1)
  go_ret
  exact ⟨rfl, H1.out⟩
end Go.Proofs.Ytjpabeeokgfloaa
/- Lengths of what stands under a count. -/
namespace Go.Proofs.Ytjpabeeokgfloaa
open Go Go.RowKit
set_option linter.unusedVariables false
set_option maxRecDepth 20000

set_option maxHeartbeats 4000000 in
theorem len_three {B : Nat} {w0 : World} {A D : Option Addr} {ns cs nk ck : Nat} (hT : ∀ w, Below B w0 w → B ≤ w.heap.size → Calls Try.prog 15 #[.slice D nk ck] w fun e w' => e = .returned (.int .i64 1) ∧ Below w.heap.size w w') : LenC B w0 (.agg #[.int .i64 6, .slice A ns cs, .int .i64 3, .int .i64 3, .slice D nk ck]) 3 := by
  intro w hb hBw
  have HT := Lib.hid (hT (w.alloc (.cells #[.int .i64 6, .slice A ns cs, .int .i64 3, .int .i64 3, .slice D nk ck] 28)) (hb.alloc hBw _) (by simp; omega))
  have HC := Lib.hid fun w' => show Calls Try.prog 16 #[.agg #[.int .i64 6, .slice A ns cs, .int .i64 3, .int .i64 3, .slice D nk ck]] w' fun e w'' => e = .returned (.tuple #[.int .i64 3, .int .i64 0]) ∧ Below w'.heap.size w' w'' from counts_exact (A := A) (D := D) (ns := ns) (cs := cs) (nk := nk) (ck := ck) (op := 6) (mx := 3) 3 (by omega) (by decide) (by decide) w'
  have t1 := Lib.hid times31
  have t2 := Lib.hid times02
  have t3 := Lib.hid times01
  clear hT
  go_enter Try.func9, Try.ntmps9
  go_wp2_with (first
    | (go_at_call 15; (with_reducible refine HT.out.mono ?_); rintro e w1 ⟨rfl, hb1⟩; have H1 := Lib.hid (((Below.refl w.heap.size w).alloc (Nat.le_refl _) (.cells #[.int .i64 6, .slice A ns cs, .int .i64 3, .int .i64 3, .slice D nk ck] 28)).trans (hb1.mono (by simp))); have HBx := Lib.hid (show w1.heap[w.heap.size]? = some (.cells #[.int .i64 6, .slice A ns cs, .int .i64 3, .int .i64 3, .slice D nk ck] 28 (0, 0)) from (hb1.block _ (by simp)).trans (heap_alloc_new w _)); obtain ⟨y0, y1, y2, y3, y4, yf⟩ := box_facts HBx.out; clear hb1)
    | (go_at_call 16; (with_reducible refine (HC.out _).mono ?_); rintro e w2 ⟨rfl, hb2⟩; have H2 := Lib.hid hb2; have z3 := ((hb2.cell (p := ⟨w.heap.size, 3, none⟩) (Array.getElem?_eq_some_iff.1 HBx.out).1).trans y3); clear hb2)
    | (go_at_call 17; first | ((with_reducible refine (t1.out _).mono ?_); rintro e w3 ⟨rfl, rfl⟩) | ((with_reducible refine (t2.out _).mono ?_); rintro e w3 ⟨rfl, rfl⟩) | ((with_reducible refine (t3.out _).mono ?_); rintro e w3 ⟨rfl, rfl⟩)))
  all_goals
    go_ret
    exact ⟨rfl, H1.out.trans (H2.out.mono H1.out.size)⟩
set_option maxHeartbeats 4000000 in
theorem len_star {B : Nat} {w0 : World} {A D : Option Addr} {ns cs nk ck : Nat} (hT : ∀ w, Below B w0 w → B ≤ w.heap.size → Calls Try.prog 15 #[.slice D nk ck] w fun e w' => e = .returned (.int .i64 1) ∧ Below w.heap.size w w') : LenC B w0 (.agg #[.int .i64 6, .slice A ns cs, .int .i64 0, .int .i64 (-1), .slice D nk ck]) 3 := by
  intro w hb hBw
  have HT := Lib.hid (hT (w.alloc (.cells #[.int .i64 6, .slice A ns cs, .int .i64 0, .int .i64 (-1), .slice D nk ck] 28)) (hb.alloc hBw _) (by simp; omega))
  have HC := Lib.hid fun w' => show Calls Try.prog 16 #[.agg #[.int .i64 6, .slice A ns cs, .int .i64 0, .int .i64 (-1), .slice D nk ck]] w' fun e w'' => e = .returned (.tuple #[.int .i64 0, .int .i64 0]) ∧ Below w'.heap.size w' w'' from counts_exact (A := A) (D := D) (ns := ns) (cs := cs) (nk := nk) (ck := ck) (op := 6) (mx := (-1)) 0 (by omega) (by decide) (by decide) w'
  have t1 := Lib.hid times31
  have t2 := Lib.hid times02
  have t3 := Lib.hid times01
  clear hT
  go_enter Try.func9, Try.ntmps9
  go_wp2_with (first
    | (go_at_call 15; (with_reducible refine HT.out.mono ?_); rintro e w1 ⟨rfl, hb1⟩; have H1 := Lib.hid (((Below.refl w.heap.size w).alloc (Nat.le_refl _) (.cells #[.int .i64 6, .slice A ns cs, .int .i64 0, .int .i64 (-1), .slice D nk ck] 28)).trans (hb1.mono (by simp))); have HBx := Lib.hid (show w1.heap[w.heap.size]? = some (.cells #[.int .i64 6, .slice A ns cs, .int .i64 0, .int .i64 (-1), .slice D nk ck] 28 (0, 0)) from (hb1.block _ (by simp)).trans (heap_alloc_new w _)); obtain ⟨y0, y1, y2, y3, y4, yf⟩ := box_facts HBx.out; clear hb1)
    | (go_at_call 16; (with_reducible refine (HC.out _).mono ?_); rintro e w2 ⟨rfl, hb2⟩; have H2 := Lib.hid hb2; have z3 := ((hb2.cell (p := ⟨w.heap.size, 3, none⟩) (Array.getElem?_eq_some_iff.1 HBx.out).1).trans y3); clear hb2)
    | (go_at_call 17; first | ((with_reducible refine (t1.out _).mono ?_); rintro e w3 ⟨rfl, rfl⟩) | ((with_reducible refine (t2.out _).mono ?_); rintro e w3 ⟨rfl, rfl⟩) | ((with_reducible refine (t3.out _).mono ?_); rintro e w3 ⟨rfl, rfl⟩)))
  all_goals
    go_ret
    exact ⟨rfl, H1.out.trans (H2.out.mono H1.out.size)⟩
end Go.Proofs.Ytjpabeeokgfloaa
/- The example's tree, its program. -/
namespace Go.Proofs.Ytjpabeeokgfloaa
open Go Go.RowKit
set_option linter.unusedVariables false
set_option maxRecDepth 20000

theorem kid_char {B g : Nat} {w0 : World} (hBw : B ≤ w0.heap.size) {s : List (Int × Int)} (hs : s.length ≤ 1000) {v : Value} (h : NodeIn (fun b => b < B) w0 v (leaf 1 s)) : TreeC B g w0 v 1 ∧ LenC B w0 v 1 := by
  obtain ⟨op, s', mn, mx, k, A, D, ns, cs, nk, ck, e, rfl, hr, hk⟩ := h
  injection e with e1 e2 e3 e4 e5 _
  subst e1; subst e2
  exact ⟨tree_char hr (by have := hr.1.1; omega) hBw, len_char B w0 A D ns cs nk ck mn mx⟩
theorem kid_row {B g : Nat} {w0 : World} (hBw : B ≤ w0.heap.size) {s : List (Int × Int)} (hs : s.length ≤ 1000) {D : Option Addr} {nk ck : Nat} (hk : KidsAt (fun b => b < B) w0 D nk (leaf 1 s)) :
    (∀ w P q pc xs, Below B w0 w → WrS B g w P q pc xs → q + 1 ≤ 20000 → Calls Try.prog 27 #[.pointer (some ⟨g, 0, none⟩), .slice D nk ck] w (Added B g w P q pc 1)) ∧
    (∀ w, Below B w0 w → B ≤ w.heap.size → Calls Try.prog 15 #[.slice D nk ck] w fun e w' => e = .returned (.int .i64 1) ∧ Below w.heap.size w w') := by
  obtain rfl : nk = 1 := hk.1.symm
  have hcf : ∀ j, min j 1 ≤ min (j + 1) 1 := fun j => by omega
  refine ⟨row_adds hk (by omega) hBw (fun j => min j 1) hcf rfl (by decide) fun j hj v hv => ?_, together_any hk (by omega) (fun j => min j 1) hcf rfl (by decide) fun j hj v hv => ?_⟩
  · obtain rfl : j = 0 := by omega
    exact (kid_char hBw hs hv).1
  · obtain rfl : j = 0 := by omega
    exact (kid_char (g := g) hBw hs hv).2
theorem kid_rep {B g : Nat} {w0 : World} (hBw : B ≤ w0.heap.size) {s : List (Int × Int)} (hs : s.length ≤ 1000) {mn mx : Int} (hm : mn = 3 ∧ mx = 3 ∨ mn = 0 ∧ mx = -1) {v : Value} (h : NodeIn (fun b => b < B) w0 v (.cons 6 [] mn mx (leaf 1 s) .nil)) : TreeC B g w0 v 3 ∧ LenC B w0 v 3 := by
  obtain ⟨op, s', mn', mx', k, A, D, ns, cs, nk, ck, e, rfl, hr, hk⟩ := h
  injection e with e1 e2 e3 e4 e5 _
  subst e1; subst e2; subst e3; subst e4; subst e5
  have hrow := kid_row (g := g) hBw hs (ck := ck) hk
  rcases hm with ⟨rfl, rfl⟩ | ⟨rfl, rfl⟩
  · exact ⟨tree_rep hBw fun w P q pc xs hb h hq => often_any h (op := 6) (c := 1) 3 (by omega) (.inl rfl) (by omega) (by simpa using hq) fun w1 P1 q1 pc1 xs1 hb1 h1 hq1 => hrow.1 w1 P1 q1 pc1 xs1 (hb.trans hb1) h1 hq1, len_three hrow.2⟩
  · exact ⟨tree_rep hBw fun w P q pc xs hb h hq => often_any h (op := 6) (c := 1) 0 (by omega) (.inr rfl) (by omega) (by simpa using hq) fun w1 P1 q1 pc1 xs1 hb1 h1 hq1 => hrow.1 w1 P1 q1 pc1 xs1 (hb.trans hb1) h1 hq1, len_star hrow.2⟩
/-- The example's tree. -/
def exT : Wood := .cons 4 [] 0 0 (.cons 6 [] 3 3 (leaf 1 [(97, 97)]) (.cons 6 [] 0 (-1) (leaf 1 [(98, 98)]) .nil)) .nil
theorem ex_tree {B g : Nat} {w0 : World} (hBw : B ≤ w0.heap.size) {x : NV} (h : NodesIn (fun b => b < B) w0 [x] exT) : TreeC B g w0 x.val 6 ∧ LenC B w0 x.val 6 := by
  obtain ⟨op, s', mn', mx', k, A, D, ns, cs, nk, ck, e, hx, hr, hk⟩ := h.one
  rw [hx]
  unfold exT at e
  injection e with e1 e2 e3 e4 e5 _
  subst e1; subst e2; subst e3; subst e4; subst e5
  obtain rfl : nk = 2 := hk.1.symm
  have hcf : ∀ j, min j 2 * 3 ≤ min (j + 1) 2 * 3 := fun j => by omega
  have kids : ∀ j, j < 2 → ∀ v, NodeIn (fun b => b < B) w0 v ((Wood.cons 6 [] 3 3 (leaf 1 [(97, 97)]) (.cons 6 [] 0 (-1) (leaf 1 [(98, 98)]) .nil)).nth j) → TreeC B g w0 v 3 ∧ LenC B w0 v 3 := fun j hj v hv => by
    rcases (show j = 0 ∨ j = 1 by omega) with rfl | rfl
    · exact kid_rep hBw (by decide) (.inl ⟨rfl, rfl⟩) hv
    · exact kid_rep hBw (by decide) (.inr ⟨rfl, rfl⟩) hv
  refine ⟨tree_cat hBw (row_adds hk (by omega) hBw (fun j => min j 2 * 3) hcf rfl (by decide) fun j hj v hv => ?_), len_cat (together_any hk (by omega) (fun j => min j 2 * 3) hcf rfl (by decide) fun j hj v hv => ?_)⟩
  · have := (kids j hj v hv).1
    rwa [show min (j + 1) 2 * 3 - min j 2 * 3 = 3 by omega]
  · have := (kids j hj v hv).2
    rwa [show min (j + 1) 2 * 3 - min j 2 * 3 = 3 by omega]
theorem NodeAl {w : World} {g : Nat} {cs : Array Value} {ty : TypeId} {fr : Nat × Nat} (h : w.heap[g]? = some (.cells cs ty fr)) (o : Obj) : (w.alloc o).heap[g]? = some (.cells cs ty fr) := hp_old h
/-- The writer as it was made. -/
theorem make_done {w w1 w2 : World} {x : NV} (h1 : Below w.heap.size w w1) (hx : w1.heap[w.heap.size]? = some (.cells #[.int .i64 x.op, .slice x.A x.ns x.cs, .int .i64 x.mn, .int .i64 x.mx, .slice x.D x.nk x.ck] 28 (0, 0))) (hown : w2.ownsRow w.heap.size 37 4 (.slice (some ⟨w1.heap.size, 0, none⟩) 0 7) 0 []) (hg : w1.grownBy w2 none) :
    Below w.heap.size w (w2.alloc (.cells #[.slice (some ⟨w1.heap.size, 0, none⟩) 0 7] 49)) ∧ WrS w.heap.size w2.heap.size (w2.alloc (.cells #[.slice (some ⟨w1.heap.size, 0, none⟩) 0 7] 49)) (some ⟨w1.heap.size, 0, none⟩) 0 7 [] ∧
    ((∀ o, (w2.alloc o).cell? ⟨w.heap.size, 0, none⟩ = some (.int .i64 x.op)) ∧ (∀ o, (w2.alloc o).cell? ⟨w.heap.size, 1, none⟩ = some (.slice x.A x.ns x.cs)) ∧ (∀ o, (w2.alloc o).cell? ⟨w.heap.size, 2, none⟩ = some (.int .i64 x.mn)) ∧ (∀ o, (w2.alloc o).cell? ⟨w.heap.size, 3, none⟩ = some (.int .i64 x.mx)) ∧ (∀ o, (w2.alloc o).cell? ⟨w.heap.size, 4, none⟩ = some (.slice x.D x.nk x.ck))) := by
  have hl := row_lt hown (k := w1.heap.size) rfl
  have hx2 : w2.heap[w.heap.size]? = some (.cells #[.int .i64 x.op, .slice x.A x.ns x.cs, .int .i64 x.mn, .int .i64 x.mx, .slice x.D x.nk x.ck] 28 (0, 0)) := (hg.block _ (Array.getElem?_eq_some_iff.1 hx).1 (by simp)).trans hx
  have hb2 : Below w.heap.size w w2 := h1.grown hg h1.size (by intro k hk; cases hk)
  have F := fun o => box_facts (NodeAl hx2 o)
  refine ⟨hb2.alloc hb2.size _, ⟨heap_alloc_new w2 _, hb2.size, ownN_old hown, fun e => ?_, fun x hx => by cases hx⟩, fun o => (F o).1, fun o => (F o).2.1, fun o => (F o).2.2.1, fun o => (F o).2.2.2.1, fun o => (F o).2.2.2.2.1⟩
  have e : some w1.heap.size = some w2.heap.size := e
  injection e with e
  omega
set_option maxHeartbeats 4000000 in
theorem ex_compile {w : World} {x : NV} (h : NodesIn (fun b => b < w.heap.size) w [x] exT) : Calls Try.prog 8 #[.agg #[.int .i64 x.op, .slice x.A x.ns x.cs, .int .i64 x.mn, .int .i64 x.mx, .slice x.D x.nk x.ck]] w fun e w' => ∃ P pc, e = .returned (.tuple #[.slice P 7 pc, .int .i64 0]) ∧ Below w.heap.size w w' := by
  have HL := Lib.hid (show ∀ w1, Below w.heap.size w w1 → w.heap.size ≤ w1.heap.size → Calls Try.prog 9 #[.agg #[.int .i64 x.op, .slice x.A x.ns x.cs, .int .i64 x.mn, .int .i64 x.mx, .slice x.D x.nk x.ck]] w1 fun e w' => e = .returned (.int .i64 6) ∧ Below w1.heap.size w1 w' from (ex_tree (g := 0) (Nat.le_refl _) h).2)
  have HT := Lib.hid (show ∀ g w1 P q pc xs, Below w.heap.size w w1 → WrS w.heap.size g w1 P q pc xs → q + 6 ≤ 20000 → Calls Try.prog 14 #[.pointer (some ⟨g, 0, none⟩), .agg #[.int .i64 x.op, .slice x.A x.ns x.cs, .int .i64 x.mn, .int .i64 x.mx, .slice x.D x.nk x.ck]] w1 (Added w.heap.size g w1 P q pc 6) from fun g => (ex_tree (g := g) (Nat.le_refl _) h).1)
  obtain ⟨i0, hi, hz0, hz1, hz2⟩ := info_parts info_inst
  clear h
  go_enter Try.func8, Try.ntmps8
  go_wp2_with (first
    | (go_at_call 9; (with_reducible refine (HL.out _ ((Below.refl _ _).alloc (Nat.le_refl _) _) (by simp)).mono ?_); rintro e w1 ⟨rfl, hb1⟩; have HX := Lib.hid (show w1.heap[w.heap.size]? = some (.cells #[.int .i64 x.op, .slice x.A x.ns x.cs, .int .i64 x.mn, .int .i64 x.mx, .slice x.D x.nk x.ck] 28 (0, 0)) from (hb1.block _ (by simp)).trans (heap_alloc_new w _)); have H1 := Lib.hid (((Below.refl w.heap.size w).alloc (Nat.le_refl _) (.cells #[.int .i64 x.op, .slice x.A x.ns x.cs, .int .i64 x.mn, .int .i64 x.mx, .slice x.D x.nk x.ck] 28)).trans (hb1.mono (by simp))); clear hb1)
    | (at_make; refine wpList_make_own _ rfl _ _ 22 rfl w.heap.size 37 i0 _ 4 Try.underlying22 hi hz0 hz1 .i64 .i64 7 7 rfl rfl rfl (by rw [hz2]; omega) (by unfold maxLen; omega) H1.out.size ?_; intro w2 hown hgrow; have H2 := Lib.hid (make_done H1.out HX.out hown hgrow); obtain ⟨y0, y1, y2, y3, y4⟩ := H2.out.2.2; clear hown hgrow)
    | (go_at_call 14; (with_reducible refine (HT.out _ _ _ _ _ _ H2.out.1 H2.out.2.1 (by omega)).mono ?_); rintro e w4 ⟨rfl, P', pc', xs', k1, k2, k3⟩; have HS := Lib.hid k1; have HB := Lib.hid (H2.out.1.trans k2.1); have g1 : w4.cell? ⟨w2.heap.size, 0, none⟩ = some (.slice P' (0 + 6) pc') := cell_of_row w4 _ 0 _ _ (0, 0) k1.hg; obtain ⟨P5, pc5, w5, ha, _, _, _, _, _, _, _, hk5⟩ := (HS.out.below ((Below.refl w4.heap.size w4).alloc (Nat.le_refl _) (.cells #[.int .i64 0, .slice none 0 0, .int .i64 0, .int .i64 0] 37))).push (x := ⟨⟨0, [], 0, 0⟩, none, 0, 0⟩) (d := w4.heap.size) (heap_alloc_new w4 _) (rowF_nil _ _) (by omega); have HA := Lib.hid (show (Builtin.append_ #[22, 22] 22 #[.slice P' 6 pc', .slice (some ⟨w4.heap.size, 0, none⟩) 1 1]).run Try.prog (w4.alloc (.cells #[.int .i64 0, .slice none 0 0, .int .i64 0, .int .i64 0] 37)) = .ok (.slice P5 7 pc5) w5 from ha); have HK5 := Lib.hid ((HB.out.alloc HB.out.size (.cells #[.int .i64 0, .slice none 0 0, .int .i64 0, .int .i64 0] 37)).trans hk5); clear k1 k2 k3 ha hk5)
    | (at_builtin; refine wpList_append_run rfl _ _ 22 rfl rfl _ _ _ _ rfl rfl HA.out ?_))
  go_ret2
  exact ⟨P5, pc5, rfl, HK5.out⟩
end Go.Proofs.Ytjpabeeokgfloaa
