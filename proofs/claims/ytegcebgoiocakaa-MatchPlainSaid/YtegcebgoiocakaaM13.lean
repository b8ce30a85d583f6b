/- The writer's put. -/
import Derived.Test.YtegcebgoiocakaaM06
import Derived.Deep.RegionLaw
import Derived.Lib.SliceRun
namespace Go.Proofs.Ytegcebgoiocakaa
open Go Go.RowKit
set_option linter.unusedVariables false
set_option maxRecDepth 20000

/-- What is behind put's append. -/
def PutR (B g : Nat) (P : Option Addr) (q pc : Nat) (xs : List IV) (x : IV) (w : World) (v' : Value) (w' : World) : Prop :=
  ∃ P' pc', v' = .slice P' (q + 1) pc' ∧ w'.cell? ⟨g, 0, none⟩ = some (.slice P q pc) ∧ w'.frozen? ⟨g, 0, none⟩ = false ∧
    WrS B g (w'.setCell ⟨g, 0, none⟩ (.slice P' (q + 1) pc')) P' (q + 1) pc' (xs ++ [x]) ∧ Wk B g (.slice P q pc) w (w'.setCell ⟨g, 0, none⟩ (.slice P' (q + 1) pc')) ∧ Vk w (.slice P q pc) (.slice P' (q + 1) pc')
theorem put_ex {B g q pc : Nat} {w X : World} {P : Option Addr} {xs : List IV} {x : IV} (h : WrS B g w P q pc xs) (hx : RowF (FW B g (.slice P q pc)) w x.A x.n x.i.set) (hX : Below w.heap.size w X) {d : Nat} (hd : X.heap[d]? = some (.cells #[.int .i64 x.i.op, .slice x.A x.n x.c, .int .i64 x.i.x, .int .i64 x.i.y] 45 (0, 0))) (hq : q ≤ 50000) :
    ∃ v' w', (Builtin.append_ #[23, 23] 23 #[.slice P q pc, .slice (some ⟨d, 0, none⟩) 1 1]).run Try.prog X = .ok v' w' ∧ PutR B g P q pc xs x w v' w' := by
  obtain ⟨P', pc', w', h1, _, _, h2, h3, h4, h5, h6⟩ := (h.below hX).push hd (hx.below hX) (by omega)
  have hBw : B ≤ w.heap.size := by have := h.hB; have := h.lt; omega
  exact ⟨_, w', h1, P', pc', rfl, h2, h3, h4, (Wk.of_below hBw hX).trans (Vk.refl _ _) h5, fun b hb hn => h6.1 b (Nat.lt_of_lt_of_le hb hX.size) hn⟩

set_option maxHeartbeats 4000000 in
theorem put_any {B g q pc : Nat} {w : World} {P : Option Addr} {xs : List IV} (h : WrS B g w P q pc xs) (op x0 y : Int) (A : Option Addr) (n c : Nat) (set : List (Int × Int)) (hx : RowF (FW B g (.slice P q pc)) w A n set) (hq : q ≤ 50000) :
    Calls Try.prog 64 #[.pointer (some ⟨g, 0, none⟩), .agg #[.int .i64 op, .slice A n c, .int .i64 x0, .int .i64 y]] w fun e w' => e = .returned (.tuple #[]) ∧ ∃ P' pc', WrS B g w' P' (q + 1) pc' (xs ++ [⟨⟨op, set, (q : Int) + 1, y⟩, A, n, c⟩]) ∧ Wk B g (.slice P q pc) w w' ∧ Vk w (.slice P q pc) (.slice P' (q + 1) pc') := by
  have hgl := h.lt
  have HS := Lib.hid h
  have HX := Lib.hid hx
  have hw : IntKind.i64.wrap ((q : Int) + 1) = (q : Int) + 1 := by rw [IntKind.wrap_i64]; omega
  have g0 : ∀ o, (w.alloc o).cell? ⟨g, 0, none⟩ = some (.slice P q pc) := fun o => cell_of_row _ g 0 _ _ (0, 0) ((Below.heap_alloc w o g hgl).trans h.hg)
  clear h hx
  go_enter Try.func64, Try.ntmps64
  go_wp2_with fail
  have HPu : Hid (∀ (X : World) (d : Nat), Below w.heap.size w X → X.heap[d]? = some (.cells #[.int .i64 op, .slice A n c, .int .i64 ((q : Int) + 1), .int .i64 y] 45 (0, 0)) → ∃ v' w', (Builtin.append_ #[23, 23] 23 #[.slice P q pc, .slice (some ⟨d, 0, none⟩) 1 1]).run Try.prog X = .ok v' w' ∧ PutR B g P q pc xs ⟨⟨op, set, (q : Int) + 1, y⟩, A, n, c⟩ w v' w') := Lib.hid fun X d hX hd => put_ex HS.out HX.out hX hd hq
  go_region_law (first | (refine step_append_ex rfl (.tmp 15) (.tmp 17) 23 rfl rfl _ _ (by rfl) (by rfl) _ (HPu.out _ _ (by first | exact ((Below.refl _ _).alloc (Nat.le_refl _) _).alloc (by simp) _ | exact ((((Below.refl _ _).alloc (Nat.le_refl _) _).drew).alloc (by simp) _) | exact (((Below.refl _ _).alloc (Nat.le_refl _) _).alloc (by simp) _).drew) (by first | exact hp_new (by simp) | exact hp_drew (hp_new (by simp)))) ?_; intro v' w' hR; obtain ⟨P', pc', rfl, hc1, hc2, hR1, hR2, hR3⟩ := hR))
  all_goals
    go_end0
    exact ⟨rfl, P', pc', hR1, hR2, hR3⟩
end Go.Proofs.Ytegcebgoiocakaa
/- The writer's split and jump, and what their answers do. -/
namespace Go.Proofs.Ytegcebgoiocakaa
open Go Go.RowKit
set_option linter.unusedVariables false
set_option maxRecDepth 20000

/-- A closure's boxes: the writer and a place. -/
def HereAt (w : World) (bx ix g i : Nat) : Prop := w.heap[bx]? = some (.cells #[.pointer (some ⟨g, 0, none⟩)] 113 (0, 0)) ∧ w.heap[ix]? = some (.cells #[.int .i64 (i : Int)] 3 (0, 0))
theorem HereAt.lt {w : World} {bx ix g i : Nat} (h : HereAt w bx ix g i) : bx < w.heap.size ∧ ix < w.heap.size := ⟨(Array.getElem?_eq_some_iff.1 h.1).1, (Array.getElem?_eq_some_iff.1 h.2).1⟩
set_option maxHeartbeats 4000000 in
theorem split_any {B g q pc : Nat} {w : World} {P : Option Addr} {xs : List IV} (h : WrS B g w P q pc xs) (hq : q ≤ 50000) :
    Calls Try.prog 90 #[.pointer (some ⟨g, 0, none⟩)] w fun e w' => ∃ bx ix, e = .returned (.func (Fn.func 101) #[] #[.pointer (some ⟨bx, 0, none⟩), .pointer (some ⟨ix, 0, none⟩)]) ∧ HereAt w' bx ix g q ∧ w.heap.size ≤ bx ∧ w.heap.size ≤ ix ∧ ∃ P' pc', WrS B g w' P' (q + 1) pc' (xs ++ [⟨⟨2, [], (q : Int) + 1, 0⟩, none, 0, 0⟩]) ∧ Wk B g (.slice P q pc) w w' ∧ Vk w (.slice P q pc) (.slice P' (q + 1) pc') ∧ (Value.slice P' (q + 1) pc').ownBlock ≠ some bx ∧ (Value.slice P' (q + 1) pc').ownBlock ≠ some ix := by
  have hgl := h.lt
  have HS := Lib.hid h
  have hw : IntKind.i64.wrap ((q : Int) + 1) = (q : Int) + 1 := by rw [IntKind.wrap_i64]; omega
  have g0 : ∀ o, (w.alloc o).cell? ⟨g, 0, none⟩ = some (.slice P q pc) := fun o => cell_of_row _ g 0 _ _ (0, 0) ((Below.heap_alloc w o g hgl).trans h.hg)
  clear h
  go_enter Try.func90, Try.ntmps90
  have HX : Hid (Below w.heap.size w ((w.alloc (.cells #[.pointer (some ⟨g, 0, none⟩)] 113)).alloc (.cells #[.int .i64 (q : Int)] 3))) := Lib.hid (((Below.refl _ _).alloc (Nat.le_refl _) _).alloc (by simp) _)
  have HQ := Lib.hid (put_any (HS.out.below HX.out) 2 0 0 none 0 0 [] (rowF_nil _ _) hq)
  go_wp2_with (go_at_call 64; (with_reducible refine HQ.out.mono ?_); rintro e w1 ⟨rfl, P', pc', hR1, hR2, hR3⟩; have HR := Lib.hid (And.intro hR1 (And.intro hR2 hR3)); clear hR1 hR2 hR3)
  go_ret
  have hb := HX.out
  have hbx : ∀ b, (b = w.heap.size ∨ b = w.heap.size + 1) → w1.heap[b]? = ((w.alloc (.cells #[.pointer (some ⟨g, 0, none⟩)] 113)).alloc (.cells #[.int .i64 (q : Int)] 3)).heap[b]? := fun b hb => HR.out.2.1.2.2 b (by simp; omega) (by omega) fun e => by have := (row_lt HS.out.row e).2; omega
  have hBw : B ≤ w.heap.size := by have := HS.out.hB; omega
  refine ⟨w.heap.size, w.heap.size + 1, rfl, ⟨(hbx _ (.inl rfl)).trans (hp_old (hp_new rfl)), (hbx _ (.inr rfl)).trans (hp_new (by simp))⟩, Nat.le_refl _, by omega, P', pc', HR.out.1, (Wk.of_below hBw hb).trans (Vk.refl _ _) HR.out.2.1, (fun b hb' hn => HR.out.2.2 b (Nat.lt_of_lt_of_le hb' hb.size) hn), HR.out.2.2 _ (by simp; omega) (fun e => by have := (row_lt HS.out.row e).2; omega), HR.out.2.2 _ (by simp) (fun e => by have := (row_lt HS.out.row e).2; omega)⟩
set_option maxHeartbeats 4000000 in
theorem jump_any {B g q pc : Nat} {w : World} {P : Option Addr} {xs : List IV} (h : WrS B g w P q pc xs) (hq : q ≤ 50000) :
    Calls Try.prog 91 #[.pointer (some ⟨g, 0, none⟩)] w fun e w' => ∃ bx ix, e = .returned (.func (Fn.func 102) #[] #[.pointer (some ⟨bx, 0, none⟩), .pointer (some ⟨ix, 0, none⟩)]) ∧ HereAt w' bx ix g q ∧ w.heap.size ≤ bx ∧ w.heap.size ≤ ix ∧ ∃ P' pc', WrS B g w' P' (q + 1) pc' (xs ++ [⟨⟨2, [], (q : Int) + 1, 0⟩, none, 0, 0⟩]) ∧ Wk B g (.slice P q pc) w w' ∧ Vk w (.slice P q pc) (.slice P' (q + 1) pc') ∧ (Value.slice P' (q + 1) pc').ownBlock ≠ some bx ∧ (Value.slice P' (q + 1) pc').ownBlock ≠ some ix := by
  have hgl := h.lt
  have HS := Lib.hid h
  have hw : IntKind.i64.wrap ((q : Int) + 1) = (q : Int) + 1 := by rw [IntKind.wrap_i64]; omega
  have g0 : ∀ o, (w.alloc o).cell? ⟨g, 0, none⟩ = some (.slice P q pc) := fun o => cell_of_row _ g 0 _ _ (0, 0) ((Below.heap_alloc w o g hgl).trans h.hg)
  clear h
  go_enter Try.func91, Try.ntmps91
  have HX : Hid (Below w.heap.size w ((w.alloc (.cells #[.pointer (some ⟨g, 0, none⟩)] 113)).alloc (.cells #[.int .i64 (q : Int)] 3))) := Lib.hid (((Below.refl _ _).alloc (Nat.le_refl _) _).alloc (by simp) _)
  have HQ := Lib.hid (put_any (HS.out.below HX.out) 2 0 0 none 0 0 [] (rowF_nil _ _) hq)
  go_wp2_with (go_at_call 64; (with_reducible refine HQ.out.mono ?_); rintro e w1 ⟨rfl, P', pc', hR1, hR2, hR3⟩; have HR := Lib.hid (And.intro hR1 (And.intro hR2 hR3)); clear hR1 hR2 hR3)
  go_ret
  have hb := HX.out
  have hbx : ∀ b, (b = w.heap.size ∨ b = w.heap.size + 1) → w1.heap[b]? = ((w.alloc (.cells #[.pointer (some ⟨g, 0, none⟩)] 113)).alloc (.cells #[.int .i64 (q : Int)] 3)).heap[b]? := fun b hb => HR.out.2.1.2.2 b (by simp; omega) (by omega) fun e => by have := (row_lt HS.out.row e).2; omega
  have hBw : B ≤ w.heap.size := by have := HS.out.hB; omega
  refine ⟨w.heap.size, w.heap.size + 1, rfl, ⟨(hbx _ (.inl rfl)).trans (hp_old (hp_new rfl)), (hbx _ (.inr rfl)).trans (hp_new (by simp))⟩, Nat.le_refl _, by omega, P', pc', HR.out.1, (Wk.of_below hBw hb).trans (Vk.refl _ _) HR.out.2.1, (fun b hb' hn => HR.out.2.2 b (Nat.lt_of_lt_of_le hb' hb.size) hn), HR.out.2.2 _ (by simp; omega) (fun e => by have := (row_lt HS.out.row e).2; omega), HR.out.2.2 _ (by simp) (fun e => by have := (row_lt HS.out.row e).2; omega)⟩
/-- An instruction's ends turned. -/
def setIV (f : InstL → InstL) (i : Nat) (xs : List IV) : List IV := xs.modify i fun v => { v with i := f v.i }
theorem WrS.at {B g q pc : Nat} {w : World} {P : Option Addr} {xs : List IV} (h : WrS B g w P q pc xs) {i : Nat} (hi : i < q) : ∃ b x, P = some ⟨b, 0, none⟩ ∧ B ≤ b ∧ b < w.heap.size ∧ b ≠ g ∧ xs[i]? = some x ∧ (∀ k v, x.cells[k]? = some v → w.cell? ⟨b, i * 4 + k, none⟩ = some v) ∧ (∀ j, w.frozen? ⟨b, j, none⟩ = false) := by
  have hl := h.len
  obtain ⟨x, hx⟩ : ∃ x, xs[i]? = some x := ⟨_, List.getElem?_eq_getElem (by omega)⟩
  rcases h.row.2 with ⟨e, h0⟩ | ⟨b, cap, cur, e, hB, hb, hnc, hcm, hcs, ht⟩
  · omega
  · injection e with e1 _ e3
    subst e1; subst e3
    refine ⟨b, x, rfl, hB, (Array.getElem?_eq_some_iff.1 hb).1, fun e => h.ne (by rw [e]; rfl), hx, fun k v hv => ?_, fun j => by simp [World.frozen?, hb]⟩
    have hk : k < 4 := (List.getElem?_eq_some_iff.1 hv).1
    have := cellsI_at xs i x hx k v hv
    rw [cell_of_row w b (i * 4 + k) cur 45 (0, 0) hb, ← this, ← ht, List.getElem?_take_of_lt (by omega), Array.getElem?_toList]
theorem cellsI_set (f : InstL → InstL) (k : Nat) (hk : k < 4) (u : Value) : ∀ (xs : List IV) (i : Nat), (∀ x, xs[i]? = some x → (IV.cells { x with i := f x.i }) = x.cells.set k u) → i < xs.length → (cellsI xs).set (i * 4 + k) u = cellsI (setIV f i xs)
  | [], i, _, h => by simp at h
  | p :: s, 0, h, _ => by
    have h1 := h p rfl
    show (p.cells ++ cellsI s).set (0 * 4 + k) u = IV.cells { p with i := f p.i } ++ cellsI s
    rw [h1, Nat.zero_mul, Nat.zero_add, List.set_append_left _ _ (show k < p.cells.length from hk)]
  | p :: s, i + 1, h, hl => by
    have ih := cellsI_set f k hk u s i (fun x hx => h x (by simpa using hx)) (by simpa using hl)
    show (p.cells ++ cellsI s).set ((i + 1) * 4 + k) u = p.cells ++ cellsI (setIV f i s)
    rw [← ih, List.set_append_right _ _ (by show 4 ≤ _; omega), show (i + 1) * 4 + k - p.cells.length = i * 4 + k by show _ - 4 = _; omega]
theorem setIV_mem (f : InstL → InstL) (i : Nat) (xs : List IV) (x : IV) (h : x ∈ setIV f i xs) : ∃ y ∈ xs, x = y ∨ x = { y with i := f y.i } := by
  obtain ⟨j, hj⟩ := List.getElem?_of_mem h
  unfold setIV at hj
  rw [List.getElem?_modify] at hj
  obtain ⟨y, hy, e⟩ := Option.map_eq_some_iff.1 hj
  refine ⟨y, List.mem_of_getElem? hy, ?_⟩
  by_cases hij : i = j
  · right; rw [if_pos hij] at e; exact e.symm
  · left; rw [if_neg hij] at e; exact e.symm
/-- A store into an instruction's ends. -/
theorem WrS.turn {B g q pc b i k : Nat} {w : World} {xs : List IV} (h : WrS B g w (some ⟨b, 0, none⟩) q pc xs) (hB : B ≤ b) (hbl : b < w.heap.size) (hbg : b ≠ g) (f : InstL → InstL) (hk : k < 4) (u : Value) (hi : i < q) (hf : ∀ x : IV, (IV.cells { x with i := f x.i }) = x.cells.set k u) (hs : ∀ v, (f v).set = v.set) :
    WrS B g (w.setCell ⟨b, i * 4 + k, none⟩ u) (some ⟨b, 0, none⟩) q pc (setIV f i xs) ∧ Wk B g (.slice (some ⟨b, 0, none⟩) q pc) w (w.setCell ⟨b, i * 4 + k, none⟩ u) := by
  have hst := (h.row.stored (i * 4 + k) u).1
  rw [cellsI_set f k hk u xs i (fun x _ => hf x) (by rw [h.len]; exact hi)] at hst
  have hoth : ∀ c, c ≠ b → (w.setCell ⟨b, i * 4 + k, none⟩ u).heap[c]? = w.heap[c]? := fun c hc => Below.heap_setCell _ _ _ _ hc
  have hown : (Value.slice (some ⟨b, 0, none⟩) q pc).ownBlock = some b := rfl
  have hsz : (w.setCell ⟨b, i * 4 + k, none⟩ u).heap.size = w.heap.size := by simp
  have mv : ∀ c, FW B g (.slice (some ⟨b, 0, none⟩) q pc) c → c < w.heap.size → FW B g (.slice (some ⟨b, 0, none⟩) q pc) c ∧ (w.setCell ⟨b, i * 4 + k, none⟩ u).heap[c]? = w.heap[c]? := fun c hF _ => ⟨hF, hoth c fun e => hF.2.2 (by rw [hown, e])⟩
  refine ⟨⟨(hoth g (Ne.symm hbg)).trans h.hg, h.hB, hst, h.ne, fun x hx => ?_⟩, (Below.refl _ _).setCell (p := ⟨b, i * 4 + k, none⟩) hB _, by omega, fun c _ _ hn => hoth c fun e => hn (by rw [hown, e])⟩
  obtain ⟨y, hy, rfl | rfl⟩ := setIV_mem f i xs x hx
  · exact (h.sets _ hy).move (by omega) mv
  · have := (h.sets y hy).move (by omega) mv
    show RowF _ _ y.A y.n (f y.i).set
    rw [hs]
    exact this
theorem WrS.drew {B g q pc : Nat} {w : World} {P : Option Addr} {xs : List IV} (h : WrS B g w P q pc xs) : WrS B g w.drew P q pc xs := ⟨h.hg, h.hB, h.row, h.ne, fun x hx => (h.sets x hx).move (Nat.le_refl _) fun b hF _ => ⟨hF, rfl⟩⟩
theorem Wk.drew {B g : Nat} {V : Value} {w w' : World} (h : Wk B g V w w') : Wk B g V w w'.drew := ⟨h.1.drew, h.2.1, h.2.2⟩
set_option maxHeartbeats 4000000 in
theorem here_any {B g q pc bx ix i : Nat} {w : World} {P : Option Addr} {xs : List IV} (h : WrS B g w P q pc xs) (hh : HereAt w bx ix g i) (hi : i < q) (hq : q ≤ 50000) :
    Calls Try.prog 101 #[.pointer (some ⟨bx, 0, none⟩), .pointer (some ⟨ix, 0, none⟩)] w fun e w' => e = .returned (.tuple #[]) ∧ WrS B g w' P q pc (setIV (fun v => { v with y := (q : Int) }) i xs) ∧ Wk B g (.slice P q pc) w w' := by
  obtain ⟨b, x, rfl, hB, hbl, hbg, hx, hc, hf⟩ := h.at hi
  have HS := Lib.hid h
  have HH := Lib.hid (And.intro hx hbl)
  have c0 : w.cell? ⟨bx, 0, none⟩ = some (.pointer (some ⟨g, 0, none⟩)) := cell_of_row w bx 0 _ _ (0, 0) hh.1
  have c1 : w.cell? ⟨ix, 0, none⟩ = some (.int .i64 (i : Int)) := cell_of_row w ix 0 _ _ (0, 0) hh.2
  have c2 : w.cell? ⟨g, 0, none⟩ = some (.slice (some ⟨b, 0, none⟩) q pc) := cell_of_row w g 0 _ _ (0, 0) h.hg
  have c3 := hc 3 _ rfl
  have hi1 : (0 : Int) ≤ (i : Int) := by omega
  have hi2 : (i : Int) < (q : Int) := by omega
  have f3 := hf (i * 4 + 3)
  clear h hh hc hx hf
  go_enter Try.func101, Try.ntmps101
  go_wp2_with fail
  go_region
  go_end0
  obtain ⟨k1, k2⟩ := HS.out.turn hB hbl hbg (fun v => { v with y := (q : Int) }) (k := 3) (by omega) (.int .i64 (q : Int)) hi (fun x => rfl) (fun v => rfl)
  exact ⟨rfl, k1.drew, k2.drew⟩
end Go.Proofs.Ytegcebgoiocakaa
/- The writer's trees: how many instructions are put. -/
namespace Go.Proofs.Ytegcebgoiocakaa
open Go Go.RowKit
set_option linter.unusedVariables false
set_option maxRecDepth 20000

theorem app_G2 {w : World} {B : Nat} {P : Option Addr} {q pc : Nat} {xs : List (Int × Int)} (h : w.ownsRow B 103 2 (.slice P q pc) q (cellsG xs)) {A : Option Addr} {n c : Nat} {s : List (Int × Int)} (hr : RowG w A n s) (hA : A = none → n = 0 ∧ c = 0) (hq : q ≤ 3000000) (hn : n ≤ 3000000) (hb : B ≤ w.heap.size) :
    ∃ P' pc' w', (Builtin.append_ #[43, 43] 43 #[.slice P q pc, .slice A n c]).run Try.prog w = .ok (.slice P' (q + n) pc') w' ∧ w'.ownsRow B 103 2 (.slice P' (q + n) pc') (q + n) (cellsG (xs ++ s)) ∧ Below B w w' := by
  obtain ⟨i0, hi, hz0, hz1, hz2⟩ := info_parts info_rng
  have hl := hr.1
  rw [cellsG_append]
  rcases A with _ | ad
  · obtain ⟨rfl, rfl⟩ := hA rfl
    have hs : s = [] := List.eq_nil_of_length_eq_zero hl
    subst hs
    rw [show cellsG [] = [] from rfl, List.append_nil]
    exact ⟨P, pc, w, run_append_owned_none (P := Try.prog) w B 43 43 103 i0 2 Try.underlying43 hi _ q _ h, h, Below.refl _ _⟩
  · have hcells : ∀ j u, (cellsG s)[j]? = some u → w.cell? (ad.add j) = some u := by
      intro j u hu
      have hj : j < n * 2 := by
        have := cellsG_length s
        rcases Nat.lt_or_ge j (cellsG s).length with h1 | h1
        · omega
        · rw [List.getElem?_eq_none h1] at hu; cases hu
      obtain ⟨b, o, hA, _, hc⟩ := hr.2 (by omega)
      injection hA with hA
      subst hA
      have hadd : (⟨b, o, none⟩ : Addr).add j = ⟨b, o + j, none⟩ := by unfold Addr.add; split <;> simp_all
      obtain ⟨e0, e1⟩ := cellsG_at s (j / 2) (by omega)
      obtain ⟨c0, c1⟩ := hc (j / 2) (by omega)
      rw [hadd]
      rcases Nat.mod_two_eq_zero_or_one j with hm | hm
      · have e : j = j / 2 * 2 := by omega
        rw [e] at hu ⊢
        rw [e0] at hu
        rw [c0, hu]
      · have e : j = j / 2 * 2 + 1 := by omega
        rw [e] at hu ⊢
        rw [e1] at hu
        rw [← Nat.add_assoc, c1, hu]
    obtain ⟨V', w', h1, h2, h3, _⟩ := run_append_own (P := Try.prog) w B 43 43 103 i0 _ 2 16 Try.underlying43 hi hz0 hz1 hz2 rfl (by decide) _ q _ h ad n c (cellsG s) (by rw [cellsG_length, hl]) hcells
      (by intro u hu; obtain ⟨p, _, hp⟩ := List.mem_flatMap.1 hu; simp at hp; rcases hp with rfl | rfl <;> rfl) (by unfold maxLen; omega) (by omega) hb
    have hb' : Below B w w' := (Below.refl _ _).grown h3 hb (by intro k hk; exact (row_lt h hk).1)
    rcases h2.2 with ⟨rfl, h0⟩ | ⟨b, cap, cu, rfl, _⟩
    · rw [h0] at h2 ⊢
      exact ⟨none, 0, w', h1, h2, hb'⟩
    · exact ⟨_, _, w', h1, h2, hb'⟩

/-- slices.Clone of ranges. -/
theorem gclone_any {F : Nat → Prop} (A : Option Addr) (n c : Nat) (s : List (Int × Int)) (w : World) (hr : RowF F w A n s) (hn : n ≤ 2000000) :
    Calls Try.prog 65 #[.slice A n c] w fun e w' => ∃ P q pc, e = .returned (.slice P q pc) ∧ w'.ownsRow w.heap.size 103 2 (.slice P q pc) q (cellsG s) ∧ Below w.heap.size w w' := by
  have q22 : ∀ (w : World) (a : Option Addr) (n c n' c' : Nat), (binOp .eql 43 (.slice a n c) (.slice none n' c')).run Try.prog w = .ok (.bool a.isNone) w := fun w a n c n' c' => Lib.run_eql_slice_nil w _ _ a n c n' c' Try.underlying43
  rcases A with _ | a
  · have h0 : n = 0 := by
      rcases Nat.eq_zero_or_pos n with h0 | h0
      · exact h0
      · obtain ⟨_, _, h, _⟩ := hr.1.2 h0
        cases h
    subst h0
    have : s = [] := List.eq_nil_of_length_eq_zero hr.1.1
    subst this
    clear hr
    go_enter Try.func65, Try.ntmps65
    go_wp2
    go_ret
    exact ⟨_, _, _, rfl, nilG _ _, Below.refl _ _⟩
  · obtain ⟨P', pc', w', happ, hown, hb⟩ := app_G2 (w := w.alloc (.cells #[] 103)) (B := w.heap.size) (xs := []) (World.ownsRow_made w #[] 0 (Nat.le_refl _) (Nat.zero_le _) rfl) (A := some a) (n := n) (c := c) (s := s) (hr.1.below ((Below.refl _ _).alloc (Nat.le_refl _) _) (Nat.le_refl _)) (fun h => by cases h) (by omega) (by omega) (by simp)
    rw [Nat.zero_add, List.nil_append] at hown
    rw [Nat.zero_add] at happ
    have HAPP := Lib.hid happ
    have HOWN := Lib.hid (And.intro hown (((Below.refl _ w).alloc (Nat.le_refl _) _).trans hb))
    clear happ hown hb hr
    go_enter Try.func65, Try.ntmps65
    go_wp2_with (at_builtin; refine wpList_append_run rfl _ _ 43 rfl rfl _ _ _ _ rfl rfl HAPP.out ?_)
    go_ret
    exact ⟨_, _, _, rfl, HOWN.out.1, HOWN.out.2⟩
/-- What a call of the writer does: so many instructions more. -/
def Added (B g : Nat) (w : World) (P : Option Addr) (q pc c : Nat) (e : Ending) (w' : World) : Prop :=
  e = .returned (.tuple #[]) ∧ ∃ P' pc' xs', WrS B g w' P' (q + c) pc' xs' ∧ Wk B g (.slice P q pc) w w' ∧ Vk w (.slice P q pc) (.slice P' (q + c) pc')
/-- A tree of c instructions, among memory that stays. -/
def TreeC (B g : Nat) (w0 : World) (v : Value) (c : Nat) : Prop :=
  ∀ w P q pc xs, Below B w0 w → WrS B g w P q pc xs → q + c ≤ 20000 → Calls Try.prog 37 #[.pointer (some ⟨g, 0, none⟩), v] w (Added B g w P q pc c)
def RowC (B g : Nat) (w0 : World) (v : Value) (c : Nat) : Prop :=
  ∀ w P q pc xs, Below B w0 w → WrS B g w P q pc xs → q ≤ 20000 → Calls Try.prog 66 #[.pointer (some ⟨g, 0, none⟩), v] w (Added B g w P q pc c)
/-- Behind memory that was made first. -/
theorem Added.behind {B g q pc c : Nat} {w w1 w' : World} {P : Option Addr} {e : Ending} (hB : B ≤ w.heap.size) (hb : Below w.heap.size w w1) (h : Added B g w1 P q pc c e w') : Added B g w P q pc c e w' := by
  obtain ⟨he, P', pc', xs', h1, h2, h3⟩ := h
  exact ⟨he, P', pc', xs', h1, (Wk.of_below hB hb).trans (Vk.refl _ _) h2, fun b hb' hn => h3 b (Nat.lt_of_lt_of_le hb' hb.size) hn⟩
theorem Added.then_ {B g q pc c d : Nat} {w w1 w2 : World} {P P1 : Option Addr} {pc1 : Nat} {e : Ending} (k2 : Wk B g (.slice P q pc) w w1) (k3 : Vk w (.slice P q pc) (.slice P1 (q + c) pc1)) (h : Added B g w1 P1 (q + c) pc1 d e w2) : Added B g w P q pc (c + d) e w2 := by
  obtain ⟨he, P', pc', xs', h1, h2, h3⟩ := h
  rw [Nat.add_assoc] at h1 h3
  exact ⟨he, P', pc', xs', h1, k2.trans k3 h2, k3.trans k2.2.1 h3⟩
set_option maxHeartbeats 4000000 in
theorem tree_char {B g : Nat} {w0 : World} {A D : Option Addr} {ns cs nk ck : Nat} {mn mx : Int} {s : List (Int × Int)} (hr : RowF (fun b => b < B) w0 A ns s) (hn : ns ≤ 2000000) (hBw : B ≤ w0.heap.size) : TreeC B g w0 (.agg #[.int .i64 1, .slice A ns cs, .int .i64 mn, .int .i64 mx, .slice D nk ck]) 1 := by
  intro w P q pc xs hb0 h hq
  have hBg := h.hB
  have hgl := h.lt
  have HS := Lib.hid h
  have HC := Lib.hid (gclone_any A ns cs s (w.alloc (.cells #[.int .i64 1, .slice A ns cs, .int .i64 mn, .int .i64 mx, .slice D nk ck] 52)) ((hr.keep hb0.size fun b hb _ => hb0.block b hb).below ((Below.refl _ _).alloc (Nat.le_refl _) _)) hn)
  clear h hr
  go_enter Try.func37, Try.ntmps37
  go_wp2_with (first
    | (go_at_call 65; (with_reducible refine HC.out.mono ?_); rintro e w1 ⟨P1, q1, pc1, rfl, ho, hb⟩; have hb1 : Below w.heap.size w w1 := ((Below.refl _ _).alloc (Nat.le_refl _) _).trans (hb.mono (by simp)); have HB1 := Lib.hid hb1; have HPu := Lib.hid (put_any (HS.out.below hb1) 1 0 0 P1 q1 pc1 s ((rowF_own ho).move (Nat.le_refl _) fun b hF hlt => ⟨⟨by have hF : (w.alloc (.cells #[.int .i64 1, .slice A ns cs, .int .i64 mn, .int .i64 mx, .slice D nk ck] 52)).heap.size ≤ b := hF; simp at hF; omega, by have hF : (w.alloc (.cells #[.int .i64 1, .slice A ns cs, .int .i64 mn, .int .i64 mx, .slice D nk ck] 52)).heap.size ≤ b := hF; simp at hF; omega, fun e => by have hF : (w.alloc (.cells #[.int .i64 1, .slice A ns cs, .int .i64 mn, .int .i64 mx, .slice D nk ck] 52)).heap.size ≤ b := hF; simp at hF; have := (row_lt HS.out.row e).2; omega⟩, rfl⟩) (by omega)); clear ho hb hb1)
    | (go_at_call 64; (with_reducible refine HPu.out.mono ?_); rintro e w2 ⟨rfl, P', pc', hR1, hR2, hR3⟩; have HR := Lib.hid (And.intro hR1 (And.intro hR2 hR3)); clear hR1 hR2 hR3))
  go_end0
  exact Added.behind (by omega) HB1.out ⟨rfl, P', pc', _, HR.out.1, HR.out.2.1, HR.out.2.2⟩
end Go.Proofs.Ytegcebgoiocakaa
/- The writer's row. -/
namespace Go.Proofs.Ytegcebgoiocakaa
open Go Go.RowKit
set_option linter.unusedVariables false
set_option maxRecDepth 20000

set_option maxHeartbeats 4000000 in
theorem row_adds {B g : Nat} {w0 : World} {D : Option Addr} {nk ck : Nat} {K : Wood} (hk : KidsAt (fun b => b < B) w0 D nk K) (hnk : nk ≤ 1000) (hBw : B ≤ w0.heap.size) (cf : Nat → Nat) (hc : ∀ j, cf j ≤ cf (j + 1)) (hc0 : cf 0 = 0) (hcl : cf nk ≤ 20000)
    (HT : ∀ j, j < nk → ∀ v, NodeIn (fun b => b < B) w0 v (K.nth j) → TreeC B g w0 v (cf (j + 1) - cf j)) :
    ∀ w P q pc xs, Below B w0 w → WrS B g w P q pc xs → q + cf nk ≤ 20000 → Calls Try.prog 66 #[.pointer (some ⟨g, 0, none⟩), .slice D nk ck] w (Added B g w P q pc (cf nk)) := by
  intro w P q pc xs hb0 h hq
  have hmono : ∀ a b, a ≤ b → cf a ≤ cf b := fun a b hab => by
    induction hab with
    | refl => exact Nat.le_refl _
    | step _ ih => exact Nat.le_trans ih (hc _)
  have HS := Lib.hid h
  have HK := Lib.hid hk
  have HTr := Lib.hid HT
  have HM := Lib.hid (And.intro hmono hc0)
  have HB := Lib.hid (And.intro hb0 hBw)
  clear h hk HT hmono hc hc0 hb0 hBw
  go_enter Try.func66, Try.ntmps66
  go_wp2_with fail
  go_loopw [8] (fun vi wr => ∃ (j pc' : Nat) (P' : Option Addr) (xs' : List IV), vi = .int .i64 (j : Int) ∧ j ≤ nk ∧ Hid (WrS B g wr P' (q + cf j) pc' xs' ∧ Wk B g (.slice P q pc) w wr ∧ Vk w (.slice P q pc) (.slice P' (q + cf j) pc'))) (fun vi _ => nk - (match vi with | .int _ j => j.toNat | _ => 0))
  case atStart =>
    refine ⟨0, pc, P, xs, rfl, Nat.zero_le _, Lib.hid ?_⟩
    rw [HM.out.2, Nat.add_zero]
    exact ⟨HS.out, Wk.refl _ _ _ _, Vk.refl _ _⟩
  case round =>
    obtain ⟨j, pc', P', xs', rfl, hj, H⟩ := hrel
    by_cases hlt : j < nk
    · have hbr : Below B w0 wr := HB.out.1.trans H.out.2.1.1
      have hkw : KidsAt (fun b => b < B) wr D nk K := HK.out.keep hbr.size fun b hb _ => hbr.block b hb
      obtain ⟨b, o, op, s, mn, mx, k', A', D', ns, cs, nk', ck', rfl, hbl, e, c0, c1, c2, c3, c4, hin⟩ := hkw.kid hlt
      have hin0 : NodeIn (fun b => b < B) w0 (.agg #[.int .i64 op, .slice A' ns cs, .int .i64 mn, .int .i64 mx, .slice D' nk' ck']) (K.nth j) := by
        obtain ⟨b2, o2, op2, s2, mn2, mx2, k2, A2, D2, ns2, cs2, nk2, ck2, hD2, hbl2, e2, d0, d1, d2, d3, d4, hin2⟩ := HK.out.kid hlt
        injection hD2 with hD2
        injection hD2 with e3 e4
        subst e3; subst e4
        have hbB : b < B := by
          obtain ⟨b5, o5, hD5, hF5, _⟩ := HK.out.2 (by omega)
          injection hD5 with hD5
          injection hD5 with e5 _
          subst e5
          exact hF5
        have up : ∀ x, wr.cell? ⟨b, x, none⟩ = w0.cell? ⟨b, x, none⟩ := fun x => hbr.cell (p := ⟨b, x, none⟩) hbB
        rw [up] at c0 c1 c2 c3 c4
        rw [d0] at c0; rw [d1] at c1; rw [d2] at c2; rw [d3] at c3; rw [d4] at c4
        injection c0 with c0; injection c0 with _ c0
        injection c1 with c1; injection c1 with a1 a2 a3
        injection c2 with c2; injection c2 with _ c2
        injection c3 with c3; injection c3 with _ c3
        injection c4 with c4; injection c4 with b1 b2 b3
        subst c0; subst a1; subst a2; subst a3; subst c2; subst c3; subst b1; subst b2; subst b3
        exact hin2
      have hcm := HM.out.1 (j + 1) nk (by omega)
      have hcm2 := HM.out.1 j (j + 1) (by omega)
      have HC := Lib.hid (HTr.out j hlt _ hin0 (wr.alloc (.cells #[.int .i64 op, .slice A' ns cs, .int .i64 mn, .int .i64 mx, .slice D' nk' ck'] 52)) P' (q + cf j) pc' xs' (hbr.alloc (by have := hbr.size; have := HB.out.2; omega) _) (H.out.1.below ((Below.refl _ _).alloc (Nat.le_refl _) _)) (by omega))
      have HCM := Lib.hid (And.intro hcm hcm2)
      have HBR := Lib.hid hbr
      clear hin hin0 hkw e hbr hcm hcm2
      go_wp2_with (go_at_call 37; (with_reducible refine HC.out.mono ?_); rintro e w2 hv; have HV := Lib.hid hv; obtain ⟨rfl, -⟩ := hv)
      obtain ⟨_, P2, pc2, xs2, k1, k2, k3⟩ := Added.behind (B := B) (by have := HBR.out.size; have := HB.out.2; omega) ((Below.refl wr.heap.size wr).alloc (Nat.le_refl _) _) HV.out
      have hcm := HCM.out
      rw [show q + cf j + (cf (j + 1) - cf j) = q + cf (j + 1) by omega] at k1 k3
      exact ⟨⟨j + 1, pc2, P2, xs2, rfl, hlt, Lib.hid ⟨k1, H.out.2.1.trans H.out.2.2 k2, H.out.2.2.trans H.out.2.1.2.1 k3⟩⟩, by show nk - ((j : Int) + 1).toNat < nk - (j : Int).toNat; omega⟩
    · obtain rfl : j = nk := by omega
      go_wp2
      go_end0
      exact ⟨rfl, P', pc', xs', H.out.1, H.out.2.1, H.out.2.2⟩
end Go.Proofs.Ytegcebgoiocakaa
/- The writer's loop. -/
namespace Go.Proofs.Ytegcebgoiocakaa
open Go Go.RowKit
set_option linter.unusedVariables false
set_option maxRecDepth 20000

theorem HereAt.keep {w w' : World} {bx ix g i : Nat} {B : Nat} {V : Value} (h : HereAt w bx ix g i) (hk : Wk B g V w w') (h1 : bx ≠ g) (h2 : ix ≠ g) (h3 : V.ownBlock ≠ some bx) (h4 : V.ownBlock ≠ some ix) : HereAt w' bx ix g i :=
  ⟨(hk.2.2 bx h.lt.1 h1 h3).trans h.1, (hk.2.2 ix h.lt.2 h2 h4).trans h.2⟩
set_option maxHeartbeats 8000000 in
theorem loop_any {B g q pc c : Nat} {w : World} {P : Option Addr} {xs : List IV} {v : Value} (h : WrS B g w P q pc xs) (hq : q + c + 2 ≤ 20000)
    (HR : ∀ w1 P1 pc1 xs1, Below B w w1 → WrS B g w1 P1 (q + 1) pc1 xs1 → Calls Try.prog 66 #[.pointer (some ⟨g, 0, none⟩), v] w1 (Added B g w1 P1 (q + 1) pc1 c)) :
    Calls Try.prog 92 #[.pointer (some ⟨g, 0, none⟩), v] w (Added B g w P q pc (c + 2)) := by
  have hgl := h.lt
  have HSp := Lib.hid (split_any h (by omega))
  have HRo := Lib.hid HR
  clear h HR
  go_enter Try.func92, Try.ntmps92
  go_wp2_with (first
    | (go_at_call 90; (with_reducible refine HSp.out.mono ?_); rintro e w1 ⟨bx, ix, rfl, hh, hbx, hix, P1, pc1, k1, k2, k3, k4, k5⟩; have HS1 := Lib.hid k1; have HH := Lib.hid (And.intro hh (And.intro hbx (And.intro hix (And.intro k2 (And.intro k3 (And.intro k4 k5)))))); have HC := Lib.hid (HRo.out w1 P1 pc1 _ k2.1 k1); have g1 : w1.cell? ⟨g, 0, none⟩ = some (.slice P1 (q + 1) pc1) := cell_of_row w1 g 0 _ _ (0, 0) k1.hg; clear hh hbx hix k1 k2 k3 k4 k5)
    | (go_at_call 66; (with_reducible refine HC.out.mono ?_); rintro e w2 ⟨rfl, P2, pc2, xs2, k1, k2, k3⟩; have HS2 := Lib.hid k1; have HH2 := Lib.hid (And.intro k2 k3); have g2 : w2.cell? ⟨g, 0, none⟩ = some (.slice P2 (q + 1 + c) pc2) := cell_of_row w2 g 0 _ _ (0, 0) k1.hg; clear k1 k2 k3))
  have HPu : Hid (∀ (X : World) (d : Nat), Below w2.heap.size w2 X → X.heap[d]? = some (.cells #[.int .i64 2, .slice none 0 0, .int .i64 ((q : Int) + 1), .int .i64 ((q : Int) + 1 + (c : Int) + 1)] 45 (0, 0)) → ∃ v' w', (Builtin.append_ #[23, 23] 23 #[.slice P2 (q + 1 + c) pc2, .slice (some ⟨d, 0, none⟩) 1 1]).run Try.prog X = .ok v' w' ∧ PutR B g P2 (q + 1 + c) pc2 xs2 ⟨⟨2, [], (q : Int) + 1, (q : Int) + 1 + (c : Int) + 1⟩, none, 0, 0⟩ w2 v' w') := Lib.hid fun X d hX hd => put_ex HS2.out (rowF_nil _ _) hX hd (by omega)
  have hw : IntKind.i64.wrap ((q : Int) + 1 + (c : Int) + 1) = (q : Int) + 1 + (c : Int) + 1 := by rw [IntKind.wrap_i64]; omega
  have g3 : ∀ o, (w2.alloc o).cell? ⟨g, 0, none⟩ = some (.slice P2 (q + 1 + c) pc2) := fun o => cell_of_row _ g 0 _ _ (0, 0) ((Below.heap_alloc w2 o g HS2.out.lt).trans HS2.out.hg)
  clear g1
  go_region_law (first | (refine step_append_ex rfl (.tmp 20) (.tmp 29) 23 rfl rfl _ _ (by rfl) (by rfl) _ (HPu.out _ _ (by first | exact (Below.refl _ _).alloc (Nat.le_refl _) _ | exact ((Below.refl _ _).alloc (Nat.le_refl _) _).drew | exact (Below.refl _ _).drew.alloc (by simp) _) (by first | exact hp_new rfl | exact hp_drew (hp_new rfl) | exact hp_new (by simp) | exact hp_drew (hp_new (by simp)))) ?_; intro v' w' hR; obtain ⟨P3, pc3, rfl, hc1, hc2, hR1, hR2, hR3⟩ := hR))
  all_goals
    have HPR := Lib.hid (And.intro hR1 (And.intro hR2 hR3))
    obtain ⟨w4, hw4⟩ : ∃ w4, w4 = w'.setCell ⟨g, 0, none⟩ (.slice P3 (q + 1 + c + 1) pc3) := ⟨_, rfl⟩
    rw [← hw4] at HPR
    rw [← hw4]
    have hne := HH.out
    have hh2 := hne.1.keep HH2.out.1 (by omega) (by omega) hne.2.2.2.2.2.1 hne.2.2.2.2.2.2
    have n3 := HH2.out.2 bx hne.1.lt.1 hne.2.2.2.2.2.1
    have n4 := HH2.out.2 ix hne.1.lt.2 hne.2.2.2.2.2.2
    have hh4 := hh2.keep HPR.out.2.1 (by omega) (by omega) n3 n4
    have HHe := Lib.hid (here_any HPR.out.1 hh4 (i := q) (by omega) (by omega))
    clear hw4 hR1 hR2 hR3 hc1 hc2 hne hh2 n3 n4 hh4 g2 g3 hw
    go_wp2_with (go_at_call 101; (with_reducible refine HHe.out.mono ?_); rintro e w5 ⟨rfl, k1, k2⟩; have HF := Lib.hid (And.intro k1 k2); clear k1 k2)
    go_end0
    refine ⟨rfl, P3, pc3, _, by rw [show q + (c + 2) = q + 1 + c + 1 by omega]; exact HF.out.1, ?_, ?_⟩
    · exact ((HH.out.2.2.2.1.trans HH.out.2.2.2.2.1 HH2.out.1).trans (HH.out.2.2.2.2.1.trans HH.out.2.2.2.1.2.1 HH2.out.2) HPR.out.2.1).trans ((HH.out.2.2.2.2.1.trans HH.out.2.2.2.1.2.1 HH2.out.2).trans (HH.out.2.2.2.1.trans HH.out.2.2.2.2.1 HH2.out.1).2.1 HPR.out.2.2) HF.out.2
    · rw [show q + (c + 2) = q + 1 + c + 1 by omega]
      exact (HH.out.2.2.2.2.1.trans HH.out.2.2.2.1.2.1 HH2.out.2).trans (HH.out.2.2.2.1.trans HH.out.2.2.2.2.1 HH2.out.1).2.1 HPR.out.2.2
end Go.Proofs.Ytegcebgoiocakaa
