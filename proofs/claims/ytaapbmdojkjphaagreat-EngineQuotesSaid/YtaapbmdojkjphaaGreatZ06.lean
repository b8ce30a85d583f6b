/- Texts. -/
import Derived.Test.YtaapbmdojkjphaaGreatZ05
import Derived.Lib.SliceRun
import Derived.Lib.MinMax
import Derived.OwnWalk
namespace Go.Proofs.YtaapbmdojkjphaaGreat
open Go Go.RowKit
set_option linter.unusedVariables false
set_option maxRecDepth 20000
def HereAt (w : World) (bx ix g i : Nat) : Prop := w.heap[bx]? = some (.cells #[.pointer (some ⟨g, 0, none⟩)] 114 (0, 0)) ∧ w.heap[ix]? = some (.cells #[.int .i64 (i : Int)] 3 (0, 0))
theorem HereAt.lt {w : World} {bx ix g i : Nat} (h : HereAt w bx ix g i) : bx < w.heap.size ∧ ix < w.heap.size := ⟨(Array.getElem?_eq_some_iff.1 h.1).1, (Array.getElem?_eq_some_iff.1 h.2).1⟩
set_option maxHeartbeats 4000000 in
theorem split_any {B g q pc : Nat} {w : World} {P : Option Addr} {xs : List IV} (h : WrS B g w P q pc xs) (hq : q ≤ 50000) :
    Calls Tryz.prog 104 #[.pointer (some ⟨g, 0, none⟩)] w fun e w' => ∃ bx ix, e = .returned (.func (Fn.func 125) #[] #[.pointer (some ⟨bx, 0, none⟩), .pointer (some ⟨ix, 0, none⟩)]) ∧ HereAt w' bx ix g q ∧ w.heap.size ≤ bx ∧ w.heap.size ≤ ix ∧ ∃ P' pc', WrS B g w' P' (q + 1) pc' (xs ++ [⟨⟨2, [], (q : Int) + 1, 0⟩, none, 0, 0⟩]) ∧ Wk B g (.slice P q pc) w w' ∧ Vk w (.slice P q pc) (.slice P' (q + 1) pc') ∧ (Value.slice P' (q + 1) pc').ownBlock ≠ some bx ∧ (Value.slice P' (q + 1) pc').ownBlock ≠ some ix := by
  have hgl := h.lt
  have HS := Lib.hid h
  have hw : IntKind.i64.wrap ((q : Int) + 1) = (q : Int) + 1 := by rw [IntKind.wrap_i64]; omega
  have g0 : ∀ o, (w.alloc o).cell? ⟨g, 0, none⟩ = some (.slice P q pc) := fun o => cell_of_row _ g 0 _ _ (0, 0) ((Below.heap_alloc w o g hgl).trans h.hg)
  clear h
  go_enter Tryz.func104, Tryz.ntmps104
  have HX : Hid (Below w.heap.size w ((w.alloc (.cells #[.pointer (some ⟨g, 0, none⟩)] 114)).alloc (.cells #[.int .i64 (q : Int)] 3))) := Lib.hid (((Below.refl _ _).alloc (Nat.le_refl _) _).alloc (by simp) _)
  have HQ := Lib.hid (wput_any (HS.out.below HX.out) 2 0 0 none 0 0 [] (rowF_nil _ _) hq)
  go_wp2_with (go_at_call 66; (with_reducible refine HQ.out.mono ?_); rintro e w1 ⟨rfl, P', pc', hR1, hR2, hR3⟩; have HR := Lib.hid (And.intro hR1 (And.intro hR2 hR3)); clear hR1 hR2 hR3)
  go_ret
  have hb := HX.out
  have hbx : ∀ b, (b = w.heap.size ∨ b = w.heap.size + 1) → w1.heap[b]? = ((w.alloc (.cells #[.pointer (some ⟨g, 0, none⟩)] 114)).alloc (.cells #[.int .i64 (q : Int)] 3)).heap[b]? := fun b hb => HR.out.2.1.2.2 b (by simp; omega) (by omega) fun e => by have := (row_lt HS.out.row e).2; omega
  have hBw : B ≤ w.heap.size := by have := HS.out.hB; omega
  refine ⟨w.heap.size, w.heap.size + 1, rfl, ⟨(hbx _ (.inl rfl)).trans (hp_old (hp_new rfl)), (hbx _ (.inr rfl)).trans (hp_new (by simp))⟩, Nat.le_refl _, by omega, P', pc', HR.out.1, (Wk.of_below hBw hb).trans (Vk.refl _ _) HR.out.2.1, (fun b hb' hn => HR.out.2.2 b (Nat.lt_of_lt_of_le hb' hb.size) hn), HR.out.2.2 _ (by simp; omega) (fun e => by have := (row_lt HS.out.row e).2; omega), HR.out.2.2 _ (by simp) (fun e => by have := (row_lt HS.out.row e).2; omega)⟩
def setIV (f : InstL → InstL) (i : Nat) (xs : List IV) : List IV := xs.modify i fun v => { v with i := f v.i }
theorem WrS.at {B g q pc : Nat} {w : World} {P : Option Addr} {xs : List IV} (h : WrS B g w P q pc xs) {i : Nat} (hi : i < q) : ∃ b x, P = some ⟨b, 0, none⟩ ∧ B ≤ b ∧ b < w.heap.size ∧ b ≠ g ∧ xs[i]? = some x ∧ (∀ k v, x.cells[k]? = some v → w.cell? ⟨b, i * 4 + k, none⟩ = some v) ∧ (∀ j, w.frozen? ⟨b, j, none⟩ = false) := by
  have hl := h.len
  obtain ⟨x, hx⟩ : ∃ x, xs[i]? = some x := ⟨_, List.getElem?_eq_getElem (by omega)⟩
  rcases h.row.2 with ⟨e, h0⟩ | ⟨b, cap, cur, e, hB, hb, hnc, hcm, hcs, ht⟩
  · omega
  · injection e with e1 _ e3
    subst e1; subst e3
    refine ⟨b, x, rfl, hB, (Array.getElem?_eq_some_iff.1 hb).1, fun e => h.ne (by rw [e]; rfl), hx, fun k v hv => ?_, fun j => by simp [World.frozen?, hb]⟩
    have hk : k < 4 := (List.getElem?_eq_some_iff.1 hv).1
    have := cellsI_at xs i x hx k v hv
    rw [cell_of_row w b (i * 4 + k) cur 89 (0, 0) hb, ← this, ← ht, List.getElem?_take_of_lt (by omega), Array.getElem?_toList]
theorem cellsI_set (f : InstL → InstL) (k : Nat) (hk : k < 4) (u : Value) : ∀ (xs : List IV) (i : Nat), (∀ x, xs[i]? = some x → (IV.cells { x with i := f x.i }) = x.cells.set k u) → i < xs.length → (cellsI xs).set (i * 4 + k) u = cellsI (setIV f i xs)
  | [], i, _, h => by simp at h
  | p :: s, 0, h, _ => by
    have h1 := h p rfl
    show (p.cells ++ cellsI s).set (0 * 4 + k) u = IV.cells { p with i := f p.i } ++ cellsI s
    rw [h1, Nat.zero_mul, Nat.zero_add, List.set_append_left _ _ (show k < p.cells.length from hk)]
  | p :: s, i + 1, h, hl => by
    have ih := cellsI_set f k hk u s i (fun x hx => h x (by simpa using hx)) (by simpa using hl)
    show (p.cells ++ cellsI s).set ((i + 1) * 4 + k) u = p.cells ++ cellsI (setIV f i s)
    rw [← ih, List.set_append_right _ _ (by show 4 ≤ _; omega), show (i + 1) * 4 + k - p.cells.length = i * 4 + k by show _ - 4 = _; omega]
theorem setIV_mem (f : InstL → InstL) (i : Nat) (xs : List IV) (x : IV) (h : x ∈ setIV f i xs) : ∃ y ∈ xs, x = y ∨ x = { y with i := f y.i } := by
  obtain ⟨j, hj⟩ := List.getElem?_of_mem h
  unfold setIV at hj
  rw [List.getElem?_modify] at hj
  obtain ⟨y, hy, e⟩ := Option.map_eq_some_iff.1 hj
  refine ⟨y, List.mem_of_getElem? hy, ?_⟩
  by_cases hij : i = j
  · right; rw [if_pos hij] at e; exact e.symm
  · left; rw [if_neg hij] at e; exact e.symm
theorem WrS.turn {B g q pc b i k : Nat} {w : World} {xs : List IV} (h : WrS B g w (some ⟨b, 0, none⟩) q pc xs) (hB : B ≤ b) (hbl : b < w.heap.size) (hbg : b ≠ g) (f : InstL → InstL) (hk : k < 4) (u : Value) (hi : i < q) (hf : ∀ x : IV, (IV.cells { x with i := f x.i }) = x.cells.set k u) (hs : ∀ v, (f v).set = v.set) :
    WrS B g (w.setCell ⟨b, i * 4 + k, none⟩ u) (some ⟨b, 0, none⟩) q pc (setIV f i xs) ∧ Wk B g (.slice (some ⟨b, 0, none⟩) q pc) w (w.setCell ⟨b, i * 4 + k, none⟩ u) := by
  have hst := (h.row.stored (i * 4 + k) u).1
  rw [cellsI_set f k hk u xs i (fun x _ => hf x) (by rw [h.len]; exact hi)] at hst
  have hoth : ∀ c, c ≠ b → (w.setCell ⟨b, i * 4 + k, none⟩ u).heap[c]? = w.heap[c]? := fun c hc => Below.heap_setCell _ _ _ _ hc
  have hown : (Value.slice (some ⟨b, 0, none⟩) q pc).ownBlock = some b := rfl
  have hsz : (w.setCell ⟨b, i * 4 + k, none⟩ u).heap.size = w.heap.size := by simp
  have mv : ∀ c, FW B g (.slice (some ⟨b, 0, none⟩) q pc) c → c < w.heap.size → FW B g (.slice (some ⟨b, 0, none⟩) q pc) c ∧ (w.setCell ⟨b, i * 4 + k, none⟩ u).heap[c]? = w.heap[c]? := fun c hF _ => ⟨hF, hoth c fun e => hF.2.2 (by rw [hown, e])⟩
  refine ⟨⟨(hoth g (Ne.symm hbg)).trans h.hg, h.hB, hst, h.ne, fun x hx => ?_⟩, (Below.refl _ _).setCell (p := ⟨b, i * 4 + k, none⟩) hB _, by omega, fun c _ _ hn => hoth c fun e => hn (by rw [hown, e])⟩
  obtain ⟨y, hy, rfl | rfl⟩ := setIV_mem f i xs x hx
  · exact (h.sets _ hy).move (by omega) mv
  · have := (h.sets y hy).move (by omega) mv
    show RowF _ _ y.A y.n (f y.i).set
    rw [hs]
    exact this
theorem WrS.drew {B g q pc : Nat} {w : World} {P : Option Addr} {xs : List IV} (h : WrS B g w P q pc xs) : WrS B g w.drew P q pc xs := ⟨h.hg, h.hB, h.row, h.ne, fun x hx => (h.sets x hx).move (Nat.le_refl _) fun b hF _ => ⟨hF, rfl⟩⟩
theorem Wk.drew {B g : Nat} {V : Value} {w w' : World} (h : Wk B g V w w') : Wk B g V w w'.drew := ⟨h.1.drew, h.2.1, h.2.2⟩
set_option maxHeartbeats 4000000 in
theorem here_any {B g q pc bx ix i : Nat} {w : World} {P : Option Addr} {xs : List IV} (h : WrS B g w P q pc xs) (hh : HereAt w bx ix g i) (hi : i < q) (hq : q ≤ 50000) :
    Calls Tryz.prog 125 #[.pointer (some ⟨bx, 0, none⟩), .pointer (some ⟨ix, 0, none⟩)] w fun e w' => e = .returned (.tuple #[]) ∧ WrS B g w' P q pc (setIV (fun v => { v with y := (q : Int) }) i xs) ∧ Wk B g (.slice P q pc) w w' := by
  obtain ⟨b, x, rfl, hB, hbl, hbg, hx, hc, hf⟩ := h.at hi
  have HS := Lib.hid h
  have HH := Lib.hid (And.intro hx hbl)
  have c0 : w.cell? ⟨bx, 0, none⟩ = some (.pointer (some ⟨g, 0, none⟩)) := cell_of_row w bx 0 _ _ (0, 0) hh.1
  have c1 : w.cell? ⟨ix, 0, none⟩ = some (.int .i64 (i : Int)) := cell_of_row w ix 0 _ _ (0, 0) hh.2
  have c2 : w.cell? ⟨g, 0, none⟩ = some (.slice (some ⟨b, 0, none⟩) q pc) := cell_of_row w g 0 _ _ (0, 0) h.hg
  have c3 := hc 3 _ rfl
  have hi1 : (0 : Int) ≤ (i : Int) := by omega
  have hi2 : (i : Int) < (q : Int) := by omega
  have f3 := hf (i * 4 + 3)
  clear h hh hc hx hf
  go_enter Tryz.func125, Tryz.ntmps125
  go_wp2_with fail
  go_region
  go_end0
  obtain ⟨k1, k2⟩ := HS.out.turn hB hbl hbg (fun v => { v with y := (q : Int) }) (k := 3) (by omega) (.int .i64 (q : Int)) hi (fun x => rfl) (fun v => rfl)
  exact ⟨rfl, k1.drew, k2.drew⟩
end Go.Proofs.YtaapbmdojkjphaaGreat
namespace Go.Proofs.YtaapbmdojkjphaaGreat
open Go Go.RowKit
set_option linter.unusedVariables false
set_option maxRecDepth 20000
theorem app_G2 {w : World} {B : Nat} {P : Option Addr} {q pc : Nat} {xs : List (Int × Int)} (h : w.ownsRow B 74 2 (.slice P q pc) q (cellsG xs)) {A : Option Addr} {n c : Nat} {s : List (Int × Int)} (hr : RowG w A n s) (hA : A = none → n = 0 ∧ c = 0) (hq : q ≤ 3000000) (hn : n ≤ 3000000) (hb : B ≤ w.heap.size) :
    ∃ P' pc' w', (Builtin.append_ #[24, 24] 24 #[.slice P q pc, .slice A n c]).run Tryz.prog w = .ok (.slice P' (q + n) pc') w' ∧ w'.ownsRow B 74 2 (.slice P' (q + n) pc') (q + n) (cellsG (xs ++ s)) ∧ Below B w w' := by
  obtain ⟨i0, hi, hz0, hz1, hz2⟩ := info_parts info_rng
  have hl := hr.1
  rw [cellsG_append]
  rcases A with _ | ad
  · obtain ⟨rfl, rfl⟩ := hA rfl
    have hs : s = [] := List.eq_nil_of_length_eq_zero hl
    subst hs
    rw [show cellsG [] = [] from rfl, List.append_nil]
    exact ⟨P, pc, w, run_append_owned_none (P := Tryz.prog) w B 24 24 74 i0 2 Tryz.underlying24 hi _ q _ h, h, Below.refl _ _⟩
  · have hcells : ∀ j u, (cellsG s)[j]? = some u → w.cell? (ad.add j) = some u := by
      intro j u hu
      have hj : j < n * 2 := by
        have := cellsG_length s
        rcases Nat.lt_or_ge j (cellsG s).length with h1 | h1
        · omega
        · rw [List.getElem?_eq_none h1] at hu; cases hu
      obtain ⟨b, o, hA, _, hc⟩ := hr.2 (by omega)
      injection hA with hA
      subst hA
      have hadd : (⟨b, o, none⟩ : Addr).add j = ⟨b, o + j, none⟩ := by unfold Addr.add; split <;> simp_all
      obtain ⟨e0, e1⟩ := cellsG_at s (j / 2) (by omega)
      obtain ⟨c0, c1⟩ := hc (j / 2) (by omega)
      rw [hadd]
      rcases Nat.mod_two_eq_zero_or_one j with hm | hm
      · have e : j = j / 2 * 2 := by omega
        rw [e] at hu ⊢
        rw [e0] at hu
        rw [c0, hu]
      · have e : j = j / 2 * 2 + 1 := by omega
        rw [e] at hu ⊢
        rw [e1] at hu
        rw [← Nat.add_assoc, c1, hu]
    obtain ⟨V', w', h1, h2, h3, _⟩ := run_append_own (P := Tryz.prog) w B 24 24 74 i0 _ 2 16 Tryz.underlying24 hi hz0 hz1 hz2 rfl (by decide) _ q _ h ad n c (cellsG s) (by rw [cellsG_length, hl]) hcells
      (by intro u hu; obtain ⟨p, _, hp⟩ := List.mem_flatMap.1 hu; simp at hp; rcases hp with rfl | rfl <;> rfl) (by unfold maxLen; omega) (by omega) hb
    have hb' : Below B w w' := (Below.refl _ _).grown h3 hb (by intro k hk; exact (row_lt h hk).1)
    rcases h2.2 with ⟨rfl, h0⟩ | ⟨b, cap, cu, rfl, _⟩
    · rw [h0] at h2 ⊢
      exact ⟨none, 0, w', h1, h2, hb'⟩
    · exact ⟨_, _, w', h1, h2, hb'⟩
theorem gclone_any {F : Nat → Prop} (A : Option Addr) (n c : Nat) (s : List (Int × Int)) (w : World) (hr : RowF F w A n s) (hn : n ≤ 2000000) :
    Calls Tryz.prog 67 #[.slice A n c] w fun e w' => ∃ P q pc, e = .returned (.slice P q pc) ∧ w'.ownsRow w.heap.size 74 2 (.slice P q pc) q (cellsG s) ∧ Below w.heap.size w w' := by
  have q22 : ∀ (w : World) (a : Option Addr) (n c n' c' : Nat), (binOp .eql 24 (.slice a n c) (.slice none n' c')).run Tryz.prog w = .ok (.bool a.isNone) w := fun w a n c n' c' => Lib.run_eql_slice_nil w _ _ a n c n' c' Tryz.underlying24
  rcases A with _ | a
  · have h0 : n = 0 := by
      rcases Nat.eq_zero_or_pos n with h0 | h0
      · exact h0
      · obtain ⟨_, _, h, _⟩ := hr.1.2 h0
        cases h
    subst h0
    have : s = [] := List.eq_nil_of_length_eq_zero hr.1.1
    subst this
    clear hr
    go_enter Tryz.func67, Tryz.ntmps67
    go_wp2
    go_ret
    exact ⟨_, _, _, rfl, nilG _ _, Below.refl _ _⟩
  · obtain ⟨P', pc', w', happ, hown, hb⟩ := app_G2 (w := w.alloc (.cells #[] 74)) (B := w.heap.size) (xs := []) (World.ownsRow_made w #[] 0 (Nat.le_refl _) (Nat.zero_le _) rfl) (A := some a) (n := n) (c := c) (s := s) (hr.1.below ((Below.refl _ _).alloc (Nat.le_refl _) _) (Nat.le_refl _)) (fun h => by cases h) (by omega) (by omega) (by simp)
    rw [Nat.zero_add, List.nil_append] at hown
    rw [Nat.zero_add] at happ
    have HAPP := Lib.hid happ
    have HOWN := Lib.hid (And.intro hown (((Below.refl _ w).alloc (Nat.le_refl _) _).trans hb))
    clear happ hown hb hr
    go_enter Tryz.func67, Tryz.ntmps67
    go_wp2_with (at_builtin; refine wpList_append_run rfl _ _ 24 rfl rfl _ _ _ _ rfl rfl HAPP.out ?_)
    go_ret
    exact ⟨_, _, _, rfl, HOWN.out.1, HOWN.out.2⟩
end Go.Proofs.YtaapbmdojkjphaaGreat
namespace Go.Proofs.YtaapbmdojkjphaaGreat
open Go Go.RowKit
set_option linter.unusedVariables false
set_option maxRecDepth 20000
theorem HereAt.keep {w w' : World} {bx ix g i : Nat} {B : Nat} {V : Value} (h : HereAt w bx ix g i) (hk : Wk B g V w w') (h1 : bx ≠ g) (h2 : ix ≠ g) (h3 : V.ownBlock ≠ some bx) (h4 : V.ownBlock ≠ some ix) : HereAt w' bx ix g i :=
  ⟨(hk.2.2 bx h.lt.1 h1 h3).trans h.1, (hk.2.2 ix h.lt.2 h2 h4).trans h.2⟩
end Go.Proofs.YtaapbmdojkjphaaGreat
namespace Go.Proofs.YtaapbmdojkjphaaGreat
open Go Go.RowKit
set_option linter.unusedVariables false
set_option maxRecDepth 20000
set_option maxHeartbeats 4000000 in
theorem counts_exact {A D : Option Addr} {ns cs nk ck : Nat} {op mx : Int} (mn : Nat) (hmn : mn ≤ 1000) (hmx : mx ≤ (mn : Int)) (hmx0 : -1 ≤ mx) (w : World) :
    Calls Tryz.prog 64 #[.agg #[.int .i64 op, .slice A ns cs, .int .i64 (mn : Int), .int .i64 mx, .slice D nk ck]] w fun e w' => e = .returned (.tuple #[.int .i64 (mn : Int), .int .i64 0]) ∧ Below w.heap.size w w' := by
  have m1 : max (mn : Int) 0 = (mn : Int) := by omega
  have m2 : max mx (mn : Int) = (mn : Int) := by omega
  have hw : IntKind.i64.wrap ((mn : Int) - (mn : Int)) = 0 := by rw [IntKind.wrap_i64]; omega
  have hw2 : (mn : Int) - (mn : Int) = 0 := by omega
  go_enter Tryz.func64, Tryz.ntmps64
  go_wp2_with fail
  go_region
  all_goals
    go_wp2
    go_ret2
    exact ⟨rfl, ((Below.refl _ _).alloc (Nat.le_refl _) _).drew⟩
end Go.Proofs.YtaapbmdojkjphaaGreat
namespace Go.Proofs.YtaapbmdojkjphaaGreat
open Go Go.RowKit
set_option linter.unusedVariables false
set_option maxRecDepth 20000
def LenC (B : Nat) (w0 : World) (v : Value) (c : Nat) : Prop := ∀ w, Below B w0 w → B ≤ w.heap.size → Calls Tryz.prog 39 #[v] w fun e w' => e = .returned (.int .i64 (c : Int)) ∧ Below w.heap.size w w'
set_option maxHeartbeats 2000000 in
theorem len_char (B : Nat) (w0 : World) (A D : Option Addr) (ns cs nk ck : Nat) (mn mx : Int) : LenC B w0 (.agg #[.int .i64 1, .slice A ns cs, .int .i64 mn, .int .i64 mx, .slice D nk ck]) 1 := by
  intro w _ _
  go_enter Tryz.func39, Tryz.ntmps39
  go_wp2
  go_ret
  exact ⟨rfl, (Below.refl _ _).alloc (Nat.le_refl _) _⟩
set_option maxHeartbeats 2000000 in
theorem len_cat {B c : Nat} {w0 : World} {A D : Option Addr} {ns cs nk ck : Nat} {mn mx : Int} (hT : ∀ w, Below B w0 w → B ≤ w.heap.size → Calls Tryz.prog 63 #[.slice D nk ck] w fun e w' => e = .returned (.int .i64 (c : Int)) ∧ Below w.heap.size w w') : LenC B w0 (.agg #[.int .i64 4, .slice A ns cs, .int .i64 mn, .int .i64 mx, .slice D nk ck]) c := by
  intro w hb hBw
  have HT := Lib.hid (hT (w.alloc (.cells #[.int .i64 4, .slice A ns cs, .int .i64 mn, .int .i64 mx, .slice D nk ck] 27)) (hb.alloc hBw _) (by simp; omega))
  clear hT
  go_enter Tryz.func39, Tryz.ntmps39
  go_wp2_with (go_at_call 63; (with_reducible refine HT.out.mono ?_); rintro e w1 ⟨rfl, hb1⟩; have H1 := Lib.hid (((Below.refl w.heap.size w).alloc (Nat.le_refl _) (.cells #[.int .i64 4, .slice A ns cs, .int .i64 mn, .int .i64 mx, .slice D nk ck] 27)).trans (hb1.mono (by simp))); clear hb1)
  go_ret
  exact ⟨rfl, H1.out⟩
end Go.Proofs.YtaapbmdojkjphaaGreat
namespace Go.Proofs.YtaapbmdojkjphaaGreat
open Go Go.RowKit
set_option linter.unusedVariables false
set_option maxRecDepth 20000
theorem NodeAl {w : World} {g : Nat} {cs : Array Value} {ty : TypeId} {fr : Nat × Nat} (h : w.heap[g]? = some (.cells cs ty fr)) (o : Obj) : (w.alloc o).heap[g]? = some (.cells cs ty fr) := hp_old h
end Go.Proofs.YtaapbmdojkjphaaGreat
