/- The writer's counts. -/
import Derived.Test.YtegcebgoiocakaaM03
import Derived.Test.YtegcebgoiocakaaM14
import Derived.Test.YtegcebgoiocakaaP02
namespace Go.Proofs.Ytegcebgoiocakaa
open Go Go.RowKit
set_option linter.unusedVariables false
set_option maxRecDepth 20000

set_option maxHeartbeats 4000000 in
theorem counts_gen {A D : Option Addr} {ns cs nk ck : Nat} {op mx : Int} (mn mo : Nat) (hmn : mn ≤ 1000) (hmx : -1 ≤ mx) (hmx2 : mx ≤ 1000) (hmo : (mo : Int) = max mx (mn : Int) - (mn : Int)) (w : World) :
    Calls Try.prog 62 #[.agg #[.int .i64 op, .slice A ns cs, .int .i64 (mn : Int), .int .i64 mx, .slice D nk ck]] w fun e w' => e = .returned (.tuple #[.int .i64 (mn : Int), .int .i64 (mo : Int)]) ∧ Below w.heap.size w w' := by
  have m1 : max (mn : Int) 0 = (mn : Int) := by omega
  obtain ⟨M, hM⟩ : ∃ M, M = max mx (mn : Int) := ⟨_, rfl⟩
  rw [← hM] at hmo
  have m2 : max mx (mn : Int) = M := hM.symm
  have hw : IntKind.i64.wrap (M - (mn : Int)) = (mo : Int) := by rw [IntKind.wrap_i64]; omega
  clear hM hmo
  go_enter Try.func62, Try.ntmps62
  go_wp2_with fail
  go_region
  all_goals
    go_wp2
    go_ret2
    exact ⟨rfl, ((Below.refl _ _).alloc (Nat.le_refl _) _).drew⟩
/-- No set lies there. -/
def NoSet (O : Option Nat) (xs : List IV) : Prop := ∀ x ∈ xs, ∀ b o, 0 < x.n → x.A = some ⟨b, o, none⟩ → O ≠ some b
theorem NoSet.new {w : World} {xs xs' : List IV} {O : Option Nat} (h : NoSet O xs) (k : NewS w xs xs') (he : ∀ b, O = some b → b < w.heap.size) : NoSet O xs' := fun x hx b o hn hA e => by
  rcases k x hx b o hn hA with ⟨y, hy, hyn, o', hyA⟩ | h1
  · exact h y hy b o' hyn hyA e
  · have := he b e; omega
theorem NoSet.fresh {B g q pc : Nat} {w : World} {P : Option Addr} {xs : List IV} (h : WrS B g w P q pc xs) {O : Option Nat} (he : ∀ b, O = some b → w.heap.size ≤ b) : NoSet O xs := fun x hx b o hn hA e => by
  obtain ⟨b', o', hA', hlt, _⟩ := (h.sets x hx).1.2 hn
  rw [hA] at hA'
  injection hA' with hA'
  injection hA' with e1 _
  have := he b e
  omega
theorem own_type {w : World} {B : Nat} {e : TypeId} {k : Nat} {v : Value} {n : Nat} {xs : List Value} (h : w.ownsRow B e k v n xs) {b : Nat} (hb : v.ownBlock = some b) : ∃ cur fr, w.heap[b]? = some (.cells cur e fr) := by
  rcases h.2 with ⟨e, h0⟩ | ⟨b', cap, cur, e, hB', hb', _⟩
  · rw [e] at hb; cases hb
  · rw [e] at hb
    have hb : some b' = some b := hb
    injection hb with hb
    subst hb
    exact ⟨_, _, hb'⟩
theorem type_ne {w : World} {b : Nat} {c c' : Array Value} {e e' : TypeId} {f f' : Nat × Nat} (h : w.heap[b]? = some (.cells c e f)) (h' : w.heap[b]? = some (.cells c' e' f')) : e = e' := by
  rw [h] at h'
  injection h' with h'
  injection h'
/-- The row of closures grew: the writer stays. -/
theorem WrS.beside {B g q pc : Nat} {w w' : World} {P : Option Addr} {xs : List IV} (h : WrS B g w P q pc xs) {base : Nat} {v : Value} {j : Nat} {fs : List Value} (he : w.ownsRow base 1 1 v j fs) (hn : NoSet v.ownBlock xs) (hs : w.heap.size ≤ w'.heap.size) (hk : ∀ b, b < w.heap.size → v.ownBlock ≠ some b → w'.heap[b]? = w.heap[b]?) : WrS B g w' P q pc xs := by
  have hne : ∀ b c e f, w.heap[b]? = some (.cells c e f) → e ≠ 1 → v.ownBlock ≠ some b := fun b c e f hb he' hO => by
    obtain ⟨cur, fr, h1⟩ := own_type he hO
    exact he' (type_ne hb h1)
  refine ⟨(hk g h.lt (hne g _ _ _ h.hg (by decide))).trans h.hg, h.hB, row_keep h.row fun k hk' hv => hk k hk' (by
    obtain ⟨cur, fr, h1⟩ := own_type h.row hv
    exact hne k _ _ _ h1 (by decide)), h.ne, fun x hx => ?_⟩
  have h1 := h.sets x hx
  have h2 : RowF (fun b => FW B g (.slice P q pc) b ∧ v.ownBlock ≠ some b) w x.A x.n x.i.set := ⟨h1.1, fun b o hn' hA => ⟨h1.2 b o hn' hA, hn x hx b o hn' hA⟩⟩
  exact h2.move hs fun b hF hlt => ⟨hF.1, hk b hlt hF.2⟩
theorem StY.beside {B g q pc c pc' : Nat} {w w' w'' : World} {P P' : Option Addr} {xs xs' : List IV} (h : StY B g w P q pc xs c w' P' pc' xs') {base : Nat} {v : Value} {j : Nat} {fs : List Value} (he : w'.ownsRow base 1 1 v j fs) (hn : NoSet v.ownBlock xs') (hbase : w.heap.size ≤ base) (hB : Below B w' w'') (hs : w'.heap.size ≤ w''.heap.size) (hk : ∀ b, b < w'.heap.size → v.ownBlock ≠ some b → w''.heap[b]? = w'.heap[b]?) : StY B g w P q pc xs c w'' P' pc' xs' :=
  ⟨h.1.beside he hn hs hk, h.2.1, ⟨h.2.2.1.1.trans hB, Nat.le_trans h.2.2.1.2.1 hs, fun b hb h1 h2 => (hk b (Nat.lt_of_lt_of_le hb h.2.2.1.2.1) (fun e => by have := (row_lt he e).1; omega)).trans (h.2.2.1.2.2 b hb h1 h2)⟩, h.2.2.2⟩
/-- A closure of a split. -/
structure Cl where
  bx : Nat
  ix : Nat
  i : Nat
def Cl.val (t : Cl) : Value := .func (Fn.func 101) #[] #[.pointer (some ⟨t.bx, 0, none⟩), .pointer (some ⟨t.ix, 0, none⟩)]
/-- Closures whose boxes lie beside the writer. -/
def ClsIn (w : World) (g : Nat) (V : Value) (lo hi : Nat) (l : List Cl) : Prop := ∀ t ∈ l, HereAt w t.bx t.ix g t.i ∧ t.bx ≠ g ∧ t.ix ≠ g ∧ V.ownBlock ≠ some t.bx ∧ V.ownBlock ≠ some t.ix ∧ lo ≤ t.i ∧ t.i < hi
theorem ClsIn.keep {B g lo hi hi' : Nat} {w w' : World} {V V' : Value} {l : List Cl} (h : ClsIn w g V lo hi l) (hk : Wk B g V w w') (hv : Vk w V V') (hh : hi ≤ hi') : ClsIn w' g V' lo hi' l := fun t ht => by
  obtain ⟨h1, h2, h3, h4, h5, h6, h7⟩ := h t ht
  exact ⟨h1.keep hk h2 h3 h4 h5, h2, h3, hv _ h1.lt.1 h4, hv _ h1.lt.2 h5, h6, by omega⟩
theorem ClsIn.beside {g lo hi base j : Nat} {w w' : World} {V v : Value} {l : List Cl} {fs : List Value} (h : ClsIn w g V lo hi l) (he : w.ownsRow base 1 1 v j fs) (hk : ∀ b, b < w.heap.size → v.ownBlock ≠ some b → w'.heap[b]? = w.heap[b]?) : ClsIn w' g V lo hi l := fun t ht => by
  obtain ⟨h1, h2, h3, h4, h5, h6, h7⟩ := h t ht
  have hne : ∀ b c e f, w.heap[b]? = some (.cells c e f) → e ≠ 1 → v.ownBlock ≠ some b := fun b c e f hb he' hO => by
    obtain ⟨cur, fr, h1⟩ := own_type he hO
    exact he' (type_ne hb h1)
  exact ⟨⟨(hk _ h1.lt.1 (hne _ _ _ _ h1.1 (by decide))).trans h1.1, (hk _ h1.lt.2 (hne _ _ _ _ h1.2 (by decide))).trans h1.2⟩, h2, h3, h4, h5, h6, h7⟩
theorem info_fun : (Try.prog.info? 1).map (fun i => (i.zero, i.size, i.bytes)) = some (some .nilFunc, 1, 8) := by kernel_rfl
/-- One closure more in a row of the call's own. -/
theorem pushF {w : World} {B : Nat} {E : Option Addr} {j ec : Nat} {l : List Cl} (h : w.ownsRow B 1 1 (.slice E j ec) j (l.map Cl.val)) (t : Cl) {d : Nat} (hd : w.heap[d]? = some (.cells #[t.val] 1 (0, 0))) (hj : j ≤ 100000) (hB : B ≤ w.heap.size) :
    ∃ E' ec' w', (Builtin.append_ #[139, 139] 139 #[.slice E j ec, .slice (some ⟨d, 0, none⟩) 1 1]).run Try.prog w = .ok (.slice E' (j + 1) ec') w' ∧ w'.ownsRow B 1 1 (.slice E' (j + 1) ec') (j + 1) ((l ++ [t]).map Cl.val) ∧
      Below B w w' ∧ w.heap.size ≤ w'.heap.size ∧ (∀ b, b < w.heap.size → (Value.slice E j ec).ownBlock ≠ some b → w'.heap[b]? = w.heap[b]?) ∧ ((Value.slice E' (j + 1) ec').ownBlock = (Value.slice E j ec).ownBlock ∨ (Value.slice E' (j + 1) ec').ownBlock = some w.heap.size) := by
  obtain ⟨i0, hi, hz0, hz1, hz2⟩ := info_parts info_fun
  obtain ⟨V', w', h1, h2, h3, _, h4⟩ := run_append_own_at (P := Try.prog) w B 139 139 1 i0 _ 1 8 Try.underlying139 hi hz0 hz1 hz2 rfl (by decide) _ j _ h ⟨d, 0, none⟩ 1 1 [t.val] rfl (fun k u hu => by
    rcases k with _ | k
    · injection hu with hu
      subst hu
      rw [show (⟨d, 0, none⟩ : Addr).add 0 = ⟨d, 0, none⟩ by rfl, cell_of_row w d 0 _ 1 (0, 0) hd]
      rfl
    · simp at hu) (by intro u hu; rw [List.mem_singleton] at hu; subst hu; rfl) (by unfold maxLen; omega) (by omega) hB
  have hb' : Below B w w' := (Below.refl _ _).grown h3 hB (by intro k hk; exact (row_lt h hk).1)
  have e : l.map Cl.val ++ [t.val] = (l ++ [t]).map Cl.val := by simp
  rw [e] at h2
  obtain ⟨E', ec', rfl⟩ : ∃ E' ec', V' = .slice E' (j + 1) ec' := by
    rcases h2.2 with ⟨rfl, h0⟩ | ⟨b, cap, cu, rfl, _⟩
    · omega
    · exact ⟨_, _, rfl⟩
  exact ⟨E', ec', w', h1, h2, hb', h3.size, fun b hb hne => h3.block b hb fun e => hne e.symm, h4⟩
theorem fun_ne {w : World} {base : Nat} {v : Value} {j : Nat} {fs : List Value} (he : w.ownsRow base 1 1 v j fs) {b : Nat} {c : Array Value} {e : TypeId} {f : Nat × Nat} (hb : w.heap[b]? = some (.cells c e f)) (hne : e ≠ 1) : v.ownBlock ≠ some b := fun hO => by
  obtain ⟨cur, fr, h1⟩ := own_type he hO
  exact hne (type_ne hb h1)
/-- What the writer does leaves the row of closures as it is. -/
theorem ends_keep {B g q pc : Nat} {w w' : World} {P : Option Addr} {xs : List IV} (h : WrS B g w P q pc xs) {base : Nat} {v : Value} {j : Nat} {fs : List Value} (he : w.ownsRow base 1 1 v j fs) (hk : Wk B g (.slice P q pc) w w') : w'.ownsRow base 1 1 v j fs := row_keep he fun b hb hv => hk.2.2 b hb (fun e => by
    subst e
    exact fun_ne he h.hg (by decide) hv) (fun e => by
    obtain ⟨cur, fr, h1⟩ := own_type h.row e
    exact fun_ne he h1 (by decide) hv)
theorem StY.below {B g q pc c pc' : Nat} {w w' w'' : World} {P P' : Option Addr} {xs xs' : List IV} (h : StY B g w P q pc xs c w' P' pc' xs') (hb : Below w'.heap.size w' w'') : StY B g w P q pc xs c w'' P' pc' xs' :=
  ⟨h.1.below hb, h.2.1, h.2.2.1.trans h.2.2.2 (Wk.of_below (by have := h.1.lt; have := h.1.hB; omega) hb), h.2.2.2⟩
theorem ClsIn.below {g lo hi : Nat} {w w' : World} {V : Value} {l : List Cl} (h : ClsIn w g V lo hi l) (hb : Below w.heap.size w w') : ClsIn w' g V lo hi l := fun t ht => by
  obtain ⟨h1, h2⟩ := h t ht
  exact ⟨⟨(hb.block _ h1.lt.1).trans h1.1, (hb.block _ h1.lt.2).trans h1.2⟩, h2⟩
theorem ends_at {w : World} {base : Nat} {E : Option Addr} {n ec : Nat} {l : List Cl} (h : w.ownsRow base 1 1 (.slice E n ec) n (l.map Cl.val)) {i : Nat} (hi : i < n) : ∃ eb t, E = some ⟨eb, 0, none⟩ ∧ l[i]? = some t ∧ w.cell? ⟨eb, i, none⟩ = some (.func (Fn.func 101) #[] #[.pointer (some ⟨t.bx, 0, none⟩), .pointer (some ⟨t.ix, 0, none⟩)]) := by
  have hl := h.1
  rw [List.length_map] at hl
  obtain ⟨t, ht⟩ : ∃ t, l[i]? = some t := ⟨_, List.getElem?_eq_getElem (by omega)⟩
  rcases h.2 with ⟨e, h0⟩ | ⟨g, cap, cur, e, hB, hg, hnc, hcm, hcs, ht'⟩
  · omega
  · injection e with e1 _ e3
    subst e1; subst e3
    refine ⟨g, t, rfl, ht, ?_⟩
    have h1 : (l.map Cl.val)[i]? = some t.val := by rw [List.getElem?_map, ht]; rfl
    rw [cell_of_row w g i cur 1 (0, 0) hg, ← Array.getElem?_toList]
    rw [← ht', List.getElem?_take_of_lt (by omega)] at h1
    exact h1
/-- What is known between the rounds in which a count puts its splits. -/
structure Oft (B g : Nat) (w : World) (P : Option Addr) (q pc : Nat) (xs : List IV) (bx : Array Value) (C : Nat) (E : Option Addr) (k ec : Nat) (l : List Cl) (wr : World) (P' : Option Addr) (pc' : Nat) (xs' : List IV) : Prop where
  st : StY B g w P q pc xs C wr P' pc' xs'
  ends : wr.ownsRow w.heap.size 1 1 (.slice E k ec) k (l.map Cl.val)
  no : NoSet (Value.slice E k ec).ownBlock xs'
  cls : ClsIn wr g (.slice P' (q + C) pc') q (q + C) l
  box : wr.heap[w.heap.size]? = some (.cells bx 52 (0, 0))
  far : (Value.slice P' (q + C) pc').ownBlock ≠ some w.heap.size
/-- A split, kept among the closures. -/
theorem Oft.push {B g q pc C k ec pc' : Nat} {w wr : World} {P P' E : Option Addr} {xs xs' : List IV} {bx : Array Value} {l : List Cl} (h : Oft B g w P q pc xs bx C E k ec l wr P' pc' xs') (hgl : g < w.heap.size) (hk : k ≤ 100000)
    {w2 : World} {b i : Nat} {P1 : Option Addr} {pc1 : Nat} {xs1 : List IV} (hh : HereAt w2 b i g (q + C)) (hb : wr.heap.size ≤ b) (hi : wr.heap.size ≤ i) (hs : StY B g wr P' (q + C) pc' xs' 1 w2 P1 pc1 xs1) (h4 : (Value.slice P1 (q + C + 1) pc1).ownBlock ≠ some b) (h5 : (Value.slice P1 (q + C + 1) pc1).ownBlock ≠ some i) :
    ∃ E' ec' W3, (Builtin.append_ #[139, 139] 139 #[.slice E k ec, .slice (some ⟨w2.heap.size, 0, none⟩) 1 1]).run Try.prog (w2.alloc (.cells #[.func (Fn.func 101) #[] #[.pointer (some ⟨b, 0, none⟩), .pointer (some ⟨i, 0, none⟩)]] 1)) = .ok (.slice E' (k + 1) ec') W3 ∧
      Oft B g w P q pc xs bx (C + 1) E' (k + 1) ec' (l ++ [⟨b, i, q + C⟩]) W3 P1 pc1 xs1 := by
  have hwr : w.heap.size ≤ wr.heap.size := h.st.2.2.1.2.1
  have hw2 : wr.heap.size ≤ w2.heap.size := hs.2.2.1.2.1
  obtain ⟨W, hW⟩ : ∃ W, W = w2.alloc (.cells #[(⟨b, i, q + C⟩ : Cl).val] 1) := ⟨_, rfl⟩
  have hbW : Below w2.heap.size w2 W := by rw [hW]; exact (Below.refl _ _).alloc (Nat.le_refl _) _
  have he2 := ends_keep h.st.1 h.ends hs.2.2.1
  have heW : W.ownsRow w.heap.size 1 1 (.slice E k ec) k (l.map Cl.val) := row_keep he2 fun x hx _ => hbW.block x hx
  have hT := h.st.trans hs
  have hTW := hT.below hbW
  obtain ⟨ys, _, _, _, hnew⟩ := hs.2.1
  have hno1 : NoSet (Value.slice E k ec).ownBlock xs1 := h.no.new hnew fun x hx => (row_lt h.ends hx).2
  obtain ⟨E', ec', W3, hap, ho3, hb3, hs3, hk3, hown⟩ := pushF heW ⟨b, i, q + C⟩ (d := w2.heap.size) (by rw [hW]; exact hp_new rfl) hk (by have := hbW.size; omega)
  rw [hW] at hap
  have hBw : B ≤ w.heap.size := by have := h.st.1.hB; omega
  have hT3 := hTW.beside heW hno1 (Nat.le_refl _) (hb3.mono hBw) hs3 hk3
  have hgg : b ≠ g ∧ i ≠ g := by constructor <;> omega
  have hclsW : ClsIn W g (.slice P1 (q + (C + 1)) pc1) q (q + (C + 1)) (l ++ [⟨b, i, q + C⟩]) := fun t ht => by
    rcases List.mem_append.1 ht with ht | ht
    · exact ((h.cls.keep (hi' := q + (C + 1)) hs.2.2.1 hs.2.2.2 (by omega)).below hbW) t ht
    · rw [List.mem_singleton] at ht
      subst ht
      exact ⟨⟨(hbW.block _ hh.lt.1).trans hh.1, (hbW.block _ hh.lt.2).trans hh.2⟩, hgg.1, hgg.2, h4, h5, by show q ≤ q + C; omega, by show q + C < q + (C + 1); omega⟩
  have hbl : w.heap.size < wr.heap.size := (Array.getElem?_eq_some_iff.1 h.box).1
  have hbx2 := (hs.2.2.1.2.2 _ hbl (by omega) h.far).trans h.box
  have hbxW := (hbW.block _ (by omega)).trans hbx2
  refine ⟨E', ec', W3, hap, hT3, ho3, ?_, hclsW.beside heW hk3, (hk3 _ (by have := hbW.size; omega) (fun_ne heW hbxW (by decide))).trans hbxW, hs.2.2.2 _ hbl h.far⟩
  rcases hown with e | e
  · rw [e]; exact hno1
  · rw [e]; exact NoSet.fresh hTW.1 fun x hx => by injection hx with hx; omega
/-- What the writer puts next. -/
theorem Oft.more {B g q pc C c k ec pc' : Nat} {w wr w4 : World} {P P' E : Option Addr} {xs xs' : List IV} {bx : Array Value} {l : List Cl} (h : Oft B g w P q pc xs bx C E k ec l wr P' pc' xs') (hgl : g < w.heap.size) {P2 : Option Addr} {pc2 : Nat} {xs2 : List IV} (hs : StY B g wr P' (q + C) pc' xs' c w4 P2 pc2 xs2) : Oft B g w P q pc xs bx (C + c) E k ec l w4 P2 pc2 xs2 := by
  obtain ⟨ys, _, _, _, hnew⟩ := hs.2.1
  have hbl : w.heap.size < wr.heap.size := (Array.getElem?_eq_some_iff.1 h.box).1
  refine ⟨h.st.trans hs, ends_keep h.st.1 h.ends hs.2.2.1, h.no.new hnew fun x hx => (row_lt h.ends hx).2, ?_, (hs.2.2.1.2.2 _ hbl (by omega) h.far).trans h.box, ?_⟩
  · have := h.cls.keep (hi' := q + (C + c)) hs.2.2.1 hs.2.2.2 (by omega)
    rw [Nat.add_assoc] at this
    exact this
  · have := hs.2.2.2 _ hbl h.far
    rw [Nat.add_assoc] at this
    exact this
end Go.Proofs.Ytegcebgoiocakaa
