/- The ways of a program: rows that grow. -/
import Derived.Test.YtegcebgoiocakaaM03
import Derived.Test.YtegcebgoiocakaaM06
import Derived.Test.YtegcebgoiocakaaM07
import Derived.Test.YtegcebgoiocakaaM09
import Derived.Deep.RegionLaw
import Derived.Deep.OwnRows
import Derived.Laws.Bits64b
import Derived.Laws.CopyRow
import Derived.Laws.CopyOwn
import Derived.BigRegion
namespace Go.Proofs.Ytegcebgoiocakaa
open Go Go.RowKit
set_option linter.unusedVariables false
set_option maxRecDepth 20000

/-- One way more: onward from where it begins, back from where it leads. -/
def addWay (back : Bool) (W : List (List (Nat × Nat))) (ft : Nat × Nat) : List (List (Nat × Nat)) :=
  if back then W.modify ft.2 (· ++ [(ft.1, ft.1)]) else W.modify ft.1 (· ++ [ft])
def buildW (back : Bool) (n : Nat) (es : List (Nat × Nat)) : List (List (Nat × Nat)) := es.foldl (addWay back) (List.replicate n [])
theorem buildW_snoc (back : Bool) (n : Nat) (es : List (Nat × Nat)) (ft : Nat × Nat) : buildW back n (es ++ [ft]) = addWay back (buildW back n es) ft := by simp [buildW]
theorem addWay_len (back : Bool) (W : List (List (Nat × Nat))) (ft : Nat × Nat) : (addWay back W ft).length = W.length := by unfold addWay; cases back <;> simp
theorem buildW_len (back : Bool) (n : Nat) (es : List (Nat × Nat)) : (buildW back n es).length = n := by
  unfold buildW
  have : ∀ (es : List (Nat × Nat)) (W : List (List (Nat × Nat))), (es.foldl (addWay back) W).length = W.length := by
    intro es
    induction es with
    | nil => intro W; rfl
    | cons x l ih => intro W; rw [List.foldl_cons, ih, addWay_len]
  rw [this]; simp
def keyW (back : Bool) (ft : Nat × Nat) : Nat := if back then ft.2 else ft.1
def wayW (back : Bool) (ft : Nat × Nat) : Nat × Nat := if back then (ft.1, ft.1) else ft
theorem addWay_eq (back : Bool) (W : List (List (Nat × Nat))) (ft : Nat × Nat) : addWay back W ft = W.modify (keyW back ft) (· ++ [wayW back ft]) := by unfold addWay keyW wayW; cases back <;> rfl
theorem mem_buildW {back : Bool} {n : Nat} {es : List (Nat × Nat)} : ∀ {i : Nat} {ws : List (Nat × Nat)}, (buildW back n es)[i]? = some ws → ∀ w, w ∈ ws ↔ ∃ ft ∈ es, keyW back ft = i ∧ wayW back ft = w := by
  have key : ∀ (r : List (Nat × Nat)) (i : Nat) (ws : List (Nat × Nat)), (buildW back n r.reverse)[i]? = some ws → ∀ w, w ∈ ws ↔ ∃ ft ∈ r, keyW back ft = i ∧ wayW back ft = w := by
    intro r
    induction r with
    | nil =>
      intro i ws h w
      simp [buildW, List.getElem?_replicate] at h
      rw [h.2]; simp
    | cons x r ih =>
      intro i ws h w
      rw [List.reverse_cons, buildW_snoc, addWay_eq, List.getElem?_modify] at h
      obtain ⟨ws0, h0, h1⟩ := Option.map_eq_some_iff.1 h
      have ih0 := ih i ws0 h0 w
      by_cases hk : keyW back x = i
      · rw [if_pos hk] at h1
        rw [← h1, List.mem_append, ih0, List.mem_singleton]
        constructor
        · rintro (⟨ft, h2, h3⟩ | h2)
          · exact ⟨ft, List.mem_cons_of_mem _ h2, h3⟩
          · exact ⟨x, List.mem_cons_self, hk, h2.symm⟩
        · rintro ⟨ft, h2, h3, h4⟩
          rcases List.mem_cons.1 h2 with rfl | h2
          · exact .inr h4.symm
          · exact .inl ⟨ft, h2, h3, h4⟩
      · rw [if_neg hk] at h1
        have h1 : ws0 = ws := h1
        rw [← h1, ih0]
        constructor
        · rintro ⟨ft, h2, h3⟩
          exact ⟨ft, List.mem_cons_of_mem _ h2, h3⟩
        · rintro ⟨ft, h2, h3, h4⟩
          rcases List.mem_cons.1 h2 with rfl | h2
          · exact absurd h3 hk
          · exact ⟨ft, h2, h3, h4⟩
  intro i ws h w
  have := key es.reverse i ws (by rw [List.reverse_reverse]; exact h) w
  simpa using this
theorem buildW_row_len {back : Bool} {n : Nat} {es : List (Nat × Nat)} : ∀ {i : Nat} {ws : List (Nat × Nat)}, (buildW back n es)[i]? = some ws → ws.length ≤ es.length := by
  have key : ∀ (r : List (Nat × Nat)) (i : Nat) (ws : List (Nat × Nat)), (buildW back n r.reverse)[i]? = some ws → ws.length ≤ r.length := by
    intro r
    induction r with
    | nil =>
      intro i ws h
      simp [buildW, List.getElem?_replicate] at h
      rw [h.2]; simp
    | cons x r ih =>
      intro i ws h
      rw [List.reverse_cons, buildW_snoc, addWay_eq, List.getElem?_modify] at h
      obtain ⟨ws0, h0, h1⟩ := Option.map_eq_some_iff.1 h
      have ih0 := ih i ws0 h0
      have : ws.length ≤ ws0.length + 1 := by rw [← h1]; split <;> simp
      simp; omega
  intro i ws h
  have := key es.reverse i ws (by rw [List.reverse_reverse]; exact h)
  simpa using this
/-- All that a program goes on, of its first instructions. -/
def edgesL (p : List InstL) : List (Nat × Nat) := (List.range p.length).flatMap fun i => match p[i]? with | some v => (outs v).map fun t => (i, t) | none => []
theorem mem_edgesL {p : List InstL} {f t : Nat} : (f, t) ∈ edgesL p ↔ ∃ v, p[f]? = some v ∧ t ∈ outs v := by
  unfold edgesL
  rw [List.mem_flatMap]
  constructor
  · rintro ⟨i, _, h⟩
    cases hv : p[i]? with
    | none => rw [hv] at h; simp at h
    | some v =>
      rw [hv] at h
      obtain ⟨t', h1, h2⟩ := List.mem_map.1 h
      injection h2 with h2 h3
      subst h2; subst h3
      exact ⟨v, hv, h1⟩
  · rintro ⟨v, hv, ht⟩
    exact ⟨f, List.mem_range.2 (List.getElem?_eq_some_iff.1 hv).1, by rw [hv]; exact List.mem_map.2 ⟨t, ht, rfl⟩⟩
theorem onward_build (p : List InstL) : Onward p (buildW false p.length (edgesL p)) := ⟨buildW_len _ _ _, fun i ws h b t => by
  rw [mem_buildW h]
  constructor
  · rintro ⟨⟨f, t'⟩, h1, h2, h3⟩
    have h2 : f = i := h2
    have h3 : (f, t') = (b, t) := h3
    injection h3 with h3 h4
    subst h3; subst h4; subst h2
    exact ⟨rfl, mem_edgesL.1 h1⟩
  · rintro ⟨rfl, h1⟩
    exact ⟨(b, t), mem_edgesL.2 h1, rfl, rfl⟩⟩
theorem back_build (p : List InstL) : BackW p (buildW true p.length (edgesL p)) := ⟨buildW_len _ _ _, fun i ws h b t => by
  rw [mem_buildW h]
  constructor
  · rintro ⟨⟨f, t'⟩, h1, h2, h3⟩
    have h2 : t' = i := h2
    have h3 : (f, f) = (b, t) := h3
    injection h3 with h3 h4
    subst h3; subst h4; subst h2
    exact ⟨rfl, mem_edgesL.1 h1⟩
  · rintro ⟨rfl, h1⟩
    exact ⟨(b, i), mem_edgesL.2 h1, rfl, rfl⟩⟩

theorem info_way : (Try.prog.info? 123).map (fun i => (i.zero, i.size, i.bytes)) = some (some (.agg #[.int .i64 0, .int .i64 0]), 2, 16) := by kernel_rfl
/-- The rows of ways while they grow: their list is boxed at bx, lies at gw. -/
structure Bld (back : Bool) (B gw bx n : Nat) (w : World) (es : List (Nat × Nat)) (Vs : List Value) : Prop where
  hbx : w.heap[bx]? = some (.cells #[.slice (some ⟨gw, 0, none⟩) n n] 86 (0, 0))
  hgw : w.heap[gw]? = some (.cells Vs.toArray 121 (0, 0))
  hl : Vs.length = n
  hB : B ≤ bx ∧ B ≤ gw
  rows : ∀ (i : Nat) (V : Value) (ws : List (Nat × Nat)), Vs[i]? = some V → (buildW back n es)[i]? = some ws → ∃ P c, V = .slice P ws.length c ∧ w.ownsRow B 123 2 (.slice P ws.length c) ws.length (cellsS ws)
  ne : ∀ (i j : Nat) (U V : Value), i ≠ j → Vs[i]? = some U → Vs[j]? = some V → ∀ k, U.ownBlock = some k → V.ownBlock ≠ some k
section
variable {back : Bool} {B gw bx n : Nat} {w w' : World} {es : List (Nat × Nat)} {Vs : List Value}
theorem Bld.lt (h : Bld back B gw bx n w es Vs) : gw < w.heap.size ∧ bx < w.heap.size ∧ gw ≠ bx := by
  refine ⟨(Array.getElem?_eq_some_iff.1 h.hgw).1, (Array.getElem?_eq_some_iff.1 h.hbx).1, ?_⟩
  rintro rfl
  have h1 := h.hgw
  rw [h.hbx] at h1
  injection h1 with h1
  injection h1 with _ h1 _
  exact absurd h1 (by decide)
theorem Bld.keep (h : Bld back B gw bx n w es Vs) (hb : Below w.heap.size w w') : Bld back B gw bx n w' es Vs :=
  ⟨(hb.block bx h.lt.2.1).trans h.hbx, (hb.block gw h.lt.1).trans h.hgw, h.hl, h.hB, fun i V ws h1 h2 => by
    obtain ⟨P, c, e, ho⟩ := h.rows i V ws h1 h2
    exact ⟨P, c, e, row_keep ho fun k hk _ => hb.block k hk⟩, h.ne⟩
/-- All but the list of rows, and rows of ways, stays. -/
def KpW (gw : Nat) (w w' : World) : Prop := ∀ k o, w.heap[k]? = some o → k ≠ gw → (∀ cs f, o ≠ Obj.cells cs 123 f) → w'.heap[k]? = some o
/-- What is behind the append of a way. -/
def WayR (back : Bool) (B gw bx n : Nat) (w : World) (es : List (Nat × Nat)) (Vs : List Value) (ft : Nat × Nat) (key q : Nat) (v' : Value) (w' : World) : Prop :=
  ∃ P' c', v' = .slice P' (q + 1) c' ∧ (∃ u, w'.cell? ⟨gw, key, none⟩ = some u) ∧ w'.frozen? ⟨gw, key, none⟩ = false ∧ w'.cell? ⟨bx, 0, none⟩ = some (.slice (some ⟨gw, 0, none⟩) n n) ∧
    Bld back B gw bx n (w'.setCell ⟨gw, key, none⟩ (.slice P' (q + 1) c')) (es ++ [ft]) (Vs.set (key) (.slice P' (q + 1) c')) ∧ Below B w (w'.setCell ⟨gw, key, none⟩ (.slice P' (q + 1) c')) ∧ KpW gw w (w'.setCell ⟨gw, key, none⟩ (.slice P' (q + 1) c'))
theorem Bld.push (h : Bld back B gw bx n w es Vs) {ft : Nat × Nat} {key : Nat} (hkey : keyW back ft = key) (hk : key < n) {V : Value} (hV : Vs[key]? = some V) {ws : List (Nat × Nat)} (hw : (buildW back n es)[key]? = some ws) (hq : ws.length ≤ 100000) {P : Option Addr} {c : Nat} (hVP : V = .slice P ws.length c) {X : World} (hX : Below w.heap.size w X) {d : Nat} (hd : X.heap[d]? = some (.cells #[.int .i64 ((wayW back ft).1 : Int), .int .i64 ((wayW back ft).2 : Int)] 123 (0, 0))) :
    ∃ v' w', (Builtin.append_ #[121, 121] 121 #[.slice P ws.length c, .slice (some ⟨d, 0, none⟩) 1 1]).run Try.prog X = .ok v' w' ∧ WayR back B gw bx n w es Vs ft key ws.length v' w' := by
  subst hkey
  obtain ⟨i0, hi, hz0, hz1, hz2⟩ := info_parts info_way
  have hBX : B ≤ X.heap.size := by have := hX.size; have := h.lt; have := h.hB; omega
  have hBw : B ≤ w.heap.size := by have := h.lt; have := h.hB; omega
  obtain ⟨P0, c0, e0, ho⟩ := h.rows _ V ws hV hw
  rw [hVP] at e0
  injection e0 with e1 _ e2
  subst e1; subst e2
  have hoX := row_keep ho fun k hk _ => hX.block k hk
  have hcells : ∀ j u, [Value.int .i64 ((wayW back ft).1 : Int), .int .i64 ((wayW back ft).2 : Int)][j]? = some u → X.cell? ((⟨d, 0, none⟩ : Addr).add j) = some u := by
    intro j u hu
    rw [show (⟨d, 0, none⟩ : Addr).add j = ⟨d, 0 + j, none⟩ by unfold Addr.add; split <;> simp_all, cell_of_row X d (0 + j) _ 123 (0, 0) hd, Nat.zero_add]
    simpa using hu
  obtain ⟨V', w', h1, h2, h3, _, h4⟩ := run_append_own_at (P := Try.prog) X B 121 121 123 i0 _ 2 16 Try.underlying121 hi hz0 hz1 hz2 rfl (by decide) _ ws.length _ hoX ⟨d, 0, none⟩ 1 1 _ rfl hcells (by simp [Value.oneCell']) (by unfold maxLen; omega) (by omega) hBX
  have e1 : cellsS ws ++ [Value.int .i64 ((wayW back ft).1 : Int), .int .i64 ((wayW back ft).2 : Int)] = cellsS (ws ++ [wayW back ft]) := by rw [cellsS_append]; rfl
  rw [e1] at h2
  obtain ⟨P', c', rfl⟩ : ∃ P' c', V' = .slice P' (ws.length + 1) c' := by
    rcases h2.2 with ⟨rfl, h0⟩ | ⟨b, cap, cu, rfl, _⟩
    · omega
    · exact ⟨_, _, rfl⟩
  have hgX := (hX.block gw h.lt.1).trans h.hgw
  have hbX := (hX.block bx h.lt.2.1).trans h.hbx
  have hg' := (h3.block gw (Array.getElem?_eq_some_iff.1 hgX).1 fun e => row_ne_blk hoX hgX (by decide) e.symm).trans hgX
  have hb' := (h3.block bx (Array.getElem?_eq_some_iff.1 hbX).1 fun e => row_ne_blk hoX hbX (by decide) e.symm).trans hbX
  have hoth : ∀ k, k ≠ gw → (w'.setCell ⟨gw, keyW back ft, none⟩ (.slice P' (ws.length + 1) c')).heap[k]? = w'.heap[k]? := fun k hk => Below.heap_setCell _ _ _ _ hk
  have hset := heap_setCell_same w' gw (keyW back ft) _ _ (.slice P' (ws.length + 1) c') hg'
  have hbelow : Below B w w' := (hX.mono hBw).grown h3 hBX fun k hk => (row_lt hoX hk).1
  refine ⟨_, w', h1, P', c', rfl, ⟨V, ?_⟩, by simp [World.frozen?, hg'], cell_of_row w' bx 0 _ _ (0, 0) hb', ⟨(hoth bx (Ne.symm h.lt.2.2)).trans hb', ?_, by rw [List.length_set]; exact h.hl, h.hB, fun i U us hU hus => ?_, fun i j U U2 hij hU hU2 k hk1 hk2 => ?_⟩, hbelow.setCell (p := ⟨gw, keyW back ft, none⟩) h.hB.2 _, fun k o h1 h2 h5 => ?_⟩
  rotate_right
  · have hX1 := (hX.block k (Array.getElem?_eq_some_iff.1 h1).1).trans h1
    rw [hoth k h2, h3.block k (Array.getElem?_eq_some_iff.1 hX1).1 fun e => ?_]
    · exact hX1
    · rcases hoX.2 with ⟨e1, _⟩ | ⟨b, cap, cur, e1, _, hb9, _⟩
      · rw [e1] at e; cases e
      · rw [e1] at e; injection e with e; have e : k = b := e; subst e; rw [hb9] at hX1; injection hX1 with hX1; exact h5 _ _ hX1.symm
  · rw [cell_of_row w' gw (keyW back ft) _ _ (0, 0) hg']; simpa using hV
  · rw [hset]; simp
  · rw [buildW_snoc, addWay_eq, List.getElem?_modify] at hus
    obtain ⟨us0, k1, k2⟩ := Option.map_eq_some_iff.1 hus
    by_cases hik : keyW back ft = i
    · rw [if_pos hik] at k2
      subst hik
      rw [hw] at k1; injection k1 with k1; subst k1
      rw [List.getElem?_set_self (by rw [h.hl]; exact hk)] at hU
      injection hU with hU
      refine ⟨P', c', by rw [← hU, ← k2]; simp, ?_⟩
      rw [← k2, List.length_append]
      exact row_keep h2 fun k hk hv => hoth k fun e => row_ne_blk h2 hg' (by decide) (by rw [← e]; exact hv)
    · rw [if_neg hik] at k2
      have k2 : us0 = us := k2
      subst k2
      rw [List.getElem?_set_ne hik] at hU
      obtain ⟨P2, c2, e2, ho2⟩ := h.rows i U us0 hU k1
      refine ⟨P2, c2, e2, row_keep (row_keep (row_keep ho2 fun k hk _ => hX.block k hk) fun k hk hv => h3.block k hk fun e => ?_) fun k hk hv => hoth k fun e => ?_⟩
      · exact h.ne _ i V U hik hV hU k (by rw [hVP]; exact e.symm) (by rw [e2]; exact hv)
      · have := row_keep (row_keep ho2 fun k hk _ => hX.block k hk) (w' := w') fun k hk hv => h3.block k hk fun e => h.ne _ i V U hik hV hU k (by rw [hVP]; exact e.symm) (by rw [e2]; exact hv)
        exact row_ne_blk this hg' (by decide) (by rw [← e]; exact hv)
  · have old : ∀ (m : Nat) (Z : Value), m ≠ keyW back ft → Vs[m]? = some Z → ∀ k, Z.ownBlock = some k → (Value.slice P' (ws.length + 1) c').ownBlock ≠ some k := fun m Z hm hZ k hk1 hk2 => by
      have hmn : m < n := by have := (List.getElem?_eq_some_iff.1 hZ).1; rw [h.hl] at this; exact this
      obtain ⟨zs, hzs⟩ : ∃ zs, (buildW back n es)[m]? = some zs := ⟨_, List.getElem?_eq_getElem (by rw [buildW_len]; exact hmn)⟩
      obtain ⟨P2, c2, e2, ho2⟩ := h.rows m Z zs hZ hzs
      rcases h4 with h4 | h4
      · exact h.ne m _ Z V hm hZ hV k hk1 (by rw [hVP, ← h4]; exact hk2)
      · rw [h4] at hk2
        injection hk2 with hk2
        have := (row_lt ho2 (k := k) (by rw [← e2]; exact hk1)).2
        have := hX.size
        omega
    by_cases hi : i = keyW back ft
    · subst hi
      rw [List.getElem?_set_self (by rw [h.hl]; exact hk)] at hU
      rw [List.getElem?_set_ne hij] at hU2
      injection hU with hU
      subst hU
      exact old j U2 (Ne.symm hij) hU2 k hk2 hk1
    · rw [List.getElem?_set_ne (Ne.symm hi)] at hU
      by_cases hj : j = keyW back ft
      · subst hj
        rw [List.getElem?_set_self (by rw [h.hl]; exact hk)] at hU2
        injection hU2 with hU2
        subst hU2
        exact old i U hi hU k hk1 hk2
      · rw [List.getElem?_set_ne (Ne.symm hj)] at hU2
        exact h.ne i j U U2 hij hU hU2 k hk1 hk2
end
end Go.Proofs.Ytegcebgoiocakaa
/- eachWay, onward, back. -/
namespace Go.Proofs.Ytegcebgoiocakaa
open Go Go.RowKit Go.Deep
set_option linter.unusedVariables false
set_option maxRecDepth 20000

theorem edgesL_snoc (p : List InstL) (v : InstL) {k : Nat} (hk : p.length = k) : edgesL (p ++ [v]) = edgesL p ++ (outs v).map fun t => (k, t) := by
  unfold edgesL
  rw [List.length_append, List.length_singleton, List.range_succ, List.flatMap_append]
  congr 1
  · have hf : ∀ (r : List Nat), (∀ i ∈ r, i < p.length) → (r.flatMap fun i => match (p ++ [v])[i]? with | some v => (outs v).map fun t => (i, t) | none => []) = r.flatMap fun i => match p[i]? with | some v => (outs v).map fun t => (i, t) | none => [] := by
      intro r
      induction r with
      | nil => intro _; rfl
      | cons i r ih =>
        intro h
        rw [List.flatMap_cons, List.flatMap_cons, ih fun j hj => h j (List.mem_cons_of_mem _ hj), List.getElem?_append_left (h i List.mem_cons_self)]
    exact hf _ fun i hi => List.mem_range.1 hi
  · simp [hk]
set_option maxHeartbeats 8000000 in
theorem onward1_any {B gw bx n : Nat} {w : World} {es : List (Nat × Nat)} {Vs : List Value} (h : Bld false B gw bx n w es Vs) (f t : Nat) (hk : f < n) (hes : es.length ≤ 50000) :
    Calls Try.prog 74 #[.int .i64 (f : Int), .int .i64 (t : Int), .pointer (some ⟨bx, 0, none⟩)] w fun e w' => e = .returned (.tuple #[]) ∧ ∃ Vs', Bld false B gw bx n w' (es ++ [(f, t)]) Vs' ∧ Below B w w' ∧ KpW gw w w' := by
  obtain ⟨V, hV⟩ : ∃ V, Vs[f]? = some V := ⟨_, List.getElem?_eq_getElem (by rw [h.hl]; exact hk)⟩
  obtain ⟨ws, hw⟩ : ∃ ws, (buildW false n es)[f]? = some ws := ⟨_, List.getElem?_eq_getElem (by rw [buildW_len]; exact hk)⟩
  have hwl := buildW_row_len hw
  obtain ⟨P, c, hVP, _⟩ := h.rows _ V ws hV hw
  have HP := Lib.hid fun (X : World) (d : Nat) (hX : Below w.heap.size w X) (hd : X.heap[d]? = some (.cells #[.int .i64 (f : Int), .int .i64 (t : Int)] 123 (0, 0))) => h.push (ft := (f, t)) (key := f) rfl hk hV hw (by omega) hVP hX hd
  have b0 : w.cell? ⟨bx, 0, none⟩ = some (.slice (some ⟨gw, 0, none⟩) n n) := cell_of_row w bx 0 _ _ (0, 0) h.hbx
  have g0 : w.cell? ⟨gw, f, none⟩ = some (.slice P ws.length c) := by rw [cell_of_row w gw (f) _ _ (0, 0) h.hgw, ← hVP]; simpa using hV
  have b0' : ∀ o, (w.alloc o).cell? ⟨bx, 0, none⟩ = some (.slice (some ⟨gw, 0, none⟩) n n) := fun o => Lib.cell?_alloc_some o b0
  have g0' : ∀ o, (w.alloc o).cell? ⟨gw, f, none⟩ = some (.slice P ws.length c) := fun o => Lib.cell?_alloc_some o g0
  have hi1 : (0 : Int) ≤ (f : Int) := by omega
  have hi2 : (f : Int) < (n : Int) := by omega
  obtain ⟨q, hq⟩ : ∃ q, q = ws.length := ⟨_, rfl⟩
  rw [← hq] at HP g0 g0'
  clear h hV hw hVP hwl hq
  go_enter Try.func74, Try.ntmps74
  go_wp2_with fail
  go_region_law (first | (refine step_append_ex rfl (.tmp 10) (.tmp 14) 121 rfl rfl _ _ (by rfl) (by rfl) _ (HP.out _ _ (by first | exact ((Below.refl _ _).alloc (Nat.le_refl _) _) | exact ((Below.refl _ _).alloc (Nat.le_refl _) _).drew | exact ((Below.refl _ _).drew).alloc (Nat.le_refl _) _) (by first | exact hp_new (by simp) | exact hp_drew (hp_new (by simp)))) ?_; intro v' w' hR; obtain ⟨P', c', rfl, ⟨u, hc1⟩, hc2, hc3, hR1, hR2, hR3⟩ := hR))
  all_goals
    go_end0
    exact ⟨rfl, _, hR1, hR2, hR3⟩
set_option maxHeartbeats 8000000 in
theorem back1_any {B gw bx n : Nat} {w : World} {es : List (Nat × Nat)} {Vs : List Value} (h : Bld true B gw bx n w es Vs) (f t : Nat) (hk : t < n) (hes : es.length ≤ 50000) :
    Calls Try.prog 83 #[.int .i64 (f : Int), .int .i64 (t : Int), .pointer (some ⟨bx, 0, none⟩)] w fun e w' => e = .returned (.tuple #[]) ∧ ∃ Vs', Bld true B gw bx n w' (es ++ [(f, t)]) Vs' ∧ Below B w w' ∧ KpW gw w w' := by
  obtain ⟨V, hV⟩ : ∃ V, Vs[t]? = some V := ⟨_, List.getElem?_eq_getElem (by rw [h.hl]; exact hk)⟩
  obtain ⟨ws, hw⟩ : ∃ ws, (buildW true n es)[t]? = some ws := ⟨_, List.getElem?_eq_getElem (by rw [buildW_len]; exact hk)⟩
  have hwl := buildW_row_len hw
  obtain ⟨P, c, hVP, _⟩ := h.rows _ V ws hV hw
  have HP := Lib.hid fun (X : World) (d : Nat) (hX : Below w.heap.size w X) (hd : X.heap[d]? = some (.cells #[.int .i64 (f : Int), .int .i64 (f : Int)] 123 (0, 0))) => h.push (ft := (f, t)) (key := t) rfl hk hV hw (by omega) hVP hX hd
  have b0 : w.cell? ⟨bx, 0, none⟩ = some (.slice (some ⟨gw, 0, none⟩) n n) := cell_of_row w bx 0 _ _ (0, 0) h.hbx
  have g0 : w.cell? ⟨gw, t, none⟩ = some (.slice P ws.length c) := by rw [cell_of_row w gw (t) _ _ (0, 0) h.hgw, ← hVP]; simpa using hV
  have b0' : ∀ o, (w.alloc o).cell? ⟨bx, 0, none⟩ = some (.slice (some ⟨gw, 0, none⟩) n n) := fun o => Lib.cell?_alloc_some o b0
  have g0' : ∀ o, (w.alloc o).cell? ⟨gw, t, none⟩ = some (.slice P ws.length c) := fun o => Lib.cell?_alloc_some o g0
  have hi1 : (0 : Int) ≤ (t : Int) := by omega
  have hi2 : (t : Int) < (n : Int) := by omega
  obtain ⟨q, hq⟩ : ∃ q, q = ws.length := ⟨_, rfl⟩
  rw [← hq] at HP g0 g0'
  clear h hV hw hVP hwl hq
  go_enter Try.func83, Try.ntmps83
  go_wp2_with fail
  go_region_law (first | (refine step_append_ex rfl (.tmp 10) (.tmp 14) 121 rfl rfl _ _ (by rfl) (by rfl) _ (HP.out _ _ (by first | exact ((Below.refl _ _).alloc (Nat.le_refl _) _) | exact ((Below.refl _ _).alloc (Nat.le_refl _) _).drew | exact ((Below.refl _ _).drew).alloc (Nat.le_refl _) _) (by first | exact hp_new (by simp) | exact hp_drew (hp_new (by simp)))) ?_; intro v' w' hR; obtain ⟨P', c', rfl, ⟨u, hc1⟩, hc2, hc3, hR1, hR2, hR3⟩ := hR))
  all_goals
    go_end0
    exact ⟨rfl, _, hR1, hR2, hR3⟩
end Go.Proofs.Ytegcebgoiocakaa
/- eachWay. -/
namespace Go.Proofs.Ytegcebgoiocakaa
open Go Go.RowKit Go.Deep
set_option linter.unusedVariables false
set_option maxRecDepth 20000

theorem okB_cases {n : Nat} {v : InstL} (h : okB n v = true) : v.op = 0 ∨ (v.op = 2 ∧ ∃ x y : Nat, v.x = (x : Int) ∧ v.y = (y : Int) ∧ x < n ∧ y < n) ∨ ((v.op = 1 ∨ v.op = 3 ∨ v.op = 4) ∧ ∃ x : Nat, v.x = (x : Int) ∧ x < n) := by
  have hin : ∀ {z : Int}, inB n z = true → ∃ x : Nat, z = (x : Int) ∧ x < n := fun {z} hz => by
    unfold inB at hz
    rw [Bool.and_eq_true, decide_eq_true_eq, decide_eq_true_eq] at hz
    exact ⟨z.toNat, by omega, by omega⟩
  unfold okB at h
  split at h
  · exact .inl (by assumption)
  · split at h
    · rw [Bool.and_eq_true] at h
      obtain ⟨y, hy, hyn⟩ := hin h.1
      obtain ⟨x, hx, hxn⟩ := hin h.2
      exact .inr (.inl ⟨by assumption, x, y, hx, hy, hxn, hyn⟩)
    · split at h
      · obtain ⟨x, hx, hxn⟩ := hin h
        exact .inr (.inr ⟨by assumption, x, hx, hxn⟩)
      · cases h
set_option maxHeartbeats 8000000 in
theorem onwardEach_any {B gw bx n : Nat} {w : World} {Vs : List Value} (h : Bld false B gw bx n w [] Vs) (A : Option Addr) (c : Nat) (l : List IV) (hi : InsF (fun b => b < B) w A n l) (hp : Within (l.map fun v => v.i)) (hok : ∀ v ∈ l, okB n v.i = true) (hn : n ≤ 1000) :
    Calls Try.prog 73 #[.slice A n c, .func (.func 74) #[] #[.pointer (some ⟨bx, 0, none⟩)]] w fun e w' => e = .returned (.tuple #[]) ∧ ∃ Vs', Bld false B gw bx n w' (edgesL (l.map fun v => v.i)) Vs' ∧ Below B w w' := by
  have HI := Lib.hid (And.intro hi (And.intro hp hok))
  have HB := Lib.hid h
  clear hi hp hok h
  go_enter Try.func73, Try.ntmps73
  go_wp2_with fail
  go_loopw [8] (fun v8 wr => ∃ (k : Nat) (Vs' : List Value), v8 = .int .i64 (k : Int) ∧ k ≤ n ∧ Hid (Bld false B gw bx n wr (edgesL ((l.take k).map fun v => v.i)) Vs' ∧ Below B w wr ∧ (edgesL ((l.take k).map fun v => v.i)).length ≤ 2 * k)) (fun v8 _ => n - (intOf v8).toNat)
  case atStart => exact ⟨0, Vs, rfl, Nat.zero_le _, Lib.hid ⟨HB.out, Below.refl _ _, by simp [edgesL]⟩⟩
  case round =>
    obtain ⟨k, Vs', rfl, hk, H1⟩ := hrel
    by_cases hlt : k < n
    · obtain ⟨v, hv⟩ : ∃ v, l[k]? = some v := ⟨_, List.getElem?_eq_getElem (by have := HI.out.1.1; omega)⟩
      obtain ⟨⟨op, st, x, y⟩, vA, vn, vc⟩ := v
      obtain ⟨bi, oi, rfl, _, hbl, _, i0, i1, i2, i3⟩ := (HI.out.1.belowB H1.out.2.1).one hv
      have hokv := HI.out.2.2 _ (List.mem_of_getElem? hv)
      have htk : edgesL ((l.take (k + 1)).map fun v => v.i) = edgesL ((l.take k).map fun v => v.i) ++ (outs ⟨op, st, x, y⟩).map fun t => (k, t) := by
        have hsn : l.take (k + 1) = l.take k ++ [⟨⟨op, st, x, y⟩, vA, vn, vc⟩] := by rw [List.take_add_one, hv]; rfl
        have hl2 : (l.take k).length = k := by rw [List.length_take, HI.out.1.1]; omega
        rw [hsn, List.map_append]
        exact edgesL_snoc _ _ (by rw [List.length_map, hl2])
      have hbB := H1.out.1.lt
      have hBr : B ≤ wr.heap.size := by have := H1.out.1.hB; omega
      have hng : wr.heap.size ≠ gw := by omega
      have hk1 : (0 : Int) ≤ (k : Int) := by omega
      have hk2 : (k : Int) < (n : Int) := by omega
      dsimp only at i0 i1 i2 i3 hokv
      have hes : (edgesL ((l.take k).map fun v => v.i)).length ≤ 40000 := by have := H1.out.2.2; omega
      rcases okB_cases hokv with h0 | ⟨h0, xt, yt, hx, hy, hxn, hyn⟩ | ⟨h0, xt, hx, hxn⟩
      · have h0 : op = 0 := h0
        subst h0
        have hbX : Below wr.heap.size wr (wr.alloc (.cells #[.int .i64 0, .slice vA vn vc, .int .i64 x, .int .i64 y] 45)) := (Below.refl _ _).alloc (Nat.le_refl _) _
        have HT := Lib.hid (And.intro htk (And.intro (hbX.mono hBr) (H1.out.1.keep hbX)))
        clear hbX htk hokv hv hbl hbB
        go_wp2
        refine ⟨⟨k + 1, Vs', rfl, hlt, Lib.hid ⟨?_, H1.out.2.1.trans HT.out.2.1, ?_⟩⟩, by simp [intOf]; omega⟩
        · rw [HT.out.1]; simpa [outs] using HT.out.2.2
        · rw [HT.out.1]; have := H1.out.2.2; simp [outs]; simp at this; omega
      · have h0 : op = 2 := h0
        have hx : x = (xt : Int) := hx
        have hy : y = (yt : Int) := hy
        subst h0; subst hx; subst hy
        have htk2 : (outs ⟨2, st, (xt : Int), (yt : Int)⟩).map (fun t => (k, t)) = [(k, xt), (k, yt)] := by simp [outs]
        rw [htk2] at htk
        have hbX : Below wr.heap.size wr (wr.alloc (.cells #[.int .i64 2, .slice vA vn vc, .int .i64 (xt : Int), .int .i64 (yt : Int)] 45)) := (Below.refl _ _).alloc (Nat.le_refl _) _
        have HT := Lib.hid (And.intro htk (And.intro (hbX.mono hBr) (And.intro (H1.out.1.keep hbX) (And.intro (heap_alloc_new wr (.cells #[.int .i64 2, .slice vA vn vc, .int .i64 (xt : Int), .int .i64 (yt : Int)] 45)) hng))))
        have HO1 := Lib.hid (onward1_any (H1.out.1.keep hbX) k xt hlt (by omega))
        clear hbX htk htk2 hokv hv hbl hbB hng
        go_wp2_with (first
          | (go_at_call 74; (with_reducible refine HO2.out.mono ?_); rintro en w6 ⟨rfl, Vs6, hB6, hb6, hk6⟩; have H6 := Lib.hid (And.intro hB6 hb6); clear hB6 hb6 hk6)
          | (go_at_call 74; (with_reducible refine HO1.out.mono ?_); rintro en w5 ⟨rfl, Vs5, hB5, hb5, hk5⟩; have hbx5 := hk5 wr.heap.size _ HT.out.2.2.2.1 HT.out.2.2.2.2 (fun _ _ e => by injection e with _ e _; exact absurd e (by decide)); have q0 := cell_of_row w5 wr.heap.size 0 _ _ (0, 0) hbx5; have q3 := cell_of_row w5 wr.heap.size 3 _ _ (0, 0) hbx5; have HO2 := Lib.hid (onward1_any hB5 k yt hlt (by rw [List.length_append, List.length_singleton]; omega)); have H5 := Lib.hid (HT.out.2.1.trans hb5); clear hB5 hb5 hk5 hbx5))
        refine ⟨⟨k + 1, Vs6, rfl, hlt, Lib.hid ⟨?_, H1.out.2.1.trans (H5.out.trans H6.out.2), ?_⟩⟩, by simp [intOf]; omega⟩
        · rw [HT.out.1]; have := H6.out.1; rwa [List.append_assoc] at this
        · rw [HT.out.1, List.length_append]; have := H1.out.2.2; simp; simp at this; omega
      · have hx : x = (xt : Int) := hx
        subst hx
        have h0 : op = 1 ∨ op = 3 ∨ op = 4 := h0
        have htk2 : (outs ⟨op, st, (xt : Int), y⟩).map (fun t => (k, t)) = [(k, xt)] := by rcases h0 with rfl | rfl | rfl <;> simp [outs]
        rw [htk2] at htk
        have hbX : Below wr.heap.size wr (wr.alloc (.cells #[.int .i64 op, .slice vA vn vc, .int .i64 (xt : Int), .int .i64 y] 45)) := (Below.refl _ _).alloc (Nat.le_refl _) _
        have HT := Lib.hid (And.intro htk (And.intro (hbX.mono hBr) (And.intro (H1.out.1.keep hbX) (And.intro (heap_alloc_new wr (.cells #[.int .i64 op, .slice vA vn vc, .int .i64 (xt : Int), .int .i64 y] 45)) hng))))
        have HO1 := Lib.hid (onward1_any (H1.out.1.keep hbX) k xt hlt (by omega))
        clear hbX htk htk2 hokv hv hbl hbB hng
        rcases h0 with rfl | rfl | rfl
        all_goals
          go_wp2_with (go_at_call 74; (with_reducible refine HO1.out.mono ?_); rintro en w5 ⟨rfl, Vs5, hB5, hb5, hk5⟩; have q0 := cell_of_row w5 wr.heap.size 0 _ _ (0, 0) (hk5 wr.heap.size _ HT.out.2.2.2.1 HT.out.2.2.2.2 (fun _ _ e => by injection e with _ e _; exact absurd e (by decide))); have H5 := Lib.hid (And.intro hB5 (HT.out.2.1.trans hb5)); clear hB5 hb5 hk5)
          refine ⟨⟨k + 1, Vs5, rfl, hlt, Lib.hid ⟨?_, H1.out.2.1.trans H5.out.2, ?_⟩⟩, by simp [intOf]; omega⟩
          · rw [HT.out.1]; exact H5.out.1
          · rw [HT.out.1, List.length_append]; have := H1.out.2.2; simp; simp at this; omega
    · obtain rfl : k = n := by omega
      have HL := Lib.hid HI.out.1.1
      go_wp2
      go_end0
      refine ⟨rfl, Vs', ?_, H1.out.2.1⟩
      have := H1.out.1
      rwa [List.take_of_length_le (by rw [HL.out]; exact Nat.le_refl _)] at this
set_option maxHeartbeats 8000000 in
theorem backEach_any {B gw bx n : Nat} {w : World} {Vs : List Value} (h : Bld true B gw bx n w [] Vs) (A : Option Addr) (c : Nat) (l : List IV) (hi : InsF (fun b => b < B) w A n l) (hp : Within (l.map fun v => v.i)) (hok : ∀ v ∈ l, okB n v.i = true) (hn : n ≤ 1000) :
    Calls Try.prog 73 #[.slice A n c, .func (.func 83) #[] #[.pointer (some ⟨bx, 0, none⟩)]] w fun e w' => e = .returned (.tuple #[]) ∧ ∃ Vs', Bld true B gw bx n w' (edgesL (l.map fun v => v.i)) Vs' ∧ Below B w w' := by
  have HI := Lib.hid (And.intro hi (And.intro hp hok))
  have HB := Lib.hid h
  clear hi hp hok h
  go_enter Try.func73, Try.ntmps73
  go_wp2_with fail
  go_loopw [8] (fun v8 wr => ∃ (k : Nat) (Vs' : List Value), v8 = .int .i64 (k : Int) ∧ k ≤ n ∧ Hid (Bld true B gw bx n wr (edgesL ((l.take k).map fun v => v.i)) Vs' ∧ Below B w wr ∧ (edgesL ((l.take k).map fun v => v.i)).length ≤ 2 * k)) (fun v8 _ => n - (intOf v8).toNat)
  case atStart => exact ⟨0, Vs, rfl, Nat.zero_le _, Lib.hid ⟨HB.out, Below.refl _ _, by simp [edgesL]⟩⟩
  case round =>
    obtain ⟨k, Vs', rfl, hk, H1⟩ := hrel
    by_cases hlt : k < n
    · obtain ⟨v, hv⟩ : ∃ v, l[k]? = some v := ⟨_, List.getElem?_eq_getElem (by have := HI.out.1.1; omega)⟩
      obtain ⟨⟨op, st, x, y⟩, vA, vn, vc⟩ := v
      obtain ⟨bi, oi, rfl, _, hbl, _, i0, i1, i2, i3⟩ := (HI.out.1.belowB H1.out.2.1).one hv
      have hokv := HI.out.2.2 _ (List.mem_of_getElem? hv)
      have htk : edgesL ((l.take (k + 1)).map fun v => v.i) = edgesL ((l.take k).map fun v => v.i) ++ (outs ⟨op, st, x, y⟩).map fun t => (k, t) := by
        have hsn : l.take (k + 1) = l.take k ++ [⟨⟨op, st, x, y⟩, vA, vn, vc⟩] := by rw [List.take_add_one, hv]; rfl
        have hl2 : (l.take k).length = k := by rw [List.length_take, HI.out.1.1]; omega
        rw [hsn, List.map_append]
        exact edgesL_snoc _ _ (by rw [List.length_map, hl2])
      have hbB := H1.out.1.lt
      have hBr : B ≤ wr.heap.size := by have := H1.out.1.hB; omega
      have hng : wr.heap.size ≠ gw := by omega
      have hk1 : (0 : Int) ≤ (k : Int) := by omega
      have hk2 : (k : Int) < (n : Int) := by omega
      dsimp only at i0 i1 i2 i3 hokv
      have hes : (edgesL ((l.take k).map fun v => v.i)).length ≤ 40000 := by have := H1.out.2.2; omega
      rcases okB_cases hokv with h0 | ⟨h0, xt, yt, hx, hy, hxn, hyn⟩ | ⟨h0, xt, hx, hxn⟩
      · have h0 : op = 0 := h0
        subst h0
        have hbX : Below wr.heap.size wr (wr.alloc (.cells #[.int .i64 0, .slice vA vn vc, .int .i64 x, .int .i64 y] 45)) := (Below.refl _ _).alloc (Nat.le_refl _) _
        have HT := Lib.hid (And.intro htk (And.intro (hbX.mono hBr) (H1.out.1.keep hbX)))
        clear hbX htk hokv hv hbl hbB
        go_wp2
        refine ⟨⟨k + 1, Vs', rfl, hlt, Lib.hid ⟨?_, H1.out.2.1.trans HT.out.2.1, ?_⟩⟩, by simp [intOf]; omega⟩
        · rw [HT.out.1]; simpa [outs] using HT.out.2.2
        · rw [HT.out.1]; have := H1.out.2.2; simp [outs]; simp at this; omega
      · have h0 : op = 2 := h0
        have hx : x = (xt : Int) := hx
        have hy : y = (yt : Int) := hy
        subst h0; subst hx; subst hy
        have htk2 : (outs ⟨2, st, (xt : Int), (yt : Int)⟩).map (fun t => (k, t)) = [(k, xt), (k, yt)] := by simp [outs]
        rw [htk2] at htk
        have hbX : Below wr.heap.size wr (wr.alloc (.cells #[.int .i64 2, .slice vA vn vc, .int .i64 (xt : Int), .int .i64 (yt : Int)] 45)) := (Below.refl _ _).alloc (Nat.le_refl _) _
        have HT := Lib.hid (And.intro htk (And.intro (hbX.mono hBr) (And.intro (H1.out.1.keep hbX) (And.intro (heap_alloc_new wr (.cells #[.int .i64 2, .slice vA vn vc, .int .i64 (xt : Int), .int .i64 (yt : Int)] 45)) hng))))
        have HO1 := Lib.hid (back1_any (H1.out.1.keep hbX) k xt hxn (by omega))
        clear hbX htk htk2 hokv hv hbl hbB hng
        go_wp2_with (first
          | (go_at_call 83; (with_reducible refine HO2.out.mono ?_); rintro en w6 ⟨rfl, Vs6, hB6, hb6, hk6⟩; have H6 := Lib.hid (And.intro hB6 hb6); clear hB6 hb6 hk6)
          | (go_at_call 83; (with_reducible refine HO1.out.mono ?_); rintro en w5 ⟨rfl, Vs5, hB5, hb5, hk5⟩; have hbx5 := hk5 wr.heap.size _ HT.out.2.2.2.1 HT.out.2.2.2.2 (fun _ _ e => by injection e with _ e _; exact absurd e (by decide)); have q0 := cell_of_row w5 wr.heap.size 0 _ _ (0, 0) hbx5; have q3 := cell_of_row w5 wr.heap.size 3 _ _ (0, 0) hbx5; have HO2 := Lib.hid (back1_any hB5 k yt hyn (by rw [List.length_append, List.length_singleton]; omega)); have H5 := Lib.hid (HT.out.2.1.trans hb5); clear hB5 hb5 hk5 hbx5))
        refine ⟨⟨k + 1, Vs6, rfl, hlt, Lib.hid ⟨?_, H1.out.2.1.trans (H5.out.trans H6.out.2), ?_⟩⟩, by simp [intOf]; omega⟩
        · rw [HT.out.1]; have := H6.out.1; rwa [List.append_assoc] at this
        · rw [HT.out.1, List.length_append]; have := H1.out.2.2; simp; simp at this; omega
      · have hx : x = (xt : Int) := hx
        subst hx
        have h0 : op = 1 ∨ op = 3 ∨ op = 4 := h0
        have htk2 : (outs ⟨op, st, (xt : Int), y⟩).map (fun t => (k, t)) = [(k, xt)] := by rcases h0 with rfl | rfl | rfl <;> simp [outs]
        rw [htk2] at htk
        have hbX : Below wr.heap.size wr (wr.alloc (.cells #[.int .i64 op, .slice vA vn vc, .int .i64 (xt : Int), .int .i64 y] 45)) := (Below.refl _ _).alloc (Nat.le_refl _) _
        have HT := Lib.hid (And.intro htk (And.intro (hbX.mono hBr) (And.intro (H1.out.1.keep hbX) (And.intro (heap_alloc_new wr (.cells #[.int .i64 op, .slice vA vn vc, .int .i64 (xt : Int), .int .i64 y] 45)) hng))))
        have HO1 := Lib.hid (back1_any (H1.out.1.keep hbX) k xt hxn (by omega))
        clear hbX htk htk2 hokv hv hbl hbB hng
        rcases h0 with rfl | rfl | rfl
        all_goals
          go_wp2_with (go_at_call 83; (with_reducible refine HO1.out.mono ?_); rintro en w5 ⟨rfl, Vs5, hB5, hb5, hk5⟩; have q0 := cell_of_row w5 wr.heap.size 0 _ _ (0, 0) (hk5 wr.heap.size _ HT.out.2.2.2.1 HT.out.2.2.2.2 (fun _ _ e => by injection e with _ e _; exact absurd e (by decide))); have H5 := Lib.hid (And.intro hB5 (HT.out.2.1.trans hb5)); clear hB5 hb5 hk5)
          refine ⟨⟨k + 1, Vs5, rfl, hlt, Lib.hid ⟨?_, H1.out.2.1.trans H5.out.2, ?_⟩⟩, by simp [intOf]; omega⟩
          · rw [HT.out.1]; exact H5.out.1
          · rw [HT.out.1, List.length_append]; have := H1.out.2.2; simp; simp at this; omega
    · obtain rfl : k = n := by omega
      have HL := Lib.hid HI.out.1.1
      go_wp2
      go_end0
      refine ⟨rfl, Vs', ?_, H1.out.2.1⟩
      have := H1.out.1
      rwa [List.take_of_length_le (by rw [HL.out]; exact Nat.le_refl _)] at this
end Go.Proofs.Ytegcebgoiocakaa
/- math/bits.Mul; slices.Repeat of one number (as Repeat, over the texts of stage 8). -/
namespace Go.Proofs.Ytegcebgoiocakaa
open Go Go.RowKit Go.Deep
set_option linter.unusedVariables false
set_option maxRecDepth 20000

theorem and_mask (y : Nat) (hy : y < 4294967296) : bits .and .u64 (y : Int) 4294967295 = (y : Int) := by
  rw [show (4294967295 : Int) = ((4294967295 : Nat) : Int) from rfl, bits_and_u64_nat y 4294967295 (by omega) (by omega), Nat.and_two_pow_sub_one_eq_mod y 32, Nat.mod_eq_of_lt (by omega)]
theorem and_none : bits .and .u64 0 4294967295 = 0 := by decide
theorem and_one : bits .and .u64 1 4294967295 = 1 := by decide

set_option maxHeartbeats 1000000 in
/-- math/bits.Mul64(1, y), of a y that has 32 bits: nothing above, y below. -/
theorem mul64_one (y : Nat) (hy : y < 4294967296) (w : World) :
    Calls Try.prog 98 #[.int .u64 1, .int .u64 y] w fun e w' => e = .returned (.tuple #[.int .u64 0, .int .u64 (y : Int)]) ∧ w = w' := by
  have k0 := and_none
  have k1 := and_one
  have ky := and_mask y hy
  have hdiv : (y : Int) / 4294967296 = 0 := by omega
  have hwr : IntKind.u64.wrap (y : Int) = (y : Int) := by rw [IntKind.wrap_u64]; omega
  go_enter Try.func98, Try.ntmps98
  go_wp2
  go_ret2
  exact ⟨rfl, rfl⟩
theorem mul_one (y : Nat) (hy : y < 4294967296) (w : World) :
    Calls Try.prog 82 #[.int .u64 1, .int .u64 y] w fun e w' => e = .returned (.tuple #[.int .u64 0, .int .u64 (y : Int)]) ∧ w = w' := by
  have HM := Lib.hid (mul64_one y hy w)
  go_enter Try.func82, Try.ntmps82
  go_wp2_with fail
  refine HM.out.mono ?_; rintro e w' ⟨rfl, rfl⟩
  go_wp2_with fail
  go_ret2
  exact ⟨rfl, rfl⟩

/-- What slices.Repeat fills: q copies, and noughts. -/
def halfL (N q : Nat) (x : Int) : List Value := List.replicate q (Value.int .i64 x) ++ List.replicate (N - q) (Value.int .i64 0)
theorem halfL_length (N q : Nat) (x : Int) (h : q ≤ N) : (halfL N q x).length = N := by simp [halfL]; omega
theorem halfL_copy (N q m : Nat) (x : Int) (h : q + m ≤ N) : splice (halfL N q x) q (List.replicate m (Value.int .i64 x)) = halfL N (q + m) x := by
  unfold splice halfL
  rw [List.take_append, List.drop_append]
  simp only [List.length_replicate, List.take_replicate, List.drop_replicate, Nat.sub_self, Nat.min_self]
  rw [show q - (q + m) = 0 by omega, show N - q - (q + m - q) = N - (q + m) by omega, ← List.replicate_append_replicate]
  simp only [List.append_assoc, Nat.zero_min, List.replicate_zero, List.nil_append]
theorem halfL_get (N q j : Nat) (x : Int) (h : j < q) : (halfL N q x)[j]? = some (.int .i64 x) := by
  unfold halfL
  rw [List.getElem?_append_left (by simpa using h), List.getElem?_replicate, if_pos h]
theorem made_half (N : Nat) (x : Int) : madeCells #[Value.int .i64 0] N = (halfL N 0 x).toArray := by
  apply Array.ext
  · rw [size_madeCells]; simp [halfL]
  · intro i h1 h2
    simp [madeCells, halfL, Nat.mod_one]

/-- copy onto such a row, behind its copies. -/
theorem copy_half (w w0 : World) (g N q m B : Nat) (x : Int) (hg : w.heap[g]? = some (.cells (halfL N q x).toArray 3 (0, 0))) (hb : Below B w0 w) (hB : B ≤ g) (ad : Addr) (sl sc dl dc : Nat) (hm : m = Nat.min sl dl)
    (hsrc : ∀ j, j < m → w.cell? (ad.add j) = some (.int .i64 x)) (hq : q + m ≤ N) :
    ∃ w2, (Builtin.copy_ #[27, 27] 3 #[.slice (some ⟨g, q, none⟩) dl dc, .slice (some ad) sl sc]).run Try.prog w = .ok (.int .i64 (m : Int)) w2 ∧ w2.heap[g]? = some (.cells (halfL N (q + m) x).toArray 3 (0, 0)) ∧ Below B w0 w2 := by
  have hr := run_copy_row (P := Try.prog) w 27 27 3 3 g q dl dc ad sl sc (halfL N q x).toArray 3 (List.replicate m (Value.int .i64 x)) Try.underlying27 (by kernel_rfl) hg (by simpa using hm)
    (by
      intro j v hj
      rw [List.getElem?_replicate] at hj
      split at hj
      · injection hj with hj
        subst hj
        exact hsrc j (by assumption)
      · cases hj) (by simp [halfL_length N q x (by omega)]; omega) (by intro v hv; rw [List.eq_of_mem_replicate hv]; rfl)
  rw [List.length_replicate] at hr
  refine ⟨_, hr, ?_, below_setRow hb hB _⟩
  rw [setRow_heap w g _ _ 3 _ hg]
  have := halfL_copy N q m x hq
  unfold splice at this
  simp only [List.length_replicate] at this
  rw [← this]
  simp

set_option maxHeartbeats 2000000 in
theorem repeat_any (x : Int) (gA : Nat) (N : Nat) (W : World) (hA : W.cell? ⟨gA, 0, none⟩ = some (.int .i64 x)) (hN1 : 1 ≤ N) (hN : N ≤ 1000000) :
    Calls Try.prog 51 #[.slice (some ⟨gA, 0, none⟩) 1 1, .int .i64 (N : Int)] W fun e w' => e = .returned (.slice (some ⟨W.heap.size, 0, none⟩) N N) ∧ w'.heap[W.heap.size]? = some (.cells (halfL N N x).toArray 3 (0, 0)) ∧ Below W.heap.size W w' := by
  have hgA : gA < W.heap.size := World.block_lt_of_cell? W (⟨gA, 0, none⟩ : Addr) hA
  have hmul := fun w => mul_one N (by omega) w
  have HMUL := Lib.hid hmul; clear hmul
  have hmk := run_make_row' (P := Try.prog) 27 3 (.int .i64 0) 8 Try.underlying27 info_intG rfl .i64 .i64 N (by omega) (by omega)
  rw [made_half N x] at hmk
  have hw1 : IntKind.u64.wrap (N : Int) = (N : Int) := by rw [IntKind.wrap_u64]; omega
  have hw2 : IntKind.i64.wrap (N : Int) = (N : Int) := by rw [IntKind.wrap_i64]; omega
  have hd1 : decide ((N : Int) < 0) = false := by simp
  have hd2 : decide ((9223372036854775807 : Int) < (N : Int)) = false := by simp; omega
  obtain ⟨L0, hL0⟩ : ∃ L0, L0 = halfL N 0 x := ⟨_, rfl⟩
  rw [← hL0] at hmk
  have hg0 := at_new W (.cells L0.toArray 3) rfl
  have hA1 : (W.alloc (.cells L0.toArray 3)).cell? ⟨gA, 0, none⟩ = some (.int .i64 x) := (((Below.refl W.heap.size W).alloc (Nat.le_refl _) _).cell (p := ⟨gA, 0, none⟩) hgA).trans hA
  have hb0 : Below W.heap.size W (W.alloc (.cells L0.toArray 3)) := (Below.refl W.heap.size W).alloc (Nat.le_refl _) _
  have hsrc0 : ∀ j, j < 1 → (W.alloc (.cells L0.toArray 3)).cell? ((⟨gA, 0, none⟩ : Addr).add j) = some (.int .i64 x) := by
    intro j hj
    obtain rfl : j = 0 := by omega
    exact hA1
  obtain ⟨w2, hcp, HG2, hb2⟩ := copy_half (W.alloc (.cells L0.toArray 3)) W W.heap.size N 0 1 W.heap.size x (by rw [← hL0]; exact hg0) hb0 (Nat.le_refl _) ⟨gA, 0, none⟩ 1 1 N N (by show 1 = min 1 N; omega) hsrc0 (by omega)
  rw [Nat.zero_add] at HG2
  have HG3 := Lib.hid HG2; clear HG2
  clear hL0 hg0 hA1 hb0 hA hgA hsrc0
  go_enter Try.func51, Try.ntmps51
  go_wp2_with fail
  refine (HMUL.out _).mono ?_; rintro e w' ⟨rfl, rfl⟩
  go_wp2_with fail
  go_loopw [8] (fun vi wr => ∃ q : Nat, 1 ≤ q ∧ q ≤ N ∧ vi = .int .i64 (q : Int) ∧ Hid (wr.heap[W.heap.size]? = some (.cells (halfL N q x).toArray 3 (0, 0))) ∧ Below W.heap.size W wr) (fun vi _ => N - (intOf vi).toNat)
  case atStart => exact ⟨1, by omega, by omega, rfl, HG3, hb2⟩
  case round =>
    obtain ⟨q, hq1, hqN, rfl, HG, hb⟩ := hrel
    by_cases hlt : q < N
    · obtain ⟨m, hm⟩ : ∃ m, m = min q (N - q) := ⟨_, rfl⟩
      have hm1 : 1 ≤ m ∧ m ≤ q ∧ q + m ≤ N := by rw [hm]; omega
      obtain ⟨hm1, hmq, hmN⟩ := hm1
      obtain ⟨w4, hcp4, hg4, hb4⟩ := copy_half wr.drew W W.heap.size N q m W.heap.size x HG.out hb.drew (Nat.le_refl _) ⟨W.heap.size, 0, none⟩ q N (N - q) (N - q) hm (fun j hj => by
        rw [show (⟨W.heap.size, 0, none⟩ : Addr).add j = ⟨W.heap.size, j, none⟩ by unfold Addr.add; split <;> simp_all]
        rw [cell_of_row wr.drew W.heap.size j _ 3 (0, 0) HG.out]
        simpa using halfL_get N q j x (by omega)) hmN
      have HG4 := Lib.hid hg4; clear hg4
      have HM := Lib.hid hm; clear hm
      go_wp2_with fail
      go_region
      go_wp2
      refine ⟨⟨q + m, by omega, hmN, by go_num, HG4, hb4⟩, by simp [intOf]; omega⟩
    · obtain rfl : q = N := by omega
      go_wp2
      go_ret
      exact ⟨rfl, HG.out, hb⟩
end Go.Proofs.Ytegcebgoiocakaa
/- onward, back, newWalk, matches. -/
namespace Go.Proofs.Ytegcebgoiocakaa
open Go Go.RowKit Go.Deep
set_option linter.unusedVariables false
set_option maxRecDepth 20000

theorem flat_len {α β : Type} {f : α → List β} {m : Nat} (hf : ∀ a, (f a).length ≤ m) : ∀ (r : List α), (r.flatMap f).length ≤ m * r.length
  | [] => by simp
  | a :: r => by
    rw [List.flatMap_cons, List.length_append, List.length_cons, Nat.mul_add]
    have := flat_len hf r
    have := hf a
    omega
theorem edgesL_len (p : List InstL) : (edgesL p).length ≤ 2 * p.length := by
  have := flat_len (f := fun i => match p[i]? with | some v => (outs v).map fun t => (i, t) | none => []) (m := 2) (fun i => by
    cases p[i]? with
    | none => simp
    | some v => simp only [outs]; split <;> (try split) <;> simp) (List.range p.length)
  rw [List.length_range] at this
  exact this
theorem info_ways : (Try.prog.info? 121).map (fun i => (i.zero, i.size, i.bytes)) = some (some (.slice none 0 0), 1, 24) := by kernel_rfl
theorem made_ways (n : Nat) : madeCells #[Value.slice none 0 0] n = (List.replicate n (Value.slice none 0 0)).toArray := by
  apply Array.ext
  · rw [size_madeCells]; simp
  · intro i h1 h2
    simp [madeCells, Nat.mod_one]
theorem bld_new (back : Bool) (n : Nat) (w : World) : Bld back w.heap.size w.heap.size (w.heap.size + 1) n ((w.alloc (.cells (List.replicate n (Value.slice none 0 0)).toArray 121)).alloc (.cells #[.slice (some ⟨w.heap.size, 0, none⟩) n n] 86)) [] (List.replicate n (Value.slice none 0 0)) := by
  refine ⟨hp_new (by simp), hp_old (hp_new rfl), by simp, by omega, fun i V ws h1 h2 => ?_, fun i j U V hij hU hV k hk1 hk2 => ?_⟩
  · simp [List.getElem?_replicate] at h1
    simp [buildW, List.getElem?_replicate] at h2
    rw [← h1.2, h2.2]
    exact ⟨none, 0, rfl, World.ownsRow_nil _ _ _ _⟩
  · simp [List.getElem?_replicate] at hU
    rw [← hU.2] at hk1
    cases hk1
theorem Bld.ways {back : Bool} {B gw bx n : Nat} {w : World} {es : List (Nat × Nat)} {Vs : List Value} (h : Bld back B gw bx n w es Vs) (hes : es.length ≤ 1000000) : WaysF (fun b => B ≤ b) w (some ⟨gw, 0, none⟩) n (buildW back n es) := by
  refine ⟨buildW_len _ _ _, fun hn => ⟨gw, 0, rfl, h.hB.2, h.lt.1, fun j ws hj => ?_⟩⟩
  have hjn : j < n := by have := (List.getElem?_eq_some_iff.1 hj).1; rwa [buildW_len] at this
  obtain ⟨V, hV⟩ : ∃ V, Vs[j]? = some V := ⟨_, List.getElem?_eq_getElem (by rw [h.hl]; exact hjn)⟩
  obtain ⟨P, c, hVP, ho⟩ := h.rows j V ws hV hj
  refine ⟨P, ws.length, c, ?_, ⟨rfl, by have := buildW_row_len hj; omega⟩, fun h0 => ?_⟩
  · rw [Nat.zero_add, cell_of_row w gw j _ _ (0, 0) h.hgw, ← hVP]; simpa using hV
  · rcases ho.2 with ⟨e, h1⟩ | ⟨b, cap, cur, e, hB, hb, hnc, hcm, hcs, ht⟩
    · omega
    · injection e with e1 _ e3
      subst e1; subst e3
      refine ⟨b, 0, rfl, hB, (Array.getElem?_eq_some_iff.1 hb).1, fun i x hx => ?_⟩
      obtain ⟨k1, k2⟩ := cellsS_at ws i x hx
      have hi := (List.getElem?_eq_some_iff.1 hx).1
      refine ⟨?_, ?_⟩
      · rw [Nat.zero_add, cell_of_row w b (i * 2) cur 123 (0, 0) hb, ← k1, ← ht, List.getElem?_take_of_lt (by omega), Array.getElem?_toList]
      · rw [Nat.zero_add, cell_of_row w b (i * 2 + 1) cur 123 (0, 0) hb, ← k2, ← ht, List.getElem?_take_of_lt (by omega), Array.getElem?_toList]
set_option maxHeartbeats 4000000 in
theorem onward_any {F : Nat → Prop} (A : Option Addr) (n c : Nat) (l : List IV) (w : World) (hi : InsF F w A n l) (hp : Within (l.map fun v => v.i)) (hok : ∀ v ∈ l, okB n v.i = true) (hn : n ≤ 1000) :
    Calls Try.prog 44 #[.slice A n c] w fun e w' => ∃ gw, e = .returned (.slice (some ⟨gw, 0, none⟩) n n) ∧ WaysF (fun b => w.heap.size ≤ b) w' (some ⟨gw, 0, none⟩) n (buildW false n (edgesL (l.map fun v => v.i))) ∧ Below w.heap.size w w' := by
  have hmk := run_make_row' (P := Try.prog) 86 121 (.slice none 0 0) 24 Try.underlying86 info_ways rfl .i64 .i64 n (by omega) (by omega)
  rw [made_ways] at hmk
  have hw1 : IntKind.i64.wrap (n : Int) = (n : Int) := by rw [IntKind.wrap_i64]; omega
  have hbX : Below w.heap.size w ((w.alloc (.cells (List.replicate n (Value.slice none 0 0)).toArray 121)).alloc (.cells #[.slice (some ⟨w.heap.size, 0, none⟩) n n] 86)) := ((Below.refl _ _).alloc (Nat.le_refl _) _).alloc (by simp) _
  have hE := onwardEach_any (bld_new false n w) A c l ((hi.mono (F' := fun b => b < w.heap.size) fun b _ h => h).belowB hbX) hp hok hn
  have hsz : (w.alloc (.cells (List.replicate n (Value.slice none 0 0)).toArray 121)).heap.size = w.heap.size + 1 := by simp
  have HE := Lib.hid hE
  have HB := Lib.hid hbX
  have HL := Lib.hid (show (edgesL (l.map fun v => v.i)).length ≤ 1000000 by have := edgesL_len (l.map fun v => v.i); rw [List.length_map, hi.1] at this; omega)
  obtain ⟨L0, hL0⟩ : ∃ L0, L0 = List.replicate n (Value.slice none 0 0) := ⟨_, rfl⟩
  rw [← hL0] at hmk HE HB
  clear hi hp hok hE hbX hL0
  go_enter Try.func44, Try.ntmps44
  go_wp2_with (go_at_call 73; (with_reducible refine HE.out.mono ?_); rintro en w5 ⟨rfl, Vs', hB5, hb5⟩; have q0 := cell_of_row w5 (w.heap.size + 1) 0 _ _ (0, 0) hB5.hbx; have H5 := Lib.hid (And.intro hB5 hb5); clear hB5 hb5)
  go_ret
  exact ⟨w.heap.size, rfl, H5.out.1.ways HL.out, HB.out.trans H5.out.2⟩
set_option maxHeartbeats 4000000 in
theorem back_any {F : Nat → Prop} (A : Option Addr) (n c : Nat) (l : List IV) (w : World) (hi : InsF F w A n l) (hp : Within (l.map fun v => v.i)) (hok : ∀ v ∈ l, okB n v.i = true) (hn : n ≤ 1000) :
    Calls Try.prog 52 #[.slice A n c] w fun e w' => ∃ gw, e = .returned (.slice (some ⟨gw, 0, none⟩) n n) ∧ WaysF (fun b => w.heap.size ≤ b) w' (some ⟨gw, 0, none⟩) n (buildW true n (edgesL (l.map fun v => v.i))) ∧ Below w.heap.size w w' := by
  have hmk := run_make_row' (P := Try.prog) 86 121 (.slice none 0 0) 24 Try.underlying86 info_ways rfl .i64 .i64 n (by omega) (by omega)
  rw [made_ways] at hmk
  have hw1 : IntKind.i64.wrap (n : Int) = (n : Int) := by rw [IntKind.wrap_i64]; omega
  have hbX : Below w.heap.size w ((w.alloc (.cells (List.replicate n (Value.slice none 0 0)).toArray 121)).alloc (.cells #[.slice (some ⟨w.heap.size, 0, none⟩) n n] 86)) := ((Below.refl _ _).alloc (Nat.le_refl _) _).alloc (by simp) _
  have hE := backEach_any (bld_new true n w) A c l ((hi.mono (F' := fun b => b < w.heap.size) fun b _ h => h).belowB hbX) hp hok hn
  have hsz : (w.alloc (.cells (List.replicate n (Value.slice none 0 0)).toArray 121)).heap.size = w.heap.size + 1 := by simp
  have HE := Lib.hid hE
  have HB := Lib.hid hbX
  have HL := Lib.hid (show (edgesL (l.map fun v => v.i)).length ≤ 1000000 by have := edgesL_len (l.map fun v => v.i); rw [List.length_map, hi.1] at this; omega)
  obtain ⟨L0, hL0⟩ : ∃ L0, L0 = List.replicate n (Value.slice none 0 0) := ⟨_, rfl⟩
  rw [← hL0] at hmk HE HB
  clear hi hp hok hE hbX hL0
  go_enter Try.func52, Try.ntmps52
  go_wp2_with (go_at_call 73; (with_reducible refine HE.out.mono ?_); rintro en w5 ⟨rfl, Vs', hB5, hb5⟩; have q0 := cell_of_row w5 (w.heap.size + 1) 0 _ _ (0, 0) hB5.hbx; have H5 := Lib.hid (And.intro hB5 hb5); clear hB5 hb5)
  go_ret
  exact ⟨w.heap.size, rfl, H5.out.1.ways HL.out, HB.out.trans H5.out.2⟩
set_option maxHeartbeats 4000000 in
theorem newWalk_any (e : WEnv) (w : World) (at_ : Nat) (hi : InsF (Fs w.heap.size e.skip) w e.A e.n e.l) (hw : WaysF (Fs w.heap.size e.skip) w e.WA e.n e.W) (hin : WaysIn e.p e.W) (hs : e.n ≤ 1000 ∧ e.T.size ≤ 1000 ∧ 0 < e.n) (hmc : e.mc = e.n) :
    Calls Try.prog 43 #[.slice e.A e.n e.c, .string e.T, .slice e.WA e.n e.wc, .int .i64 (at_ : Int)] w fun en w' => ∃ g mb, en = .returned (.pointer (some ⟨g, 0, none⟩)) ∧ WalkC w.heap.size g mb e w' at_ none 0 0 [] none 0 0 [] (List.replicate e.n (-1)) ∧ Below w.heap.size w w' := by
  have hb0 : Below w.heap.size w (w.alloc (.cells #[.int .i64 (-1)] 3)) := (Below.refl _ _).alloc (Nat.le_refl _) _
  have hR := repeat_any (-1) w.heap.size e.n (w.alloc (.cells #[.int .i64 (-1)] 3)) (cell_of_row _ w.heap.size 0 _ _ (0, 0) (heap_alloc_new w _)) hs.2.2 (by omega)
  have hsz : (w.alloc (.cells #[.int .i64 (-1)] 3)).heap.size = w.heap.size + 1 := by simp
  rw [hsz] at hR
  have HR := Lib.hid hR
  have HH := Lib.hid (And.intro hi (And.intro hw (And.intro hin (And.intro hs (And.intro hmc hb0)))))
  clear hi hw hin hs hb0 hR
  obtain ⟨A, n, c, l, T, WA, wc, W, mc, skip⟩ := e
  dsimp only at HR HH hmc ⊢
  go_enter Try.func43, Try.ntmps43
  go_wp2_with (go_at_call 51; (with_reducible refine HR.out.mono ?_); rintro en w2 ⟨rfl, hm, hb2⟩; have HM := Lib.hid (And.intro hm hb2); clear hm hb2)
  go_ret
  have hB : Below w.heap.size w w2 := HH.out.2.2.2.2.2.trans (HM.out.2.mono (by omega))
  have hmb : w.heap.size + 1 < w2.heap.size := (Array.getElem?_eq_some_iff.1 HM.out.1).1
  subst hmc
  refine ⟨w2.heap.size, w.heap.size + 1, rfl, ⟨heap_alloc_new _ _, ?_, by simp, by omega, by omega, World.ownsRow_nil _ _ _ _, World.ownsRow_nil _ _ _ _, fun b hb => (by cases hb), HH.out.1.below (hB.alloc hB.size _), HH.out.2.1.below (hB.alloc hB.size _), HH.out.2.2.1, HH.out.2.2.2.1⟩, hB.alloc hB.size _⟩
  rw [Below.heap_alloc w2 _ _ hmb, HM.out.1]
  simp [halfL]
set_option maxHeartbeats 4000000 in
theorem matches_any {B g mb : Nat} {e : WEnv} {w : World} {at_ : Nat} {here : List (Nat × Nat)} {last : SRow} {met : List Int} (h : WalkS B g mb e w at_ here last met) :
    Calls Try.prog 53 #[.pointer (some ⟨g, 0, none⟩)] w fun en w' => ∃ P q pc xs, en = .returned (.slice P q pc) ∧ xs.length = q ∧ w'.ownsRow w.heap.size 3 1 (.slice P q pc) q ((iN xs).map (.int .i64)) ∧ Below w.heap.size w w' ∧ ∀ i, i ∈ xs ↔ IsEnd e.p i := by
  obtain ⟨H, hn, hc, hC⟩ := h
  have c0 := hC.cells.1
  have hsm : e.n ≤ 1000 := hC.small.1
  have hel : e.l.length = e.n := hC.ins.1
  have HC := Lib.hid (And.intro hC hel)
  clear hC hel
  go_enter Try.func53, Try.ntmps53
  go_wp2_with fail
  go_loopw [3, 10] (fun v3 v10 wr => ∃ (k : Nat) (P : Option Addr) (q pc : Nat) (xs : List Nat), v3 = .slice P q pc ∧ v10 = .int .i64 (k : Int) ∧ k ≤ e.n ∧ q ≤ k ∧ Hid (xs.length = q ∧ wr.ownsRow w.heap.size 3 1 (.slice P q pc) q ((iN xs).map (.int .i64)) ∧ Below w.heap.size w wr ∧ ∀ i, i ∈ xs ↔ i < k ∧ IsEnd e.p i)) (fun _ v10 _ => e.n - (intOf v10).toNat)
  case atStart => exact ⟨0, none, 0, 0, [], rfl, rfl, Nat.zero_le _, Nat.le_refl _, Lib.hid ⟨rfl, World.ownsRow_nil _ _ _ _, Below.refl _ _, fun i => by simp⟩⟩
  case round =>
    obtain ⟨k, P, q, pc, xs, rfl, rfl, hk, hqk, H1⟩ := hrel
    by_cases hlt : k < e.n
    · obtain ⟨v, hv⟩ : ∃ v, e.l[k]? = some v := ⟨_, List.getElem?_eq_getElem (by have := HC.out.2; omega)⟩
      have hpv : e.p[k]? = some v.i := by unfold WEnv.p; rw [List.getElem?_map, hv]; rfl
      have HM := Lib.hid (isMatch_any (h := ⟨H, hn, hc, HC.out.1.below H1.out.2.2.1⟩) hv)
      obtain ⟨P', pc', w3, happ, ho, hb3, _⟩ := pushI_at H1.out.2.1 (by omega) H1.out.2.2.1 (k : Int)
      have HAPP := Lib.hid happ
      have HV := Lib.hid (And.intro hpv (And.intro ho hb3))
      clear hv hpv happ ho hb3
      by_cases hop : v.i.op = 0
      · rw [decide_eq_true hop] at HM
        have HE : Hid (IsEnd e.p k) := Lib.hid ⟨_, HV.out.1, hop⟩
        clear hop
        go_wp2_with (first
          | (go_at_call 47; (with_reducible refine HM.out.mono ?_); rintro en w7 ⟨rfl, rfl⟩)
          | (at_builtin; refine wpList_append_run rfl (.tmp 16) (.tmp 18) 27 rfl rfl _ _ _ _ rfl rfl HAPP.out ?_))
        refine ⟨⟨k + 1, P', q + 1, pc', xs ++ [k], rfl, rfl, hlt, by omega, Lib.hid ⟨by rw [List.length_append, H1.out.1]; rfl, ?_, HV.out.2.2, fun i => ?_⟩⟩, by simp [intOf]; omega⟩
        · have : iN (xs ++ [k]) = iN xs ++ [(k : Int)] := by simp [iN]
          rw [this]; exact HV.out.2.1
        · rw [List.mem_append, H1.out.2.2.2, List.mem_singleton]
          constructor
          · rintro (⟨h1, h2⟩ | rfl)
            · exact ⟨by omega, h2⟩
            · exact ⟨by omega, HE.out⟩
          · rintro ⟨h1, h2⟩
            rcases Nat.lt_or_ge i k with h3 | h3
            · exact .inl ⟨h3, h2⟩
            · exact .inr (by omega)
      · rw [decide_eq_false hop] at HM
        have HE : Hid (¬ IsEnd e.p k) := Lib.hid fun ⟨v', h1, h2⟩ => by rw [HV.out.1] at h1; injection h1 with h1; rw [← h1] at h2; exact hop h2
        clear hop
        go_wp2_with (go_at_call 47; (with_reducible refine HM.out.mono ?_); rintro en w7 ⟨rfl, rfl⟩)
        refine ⟨⟨k + 1, P, q, pc, xs, rfl, rfl, hlt, by omega, Lib.hid ⟨H1.out.1, H1.out.2.1, H1.out.2.2.1, fun i => ?_⟩⟩, by simp [intOf]; omega⟩
        rw [H1.out.2.2.2]
        constructor
        · rintro ⟨h1, h2⟩; exact ⟨by omega, h2⟩
        · rintro ⟨h1, h2⟩
          rcases Nat.lt_or_ge i k with h3 | h3
          · exact ⟨h3, h2⟩
          · obtain rfl : i = k := by omega
            exact absurd h2 HE.out
    · obtain rfl : k = e.n := by omega
      go_wp2
      go_ret
      refine ⟨P, q, pc, xs, rfl, H1.out.1, H1.out.2.1, H1.out.2.2.1, fun i => ?_⟩
      rw [H1.out.2.2.2]
      constructor
      · exact fun h => h.2
      · intro h
        obtain ⟨v, h1, h2⟩ := h
        have := (List.getElem?_eq_some_iff.1 h1).1
        unfold WEnv.p at this
        rw [List.length_map, HC.out.2] at this
        exact ⟨this, v, h1, h2⟩
end Go.Proofs.Ytegcebgoiocakaa
