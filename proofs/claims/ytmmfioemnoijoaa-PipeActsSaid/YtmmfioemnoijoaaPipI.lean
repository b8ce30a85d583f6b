/- Items: all of the line, their hits as lists of their own. -/
import Derived.Test.YtmmfioemnoijoaaPipW
import Derived.Test.YtmmfioemnoijoaaPipC
namespace Go.Proofs.Ytmmfioemnoijoaa
open Go Go.RowKit
set_option linter.unusedVariables false
set_option maxRecDepth 20000

def hcells (p : Int × Int) : List Value := [.int .i64 p.1, .int .i64 p.2]
/-- An item's hits lie where it says. -/
def HitsAt (B : Nat) (w : World) (x : It) : Prop := ReadR B w x.hA x.hm 2 (x.hs.map hcells) ∧ (x.hA = none → x.hm = 0 ∧ x.hc = 0)
theorem HitsAt.below {B : Nat} {w w' : World} {x : It} (h : HitsAt B w x) (hb : Below w.heap.size w w') : HitsAt B w' x := ⟨h.1.below hb, h.2⟩
/-- Two items alike, wherever their hits lie. -/
def Like (x y : It) : Prop := x.n = y.n ∧ x.b = y.b ∧ x.rn = y.rn ∧ x.ra = y.ra ∧ x.tx = y.tx ∧ x.e = y.e ∧ x.hm = y.hm ∧ x.hs = y.hs
theorem Like.refl (x : It) : Like x x := ⟨rfl, rfl, rfl, rfl, rfl, rfl, rfl, rfl⟩
theorem take_snocW {α : Type} {l : List α} {k : Nat} {x : α} (h : l[k]? = some x) : l.take (k + 1) = l.take k ++ [x] := by
  obtain ⟨h1, h2⟩ := List.getElem?_eq_some_iff.1 h
  rw [List.take_succ_eq_append_getElem h1, h2]
theorem flat_set {s : Nat} : ∀ {xs : List (List Value)}, Wide s xs → ∀ {j : Nat} {x : List Value}, xs[j]? = some x → ∀ {i : Nat} (u : Value), i < s → xs.flatten.set (j * s + i) u = (xs.set j (x.set i u)).flatten
  | [], _, j, x, h, _, _, _ => by simp at h
  | y :: xs, h, 0, x, hx, i, u, hi => by
    simp only [List.getElem?_cons_zero, Option.some.injEq] at hx
    subst hx
    have hy := (h y (by simp)).1
    rw [List.flatten_cons, Nat.zero_mul, Nat.zero_add, List.set_append_left _ _ (by omega), List.set_cons_zero, List.flatten_cons]
  | y :: xs, h, j + 1, x, hx, i, u, hi => by
    have hy := (h y (by simp)).1
    have ih := flat_set (xs := xs) (fun z hz => h z (by simp [hz])) (j := j) (x := x) (by simpa using hx) u hi
    have e : (j + 1) * s + i = y.length + (j * s + i) := by rw [hy, Nat.add_mul]; omega
    rw [List.flatten_cons, e, List.set_append_right _ _ (by omega), Nat.add_sub_cancel_left, ih, List.set_cons_succ, List.flatten_cons]
/-- An item's hits are stored into a row of items. -/
theorem store_hits {w : World} {B vb n c k : Nat} {ys : List It} {y : It} (h : RecW w B 36 7 (.slice (some ⟨vb, 0, none⟩) n c) (ys.map It.cells)) (hy : ys[k]? = some y) (A' : Option Addr) (c' : Nat) :
    RecW (w.setCell ⟨vb, k * 7 + 5, none⟩ (.slice A' y.hm c')) B 36 7 (.slice (some ⟨vb, 0, none⟩) n c) ((ys.set k { y with hA := A', hc := c' }).map It.cells) := by
  refine ⟨?_, wide_it _⟩
  have hl : (ys.map It.cells).length = n := by
    obtain ⟨A0, c0, e1, _⟩ := h.slice
    injection e1 with _ e2 _
    exact e2.symm
  have h1 := h.1
  rw [hl] at h1
  have h2 := (h1.stored (k * 7 + 5) (.slice A' y.hm c')).1
  rw [flat_set h.2 (j := k) (x := y.cells) (by simp [hy]) _ (by omega)] at h2
  rw [List.length_map, List.length_set, ← List.length_map (f := It.cells), hl, List.map_set]
  exact h2
/-- What Items answers. -/
def ItemsV (w : World) (ins : List It) (ofs : List (Int × It)) (e : Ending) (w' : World) : Prop := ∃ (A : Option Addr) (c : Nat) (ys : List It), e = .returned (.slice A (ins.length + ofs.length) c) ∧ RecW w' w.heap.size 36 7 (.slice A (ins.length + ofs.length) c) (ys.map It.cells) ∧ Below w.heap.size w w' ∧
      ∀ (j : Nat) (x : It), (ins ++ ofs.map Prod.snd)[j]? = some x → ∃ y, ys[j]? = some y ∧ Like y x ∧ HitsAt 0 w' y
set_option maxHeartbeats 4000000 in
theorem items_any {w : World} {B g room : Nat} {F : Nat → Prop} {IV OV : Value} {ins : List It} {ofs : List (Int × It)} {sent : Int} {closed : Bool} (h : PipeC w B F g IV OV room ins ofs sent closed) (hh : ∀ x ∈ ins ++ ofs.map Prod.snd, HitsAt 0 w x ∧ x.hm ≤ 100000) (hn : ofs.length ≤ 10000) (hm : ins.length ≤ 10000) :
    Calls Try.prog 18 #[.pointer (some ⟨g, 0, none⟩)] w (ItemsV w ins ofs) := by
  have c1 := h.c1
  have HC2 := Lib.hid (fun w' (hb : Below w.heap.size w w') => (h.below hb).c2)
  obtain ⟨A0, c0, hV, hr, -, -, hA0⟩ := h.ri.read
  obtain ⟨D, d, hU, hr2, -, -, -⟩ := h.ro.read
  rw [List.length_map] at hV hU hr hr2
  have HCL := Lib.hid (clone_item hr (c := c0) (fun h => ⟨by have := (hA0 h).1; rw [List.map_eq_nil_iff] at this; rw [this]; rfl, (hA0 h).2⟩) (by omega))
  have HOF := Lib.hid hr2
  obtain ⟨p, hp⟩ : ∃ p, p = ins.length := ⟨_, rfl⟩
  obtain ⟨q, hq⟩ : ∃ q, q = ofs.length := ⟨_, rfl⟩
  have HPL := Lib.hid hp
  have HQL := Lib.hid hq
  have HH := Lib.hid hh
  rw [← hp] at hV HCL hm
  rw [← hq] at hU HOF hn
  subst hV; subst hU
  clear h hr hr2 hA0 hp hq hh
  have hoc := offer_cells
  have hic := item_cells
  go_enter Try.func18, Try.ntmps18
  go_wp2_with (go_at_call 30; (with_reducible refine HCL.out.mono ?_); rintro e w1 ⟨A1, c1', rfl, hr1, hb1, -⟩; have k2 := HC2.out w1 hb1; have H1 := Lib.hid (And.intro hr1 hb1); clear hr1 hb1)
  go_loopw [3, 17] (fun vo vi wr => ∃ (k n c : Nat) (A : Option Addr), vo = .slice A n c ∧ vi = .int .i64 (k : Int) ∧ k ≤ q ∧ n = p + k ∧ Hid (RecW wr w.heap.size 36 7 (.slice A n c) ((ins ++ (ofs.take k).map Prod.snd).map It.cells) ∧ Below w.heap.size w wr)) (fun _ vi _ => q - (intOf vi).toNat)
  case atStart => exact ⟨0, p, c1', A1, rfl, rfl, Nat.zero_le _, rfl, Lib.hid ⟨by simpa using H1.out.1, H1.out.2⟩⟩
  case round =>
    obtain ⟨k, n, c, A, rfl, rfl, hk, hn', HO⟩ := hrel
    have HN := Lib.hid hn'
    have hnb : n ≤ 20000 := by omega
    clear hn'
    by_cases hlt : k < q
    · obtain ⟨b, o, rfl, _, hbw, hc⟩ := HOF.out.2 (by omega)
      obtain ⟨x, hx⟩ : ∃ x, ofs[k]? = some x := ⟨_, List.getElem?_eq_getElem (by rw [← HQL.out]; exact hlt)⟩
      have hc' := fun i v hv => (HO.out.2.cell (p := ⟨b, o + k * 8 + i, none⟩) hbw).trans (hc k (ofCells x) (by simp [hx]) i v hv)
      have d0 := hc' 0 _ rfl
      have d1 := hc' 1 _ rfl
      have d2 := hc' 2 _ rfl
      have d3 := hc' 3 _ rfl
      have d4 := hc' 4 _ rfl
      have d5 := hc' 5 _ rfl
      have d6 := hc' 6 _ rfl
      have d7 := hc' 7 _ rfl
      simp only [Nat.add_zero] at d0
      have hb1 : Below wr.heap.size wr ((wr.alloc (.cells (ofCells x).toArray 64)).alloc (.cells x.2.cells.toArray 36)) := ((Below.refl _ _).alloc (Nat.le_refl _) _).alloc (by simp) _
      have hd1 : ((wr.alloc (.cells (ofCells x).toArray 64)).alloc (.cells x.2.cells.toArray 36)).heap[wr.heap.size + 1]? = some (.cells x.2.cells.toArray 36 (0, 0)) := at_new _ _ (by simp)
      have hr5 := HO.out.1.keep (w' := (wr.alloc (.cells (ofCells x).toArray 64)).alloc (.cells x.2.cells.toArray 36)) fun k hk _ => hb1.block k hk
      have hbw0 := HO.out.2.trans (hb1.mono HO.out.2.size)
      have hlen : ((ins ++ (ofs.take k).map Prod.snd).map It.cells).length = n := by
        have := HO.out.1
        obtain ⟨A', c', e1, _⟩ := this.slice
        injection e1 with _ e2 _
        exact e2.symm
      obtain ⟨V', w', happ, hr6, hg6, hat6, -⟩ := hr5.app 51 36 _ 7 80 Try.underlying51 info_item rfl (by decide) (read_one hd1 x.2.wide) (c := 1) (fun h => by cases h) (by rw [hlen]; unfold maxLen; omega) (by rw [hlen]; omega) hbw0.size
      have e6 : (ins ++ (ofs.take k).map Prod.snd).map It.cells ++ [x.2.cells] = (ins ++ (ofs.take (k + 1)).map Prod.snd).map It.cells := by rw [take_snocW hx]; simp
      rw [e6] at hr6
      obtain ⟨A', c', hV', -⟩ := hr6.slice
      rw [← e6, List.length_append, hlen, List.length_singleton] at hV'
      subst hV'
      have hb6 : Below w.heap.size w w' := hbw0.grown hg6 hbw0.size (fun k hk => (row_lt hr5.1 hk).1)
      have HA := Lib.hid happ
      have H2 := Lib.hid (And.intro hr6 hb6)
      unfold ofCells It.cells at HA
      clear hc hc' hb1 hd1 hr5 hbw0 happ hr6 hg6 hat6 hb6 hlen e6
      go_wp2_with (at_builtin; refine wpList_append_run rfl _ _ 51 rfl rfl _ _ _ _ rfl rfl HA.out ?_)
      exact ⟨⟨k + 1, n + 1, c', A', rfl, by go_num, by omega, by have := HN.out; omega, H2⟩, by simp [intOf]; omega⟩
    · have hkq : k = q := by omega
      subst hkq
      have htk : ofs.take k = ofs := List.take_of_length_le (by have := HQL.out; omega)
      rw [htk] at HO
      clear htk
      go_wp2
      obtain ⟨vb, hvb⟩ : ∃ vb, vb = ((Value.slice A n c).ownBlock).getD 0 := ⟨_, rfl⟩
      have HVB := Lib.hid hvb
      clear hvb
      go_loopw [29] (fun vi wt => ∃ (j : Nat) (ys : List It), vi = .int .i64 (j : Int) ∧ j ≤ n ∧ Hid (RecW wt w.heap.size 36 7 (.slice A n c) (ys.map It.cells) ∧ Below w.heap.size w wt ∧ ∀ (i : Nat) (x : It), (ins ++ ofs.map Prod.snd)[i]? = some x → ∃ y, ys[i]? = some y ∧ (i < j → Like y x ∧ HitsAt (vb + 1) wt y) ∧ (j ≤ i → y = x))) (fun vi _ => n - (intOf vi).toNat)
      case atStart => exact ⟨0, ins ++ ofs.map Prod.snd, rfl, Nat.zero_le _, Lib.hid ⟨HO.out.1, HO.out.2, fun i x hx => ⟨x, hx, (fun h => absurd h (by omega)), fun _ => rfl⟩⟩⟩
      case round =>
        obtain ⟨j, ys, rfl, hj, HI⟩ := hrel
        by_cases hjl : j < n
        · have hlen : (ins ++ ofs.map Prod.snd).length = n := by rw [List.length_append, List.length_map, ← HPL.out, ← HQL.out]; exact HN.out.symm
          obtain ⟨x, hx⟩ : ∃ x, (ins ++ ofs.map Prod.snd)[j]? = some x := ⟨_, List.getElem?_eq_getElem (by rw [hlen]; exact hjl)⟩
          obtain ⟨y, hy, -, hyx⟩ := HI.out.2.2 j x hx
          have hyx := hyx (Nat.le_refl _)
          subst hyx
          obtain ⟨vb', c', e1, hB, hblt, hc⟩ := HI.out.1.at (j := j) (x := y.cells) (by simp [hy])
          injection e1 with e1 e2 e3
          clear e2 e3
          subst e1
          have hvb' : vb = vb' := HVB.out
          subst hvb'
          have d5 := hc 5 _ rfl
          have f5 : wr.frozen? ⟨vb, j * 7 + 5, none⟩ = false := by
            have h1 := HI.out.1.1
            obtain ⟨A0, c0, e4, _⟩ := HI.out.1.slice
            injection e4 with _ e5 _
            rw [← e5] at h1
            exact h1.frozenAt _
          obtain ⟨hhit, hhm⟩ := HH.out y (List.mem_of_getElem? hx)
          have hhit' := (⟨hhit.1.keep HI.out.2.1.size fun b _ hlt => HI.out.2.1.block b hlt, hhit.2⟩ : HitsAt 0 wr y)
          have HCH := Lib.hid (clone_hit hhit'.1 hhit'.2 (by omega))
          have HST := Lib.hid (fun w2 (hb2 : Below wr.heap.size wr w2) A' c' (hr2 : RecW w2 wr.heap.size 72 2 (.slice A' y.hm c') (y.hs.map hcells)) (hA' : A' = none → c' = 0) =>
            (⟨(hb2.cell (p := ⟨vb, j * 7 + 5, none⟩) hblt).trans d5, by rw [World.frozen?_of_block (w := wr) (w' := w2) (a := ⟨vb, j * 7 + 5, none⟩) (hb2.block vb hblt)]; exact f5,
              Lib.hid ⟨store_hits (HI.out.1.keep fun k hk _ => hb2.block k hk) hy A' c', (HI.out.2.1.trans (hb2.mono HI.out.2.1.size)).setCell (p := ⟨vb, j * 7 + 5, none⟩) hB _, fun i x hx => by
                obtain ⟨z, hz, hz1, hz2⟩ := HI.out.2.2 i x hx
                have kk : ∀ b, vb + 1 ≤ b → b < w2.heap.size → (w2.setCell ⟨vb, j * 7 + 5, none⟩ (.slice A' y.hm c')).heap[b]? = w2.heap[b]? := fun b hb _ => Below.heap_setCell _ _ _ _ (by show b ≠ vb; omega)
                have hs3 : (w2.setCell ⟨vb, j * 7 + 5, none⟩ (.slice A' y.hm c')).heap.size = w2.heap.size := by simp [World.setCell]
                rcases Nat.lt_trichotomy i j with h1 | h1 | h1
                · obtain ⟨g1, g2⟩ := hz1 h1
                  refine ⟨z, by rw [List.getElem?_set_ne (by omega)]; exact hz, fun _ => ⟨g1, ⟨(g2.1.below hb2).keep (Nat.le_of_eq hs3.symm) kk, g2.2⟩⟩, fun h => absurd h (by omega)⟩
                · subst h1
                  rw [hy] at hz
                  injection hz with hz
                  subst hz
                  have hzx := hz2 (Nat.le_refl _)
                  subst hzx
                  refine ⟨_, List.getElem?_set_self (List.getElem?_eq_some_iff.1 hy).1, fun _ => ⟨⟨rfl, rfl, rfl, rfl, rfl, rfl, rfl, rfl⟩, ?_, fun h => ?_⟩, fun h => absurd h (by omega)⟩
                  · obtain ⟨A0, c0, e4, hrd, _⟩ := hr2.read
                    injection e4 with e5 e6 _
                    subst e5
                    rw [← e6] at hrd
                    exact (hrd.base (B' := vb + 1) (by omega)).keep (Nat.le_of_eq hs3.symm) kk
                  · have h0 : A' = none := h
                    refine ⟨?_, hA' h0⟩
                    subst h0
                    rcases hr2.form with ⟨e5, _⟩ | ⟨b5, c5, e5, _⟩
                    · injection e5
                    · injection e5 with e5 _ _
                      cases e5
                · refine ⟨z, by rw [List.getElem?_set_ne (by omega)]; exact hz, fun h => absurd h (by omega), fun _ => hz2 (by omega)⟩⟩⟩ :
              w2.cell? ⟨vb, j * 7 + 5, none⟩ = some (.slice y.hA y.hm y.hc) ∧ w2.frozen? ⟨vb, j * 7 + 5, none⟩ = false ∧ Hid (RecW (w2.setCell ⟨vb, j * 7 + 5, none⟩ (.slice A' y.hm c')) w.heap.size 36 7 (.slice (some ⟨vb, 0, none⟩) n c) ((ys.set j { y with hA := A', hc := c' }).map It.cells) ∧ Below w.heap.size w (w2.setCell ⟨vb, j * 7 + 5, none⟩ (.slice A' y.hm c')) ∧
                ∀ (i : Nat) (x : It), (ins ++ ofs.map Prod.snd)[i]? = some x → ∃ z, (ys.set j { y with hA := A', hc := c' })[i]? = some z ∧ (i < j + 1 → Like z x ∧ HitsAt (vb + 1) (w2.setCell ⟨vb, j * 7 + 5, none⟩ (.slice A' y.hm c')) z) ∧ (j + 1 ≤ i → z = x))))
          clear hc hhit hhit' hx hy hlen f5
          go_wp2_with (go_at_call 31; (with_reducible refine HCH.out.mono ?_); rintro e w2 ⟨A', c', rfl, hr2, hb2, hA'⟩; obtain ⟨t1, t2, HF⟩ := HST.out w2 hb2 A' c' hr2 hA'; clear hr2 hb2 hA')
          exact ⟨⟨j + 1, _, by go_num, by omega, HF⟩, by simp [intOf]; omega⟩
        · have hjn : j = n := by omega
          subst hjn
          have HFIN := Lib.hid (fun (i : Nat) (x : It) (hx : (ins ++ ofs.map Prod.snd)[i]? = some x) => (by
            obtain ⟨y, hy, h1, _⟩ := HI.out.2.2 i x hx
            have hi := (List.getElem?_eq_some_iff.1 hx).1
            rw [List.length_append, List.length_map, ← HPL.out, ← HQL.out, ← HN.out] at hi
            obtain ⟨g1, g2⟩ := h1 hi
            exact ⟨y, hy, g1, g2.1.base (Nat.zero_le _), g2.2⟩ : ∃ y, ys[i]? = some y ∧ Like y x ∧ HitsAt 0 wr y))
          go_wp2
          go_ret
          have hnq : j = ins.length + ofs.length := by rw [← HPL.out, ← HQL.out]; exact HN.out
          subst hnq
          exact ⟨A, c, ys, rfl, HI.out.1, HI.out.2.1, HFIN.out⟩
end Go.Proofs.Ytmmfioemnoijoaa
