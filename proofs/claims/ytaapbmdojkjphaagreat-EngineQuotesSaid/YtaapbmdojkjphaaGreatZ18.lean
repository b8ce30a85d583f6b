/- Texts. -/
import Derived.Test.YtaapbmdojkjphaaGreatZ03
import Derived.Test.YtaapbmdojkjphaaGreatZ05
import Derived.Test.YtaapbmdojkjphaaGreatZ07
import Derived.Test.YtaapbmdojkjphaaGreatZ17
import Derived.Lib.SliceRun
import Derived.Deep.RegionLaw
import Derived.Deep.OwnRows
import Derived.Laws.Bits64b
import Derived.Laws.CopyRow
import Derived.Laws.CopyOwn
import Derived.BigRegion
namespace Go.Proofs.YtaapbmdojkjphaaGreat
open Go Go.RowKit
set_option linter.unusedVariables false
def hitI (T : List Int) (h : Nat × Nat) : Int × Int := ((atF T h.1 : Nat), (atF T h.2 : Nat))
structure AInv (p : List InstL) (T : List Int) (at_ : Nat) (behind : Int) (hs : List (Nat × Nat)) (k : Nat) (b : Option Nat) : Prop where
  k1 : k ≤ (rsT T).length + 1
  lo : ∀ j, j < k → atF T j < at_
  hi : k ≤ (rsT T).length → at_ ≤ atF T k
  ov : k = (rsT T).length + 1 → at_ = T.length + 1
  bh : behind = endI T b
  bl : ∀ x, b = some x → x ≤ (rsT T).length
  all : ∀ l, AllR p (rsT T) k b l → AllR p (rsT T) 0 none (hs ++ l)
theorem AInv.begin {p : List InstL} {T : List Int} : AInv p T 0 (-1) [] 0 none :=
  ⟨Nat.zero_le _, fun j h => by omega, fun _ => Nat.zero_le _, fun h => absurd h (by omega), rfl, (fun x h => nomatch h), fun l h => h⟩
section
variable {p : List InstL} {T : List Int} {at_ : Nat} {behind : Int} {hs : List (Nat × Nat)} {k : Nat} {b : Option Nat} {xs : List Int}
theorem endI_none {o : Option Nat} : endI T o = -1 ↔ o = none := by
  cases o with
  | none => simp [endI]
  | some x => simp [endI]
theorem AInv.over (h : AInv p T at_ behind hs k b) (ha : T.length < at_) : AllR p (rsT T) 0 none hs := by
  have hk : (rsT T).length < k := by
    rcases Nat.lt_or_ge (rsT T).length k with h1 | h1
    · exact h1
    · have := h.hi h1
      have := atF_max (T := T) h1
      omega
  have := h.all [] (.stop hk)
  rwa [List.append_nil] at this
theorem AInv.kl (h : AInv p T at_ behind hs k b) (ha : at_ ≤ T.length) : k ≤ (rsT T).length := by
  rcases Nat.lt_or_ge (rsT T).length k with h1 | h1
  · have := h.ov (by have := h.k1; omega); omega
  · exact h1
theorem AInv.place (h : AInv p T at_ behind hs k b) (ha : at_ ≤ T.length) {j : Nat} (hj : j ≤ (rsT T).length) (he : atF T j = at_) : j = k := by
  have hk := h.kl ha
  have h1 := h.hi hk
  rcases Nat.lt_trichotomy j k with h2 | h2 | h2
  · have := h.lo j h2; omega
  · exact h2
  · have := atF_lt (T := T) hj h2; omega
theorem AInv.skip (h : AInv p T at_ behind hs k b) (ha : at_ ≤ T.length) {tv : Int} (hto : xs[at_]? = some tv)
    (hx : (∃ j o, atF T j = at_ ∧ j ≤ (rsT T).length ∧ Long p (rsT T) j o ∧ xs[at_]? = some (endI T o)) ∨ ((¬ ∃ j, j ≤ (rsT T).length ∧ atF T j = at_) ∧ xs[at_]? = some (-1)))
    (hc : tv = -1 ∨ tv = (at_ : Int) ∧ (at_ : Int) = behind) : ∃ k' , AInv p T (at_ + 1) behind hs k' b := by
  have hk := h.kl ha
  have hi := h.hi hk
  rcases hx with ⟨j, o, he, hj, hL, hx⟩ | ⟨hno, hx⟩
  · obtain rfl := h.place ha hj he
    rw [hto] at hx; injection hx with hx
    refine ⟨j + 1, by omega, fun i hi' => ?_, fun hj1 => ?_, fun hj1 => ?_, h.bh, h.bl, fun l hl => h.all l (.skip hj ?_ hl)⟩
    · rcases Nat.lt_or_ge i j with h1 | h1
      · have := h.lo i h1; omega
      · obtain rfl : i = j := by omega
        omega
    · have := atF_lt (T := T) hj1 (Nat.lt_succ_self j); omega
    · obtain rfl : j = (rsT T).length := by omega
      have := atF_last (T := T); omega
    · rcases hc with hc | ⟨hc1, hc2⟩
      · rw [hc] at hx
        rw [endI_none.1 hx.symm] at hL
        exact .inl hL
      · cases o with
        | none => rw [hc1] at hx; simp [endI] at hx
        | some e =>
          have hel : e ≤ (rsT T).length := hL.1.lt hj
          rw [hc1] at hx
          simp only [endI] at hx
          have h1 : atF T e = atF T j := by omega
          have e1 : e = j := by
            rcases Nat.lt_trichotomy e j with h2 | h2 | h2
            · have := atF_lt (T := T) hj h2; omega
            · exact h2
            · have := atF_lt (T := T) hel h2; omega
          subst e1
          refine .inr ⟨hL, ?_⟩
          have hb := h.bh
          cases b with
          | none => rw [hb] at hc2; simp [endI] at hc2
          | some x =>
            have hxl := h.bl x rfl
            rw [hb] at hc2
            simp only [endI] at hc2
            have h1 : atF T x = atF T e := by omega
            congr 1
            rcases Nat.lt_trichotomy x e with h2 | h2 | h2
            · have := atF_lt (T := T) hj h2; omega
            · exact h2
            · have := atF_lt (T := T) hxl h2; omega
  · refine ⟨k, h.k1, fun i hi' => by have := h.lo i hi'; omega, fun _ => ?_, fun h1 => by omega, h.bh, h.bl, h.all⟩
    rcases Nat.lt_or_ge at_ (atF T k) with h1 | h1
    · omega
    · exact absurd ⟨k, hk, by omega⟩ hno
theorem AInv.take (h : AInv p T at_ behind hs k b) (ha : at_ ≤ T.length) {tv : Int} (hto : xs[at_]? = some tv)
    (hx : (∃ j o, atF T j = at_ ∧ j ≤ (rsT T).length ∧ Long p (rsT T) j o ∧ xs[at_]? = some (endI T o)) ∨ ((¬ ∃ j, j ≤ (rsT T).length ∧ atF T j = at_) ∧ xs[at_]? = some (-1)))
    (hc : tv ≠ -1) (hc2 : ¬ (tv = (at_ : Int) ∧ (at_ : Int) = behind)) : ∃ e z : Nat, tv = (z : Int) ∧ at_ ≤ z ∧ z ≤ T.length ∧ ((at_ : Int), (z : Int)) = hitI T (k, e) ∧ AInv p T z tv (hs ++ [(k, e)]) e (some e) := by
  have hk := h.kl ha
  have hi := h.hi hk
  rcases hx with ⟨j, o, he, hj, hL, hx⟩ | ⟨hno, hx⟩
  · obtain rfl := h.place ha hj he
    rw [hto] at hx; injection hx with hx
    cases o with
    | none => exact absurd hx hc
    | some e =>
      have hel : e ≤ (rsT T).length := hL.1.lt hj
      have hje := hL.1.le
      have hle := atF_le (T := T) hel hje
      have hmx := atF_max (T := T) hel
      simp only [endI] at hx
      refine ⟨e, atF T e, hx, by omega, hmx, by unfold hitI; simp only; rw [he], by omega, fun i hi' => atF_lt hel hi', fun _ => Nat.le_refl _, fun h1 => by omega, by rw [hx]; rfl, fun x hx' => by injection hx' with hx'; omega, fun l hl => ?_⟩
      rw [List.append_assoc]
      refine h.all _ (.take hj hL (fun ⟨h1, h2⟩ => hc2 ?_) hl)
      subst h1
      rw [h.bh, h2]
      simp only [endI]
      exact ⟨by omega, by omega⟩
  · rw [hto] at hx; injection hx with hx; exact absurd hx hc
end
end Go.Proofs.YtaapbmdojkjphaaGreat
namespace Go.Proofs.YtaapbmdojkjphaaGreat
open Go Go.RowKit
set_option linter.unusedVariables false
set_option maxRecDepth 20000
theorem clear_spots (w : World) (ty : TypeId) (b o n c : Nat) (hn : 0 < n)
    (hc : ∀ j, j < n * 2 → (w.cell? ⟨b, o + j, none⟩).isSome = true) (hf : ∀ j, j < n * 2 → w.frozen? ⟨b, o + j, none⟩ = false) :
    (Builtin.clear_ #[131] ty #[.slice (some ⟨b, o, none⟩) n c]).run Tryz.prog w = .ok (.tuple #[]) (w.setCells b o (List.replicate (n * 2) (.int .i64 0))) := by
  have hzc : (Builtin.zeroCells #[.int .i64 0, .int .i64 0] n).toList = List.replicate (n * 2) (.int .i64 0) := by
    simp [Builtin.zeroCells]
    apply List.ext_getElem
    · simp
    · intro i h1 h2
      simp
      rcases Nat.mod_two_eq_zero_or_one i with h | h <;> simp [h]
  have hst := run_storeCells_cells (P := Tryz.prog) b o (List.replicate (n * 2) (.int .i64 0)) 0 w (by simpa using hc) (by simpa using hf) (by intro v hv'; rw [List.eq_of_mem_replicate hv']; rfl)
  simp only [Nat.add_zero] at hst
  obtain ⟨m, rfl⟩ : ∃ m, n = m + 1 := ⟨n - 1, by omega⟩
  have hu := Tryz.underlying131
  simp [Builtin.clear_, run_underlying hu, Value.cells, hzc, hst]
theorem setCells_row (b : Nat) (t : TypeId) : ∀ (vs : List Value) (o : Nat) (w : World) (cs : Array Value), w.heap[b]? = some (.cells cs t (0, 0)) → ∃ cs', (w.setCells b o vs).heap[b]? = some (.cells cs' t (0, 0)) ∧ cs'.size = cs.size ∧ ∀ j, j < o → cs'[j]? = cs[j]?
  | [], _, _, cs, h => ⟨cs, h, rfl, fun _ _ => rfl⟩
  | v :: vs, o, w, cs, h => by
    obtain ⟨cs', h1, h2, h3⟩ := setCells_row b t vs (o + 1) (w.setCell ⟨b, o, none⟩ v) _ (heap_setCell_same w b o cs t v h)
    refine ⟨cs', h1, by rw [h2]; simp, fun j hj => ?_⟩
    rw [h3 j (by omega)]
    rw [Array.getElem?_setIfInBounds_ne (by omega)]
theorem setCells_oth (b : Nat) : ∀ (vs : List Value) (o : Nat) (w : World) (k : Nat), k ≠ b → (w.setCells b o vs).heap[k]? = w.heap[k]?
  | [], _, _, _, _ => rfl
  | v :: vs, o, w, k, h => (setCells_oth b vs (o + 1) _ k h).trans (Below.heap_setCell w _ v k h)
theorem setCells_below {B b : Nat} (hb : B ≤ b) : ∀ (vs : List Value) (o : Nat) (a w : World), Below B a w → Below B a (w.setCells b o vs)
  | [], _, _, _, h => h
  | v :: vs, o, a, w, h => setCells_below hb vs (o + 1) a _ (h.setCell (p := ⟨b, o, none⟩) hb v)
theorem filter_take {xs : List (Nat × Nat)} {far k : Nat} {x : Nat × Nat} (hs : xs.Pairwise fun x y => x.2 ≤ y.2) (hx : xs[k]? = some x) (hp : far < x.2) (hl : ∀ (j : Nat) (y : Nat × Nat), j < k → xs[j]? = some y → decide (far < y.2) = false) : (xs.filter fun y => decide (y.2 ≤ far)) = xs.take k := by
  have hk := (List.getElem?_eq_some_iff.1 hx).1
  have h1 : (xs.filter fun y => decide (y.2 ≤ far)) = (xs.take k ++ xs.drop k).filter fun y => decide (y.2 ≤ far) := by rw [List.take_append_drop]
  rw [h1, List.filter_append]
  have h2 : (xs.take k).filter (fun y => decide (y.2 ≤ far)) = xs.take k := List.filter_eq_self.2 fun y hy => by
    obtain ⟨j, hj, rfl⟩ := List.getElem_of_mem hy
    rw [List.length_take] at hj
    have := hl j xs[j] (by omega) (List.getElem?_eq_getElem (by omega))
    simp at this ⊢
    exact this
  have h3 : (xs.drop k).filter (fun y => decide (y.2 ≤ far)) = [] := List.filter_eq_nil_iff.2 fun y hy => by
    obtain ⟨j, hj, rfl⟩ := List.getElem_of_mem hy
    rw [List.length_drop] at hj
    have hx' : xs[k] = x := by rw [List.getElem?_eq_getElem hk] at hx; exact Option.some.inj hx
    have hle : x.2 ≤ (xs[k + j]'(by omega)).2 := by
      rcases Nat.eq_zero_or_pos j with h0 | h0
      · subst h0; simp [hx']
      · have := (List.pairwise_iff_getElem.1 hs) k (k + j) hk (by omega) (by omega)
        rw [hx'] at this
        exact this
    simp [List.getElem_drop]
    omega
  rw [h2, h3, List.append_nil]
theorem filter_all {xs : List (Nat × Nat)} {far : Nat} (h : ∀ x ∈ xs, decide (far < x.2) = false) : (xs.filter fun y => decide (y.2 ≤ far)) = xs := List.filter_eq_self.2 fun y hy => by
  have := h y hy
  simp at this ⊢
  exact this
theorem slice_from_spots (b n c k : Nat) (hk : k ≤ n) (hkc : k < c) (w : World) :
    (Instr.slice 131 (.slice (some ⟨b, 0, none⟩) n c) (some (.int .i64 (k : Int))) none none).run Tryz.prog w = .ok (.slice (some ⟨b, k * 2, none⟩) (n - k) (c - k)) w := by
  have hr := run_slice_l (P := Tryz.prog) (w := w) (t := 131) (a := some ⟨b, 0, none⟩) (len := n) (cap := c) (ht := spot_slice) (kl := .i64) (l := (k : Int)) (h0 := by omega) (h1 := by omega)
  rw [hr, spot_elem, spot_size]
  simp [Result.andThen, sliced]
  rw [if_neg (by omega)]
  simp [Addr.add]
  omega
set_option maxHeartbeats 4000000 in
theorem dele_any {W : World} {B : Nat} {H : Option Addr} {hn hc : Nat} {xs : List (Nat × Nat)} (ho : W.ownsRow B 155 2 (.slice H hn hc) hn (cellsS xs)) (hB : B ≤ W.heap.size) (hsm : hn ≤ 100000) (bx far : Nat) (hs : xs.Pairwise fun x y => x.2 ≤ y.2)
    (hbx : W.heap[bx]? = some (.cells #[.int .i64 (far : Int)] 3 (0, 0))) :
    Calls Tryz.prog 116 #[.slice H hn hc, .func (.func 117) #[] #[.pointer (some ⟨bx, 0, none⟩)]] W fun en w' => ∃ m, en = .returned (.slice H m hc) ∧ w'.ownsRow B 155 2 (.slice H m hc) m (cellsS (xs.filter fun y => decide (y.2 ≤ far))) ∧ Below B W w' ∧ ∀ k, k < W.heap.size → (Value.slice H hn hc).ownBlock ≠ some k → w'.heap[k]? = W.heap[k]? := by
  have hbl := (Array.getElem?_eq_some_iff.1 hbx).1
  have HI := Lib.hid (indexL_any ho hsm bx (fun x => decide (far < x.2)) fun w' hb x hx => lookL_any bx ((hb.block bx hbl).trans hbx))
  have HL := Lib.hid fun (w' : World) (hb : Below W.heap.size W w') (i f : Nat) => lookL_any (W := w') (i := i) (f := f) (far := far) bx ((hb.block bx hbl).trans hbx)
  have HO := Lib.hid (And.intro ho (And.intro (own_len ho) (And.intro hs hB)))
  clear ho hs hbx
  go_enter Tryz.func116, Tryz.ntmps116
  go_wp2_with fail
  (with_reducible refine HI.out.mono ?_)
  rintro en w2 ⟨i, rfl, hfo, hb2⟩
  have HB2 := Lib.hid hb2
  rcases hfo with ⟨rfl, hno⟩ | ⟨k, x, rfl, hx, hpx, hlt⟩
  · have HN := Lib.hid hno
    clear hno hb2
    go_wp2
    go_ret
    refine ⟨hn, rfl, ?_, HB2.out.mono HO.out.2.2.2, fun k hk _ => HB2.out.block k hk⟩
    rw [filter_all HN.out]
    exact row_keep HO.out.1 fun k hk _ => HB2.out.block k hk
  · obtain ⟨b, rfl, hkn, _, hbb, _, _, _⟩ := spot_at HO.out.1 hx
    have hk1 : (0 : Int) ≤ (k : Int) := by omega
    have hk2 : (k : Int) < (hn : Int) := by omega
    have hkm : ¬ (k : Int) = -1 := by omega
    have hke : ((k : Int) == -1) = false := by simp
    have HN := Lib.hid (And.intro hx (And.intro hpx hlt))
    clear hx hpx hlt hb2 hbb
    have HL2 := Lib.hid hbl
    clear hbl
    go_wp2_with fail
    go_loopw [5, 6] (fun v5 v6 wr => ∃ j : Nat, v5 = .int .i64 (k : Int) ∧ v6 = .int .i64 (j : Int) ∧ k < j ∧ j ≤ hn ∧ Hid (Below W.heap.size W wr)) (fun _ v6 _ => hn - (intOf v6).toNat)
    case atStart => exact ⟨k + 1, rfl, rfl, by omega, by omega, HB2⟩
    case round =>
      obtain ⟨j, rfl, rfl, hkj, hj, H1⟩ := hrel
      by_cases hl : j < hn
      · obtain ⟨y, hy⟩ : ∃ y, xs[j]? = some y := ⟨_, List.getElem?_eq_getElem (by have := HO.out.2.1; omega)⟩
        obtain ⟨b', hb', _, _, hbb, d0, d1, _⟩ := spot_at HO.out.1 hy
        injection hb' with hb'
        injection hb' with hb' _
        subst hb'
        have c0 := (H1.out.cell (p := ⟨b, j * 2, none⟩) hbb).trans d0
        have c1 := (H1.out.cell (p := ⟨b, j * 2 + 1, none⟩) hbb).trans d1
        have hfy : far < y.2 := by
          have h1 := HN.out.2.1
          simp at h1
          have hxk := HN.out.1
          have hlt := (List.getElem?_eq_some_iff.1 hxk).1
          have hlj := (List.getElem?_eq_some_iff.1 hy).1
          have h2 := (List.pairwise_iff_getElem.1 HO.out.2.2.1) k j hlt hlj hkj
          rw [List.getElem?_eq_getElem hlt] at hxk
          rw [List.getElem?_eq_getElem hlj] at hy
          injection hxk with hxk
          injection hy with hy
          rw [hxk, hy] at h2
          omega
        have hbX : Below W.heap.size W (wr.alloc (.cells #[.int .i64 (y.1 : Int), .int .i64 (y.2 : Int)] 155)) := H1.out.alloc H1.out.size _
        have HC := Lib.hid (HL.out _ hbX y.1 y.2)
        rw [decide_eq_true hfy] at HC
        have HBX := Lib.hid (And.intro hbX H1.out.size)
        have hj1 : (0 : Int) ≤ (j : Int) := by omega
        have hj2 : (j : Int) < (hn : Int) := by omega
        have b0 := cell_of_row _ wr.heap.size 0 _ _ (0, 0) (heap_alloc_new wr (.cells #[.int .i64 (y.1 : Int), .int .i64 (y.2 : Int)] 155))
        have b1 := cell_of_row _ wr.heap.size 1 _ _ (0, 0) (heap_alloc_new wr (.cells #[.int .i64 (y.1 : Int), .int .i64 (y.2 : Int)] 155))
        clear hbX hfy d0 d1 hy hbb
        go_wp2_with (go_at_call 117; (with_reducible refine HC.out.mono ?_); rintro en w7 ⟨rfl, hb7⟩; have HB7 := Lib.hid (HBX.out.1.trans (hb7.mono HBX.out.1.size)); clear hb7)
        exact ⟨⟨j + 1, rfl, rfl, by omega, hl, HB7⟩, by simp [intOf]; omega⟩
      · obtain rfl : j = hn := by omega
        have hcap : j ≤ hc ∧ hc ≤ maxLen := by
          rcases HO.out.1.2 with ⟨e, h0⟩ | ⟨_, cap, _, e, _, _, h1, h2, _⟩
          · cases e
          · injection e with _ _ e3; subst e3; exact ⟨h1, h2⟩
        have hsl := slice_from_spots b j hc k (by omega) (by omega)
        have hsu := spots_upto (some ⟨b, 0, none⟩) j hc k (by omega)
        obtain ⟨cur, hcur⟩ : ∃ cur, W.heap[b]? = some (.cells cur 155 (0, 0)) ∧ cur.size = hc * 2 ∧ cur.toList.take (j * 2) = cellsS xs := by
          rcases HO.out.1.2 with ⟨e, h0⟩ | ⟨_, cap, cu, e, _, h3, h1, h2, h4, h5⟩
          · cases e
          · injection e with e1 _ e3; injection e1 with e1; injection e1 with e1 _; subst e1; subst e3; exact ⟨cu, h3, h4, h5⟩
        have hbl := (Array.getElem?_eq_some_iff.1 hcur.1).1
        have hcw := (H1.out.block b hbl).trans hcur.1
        have hclr := fun ty => clear_spots wr ty b (k * 2) (j - k) (hc - k) (by omega) (fun i hi => by rw [cell_of_row wr b (k * 2 + i) cur _ (0, 0) hcw]; simp; omega) (fun i hi => by simp [World.frozen?, hcw])
        have HW := Lib.hid (And.intro hcur (And.intro hcw hbl))
        clear hcur hcw hbl
        go_wp2
        go_ret
        have hft := filter_take HO.out.2.2.1 HN.out.1 (by have := HN.out.2.1; simpa using this) HN.out.2.2
        obtain ⟨cur', k1, k2, k3⟩ := setCells_row b 155 (List.replicate ((j - k) * 2) (.int .i64 0)) (k * 2) wr cur HW.out.2.1
        refine ⟨k, rfl, ?_, setCells_below (by have := row_lt HO.out.1 (k := b) rfl; exact this.1) _ _ _ _ (H1.out.mono HO.out.2.2.2), fun q hq hne => ?_⟩
        · rw [hft]
          refine ⟨?_, .inr ⟨b, hc, cur', rfl, (row_lt HO.out.1 (k := b) rfl).1, k1, by omega, hcap.2, by rw [k2]; exact HW.out.1.2.1, ?_⟩⟩
          · rw [cellsS_length, List.length_take, HO.out.2.1]; omega
          · have e1 : cellsS (xs.take k) = (cellsS xs).take (k * 2) := by
              have : cellsS xs = cellsS (xs.take k) ++ cellsS (xs.drop k) := by rw [← cellsS_append, List.take_append_drop]
              rw [this, List.take_left' (by rw [cellsS_length, List.length_take, HO.out.2.1]; omega)]
            rw [e1, ← HW.out.1.2.2, List.take_take, Nat.min_eq_left (by omega)]
            apply List.ext_getElem?
            intro i
            rcases Nat.lt_or_ge i (k * 2) with hi | hi
            · rw [List.getElem?_take_of_lt hi, List.getElem?_take_of_lt hi, Array.getElem?_toList, Array.getElem?_toList]
              exact k3 i hi
            · rw [List.getElem?_take_eq_none hi, List.getElem?_take_eq_none hi]
        · rw [setCells_oth b _ _ _ q (fun e => hne (by rw [e]; rfl))]
          exact H1.out.block q hq
set_option maxHeartbeats 4000000 in
theorem leave_any {B g mb : Nat} {e : WEnv} {w : World} {at_ : Nat} {here : List (Nat × Nat)} {last : SRow} {met : List Int} (h : WalkS B g mb e w at_ here last met) (hnl : here.length ≤ 100000) (hs : here.Pairwise fun x y => x.2 ≤ y.2) (far : Nat) :
    Calls Tryz.prog 89 #[.pointer (some ⟨g, 0, none⟩), .int .i64 (far : Int)] w fun en w' => en = .returned (.tuple #[]) ∧ WalkS B g mb e w' at_ (here.filter fun y => decide (y.2 ≤ far)) last met ∧ Tch B g mb w w' := by
  have hb0 : Below w.heap.size w (w.alloc (.cells #[.int .i64 (far : Int)] 3)) := (Below.refl _ _).alloc (Nat.le_refl _) _
  have hbox := heap_alloc_new w (.cells #[.int .i64 (far : Int)] 3)
  obtain ⟨H, hn, hc, hC0⟩ := h
  have hC := hC0.below hb0
  have c4 := hC.cells.2.2.2.2.1
  have hlen := own_len hC.row
  have hgl := hC.lt.1
  have hBX : B ≤ (w.alloc (.cells #[.int .i64 (far : Int)] 3)).heap.size := by have := hC.lt; have := hC.hB; omega
  have HD := Lib.hid (dele_any hC.row hBX (by omega) w.heap.size far hs hbox)
  have HC := Lib.hid (And.intro hC0 (And.intro hC (And.intro hb0 hBX)))
  clear hC hC0 hb0 hbox hlen hBX
  go_enter Tryz.func89, Tryz.ntmps89
  go_wp2_with fail
  (with_reducible refine HD.out.mono ?_)
  rintro en w2 ⟨m, rfl, hrow, hb2, hk⟩
  have hC := HC.out.2.1
  have hoX := HC.out.2.2.2
  have hg2 : w2.heap[g]? = some (.cells (walkV e at_ H hn hc last.A last.n last.c mb) 133 (0, 0)) := (hk g hgl (row_ne_blk hC.row hC.hg (by decide))).trans hC.hg
  have hm2 := (hk mb hC.lt.2.1 (row_ne_blk hC.row hC.hm (by decide))).trans hC.hm
  have hold : w2.ownsRow B 155 2 (.slice last.A last.n last.c) last.n (cellsS last.xs) := row_keep hC.old fun k hkl hv => hk k hkl fun e => hC.ne k e hv
  have c4' : w2.cell? ⟨g, 4, none⟩ = some (.slice H hn hc) := cell_of_row _ g 4 _ _ (0, 0) hg2
  have f4 : w2.frozen? ⟨g, 4, none⟩ = false := by simp [World.frozen?, hg2]
  have hoth : ∀ k, k ≠ g → (w2.setCell ⟨g, 4, none⟩ (.slice H m hc)).heap[k]? = w2.heap[k]? := fun k hk => Below.heap_setCell _ _ _ _ hk
  have hbf : Below B w (w2.setCell ⟨g, 4, none⟩ (.slice H m hc)) := ((HC.out.2.2.1.mono (by have := HC.out.1.lt; have := HC.out.1.hB; omega)).trans hb2).setCell (p := ⟨g, 4, none⟩) hC.hB _
  have hown : (Value.slice H m hc).ownBlock = (Value.slice H hn hc).ownBlock := by cases H <;> rfl
  have hCn : WalkC B g mb e (w2.setCell ⟨g, 4, none⟩ (.slice H m hc)) at_ H m hc (here.filter fun y => decide (y.2 ≤ far)) last.A last.n last.c last.xs met := by
    refine ⟨?_, (hoth mb (Ne.symm hC.lt.2.2)).trans hm2, hC.hml, hC.hB, hC.hBm, row_keep hrow fun k hk hv => hoth k fun e => ?_, row_keep hold fun k hk hv => hoth k fun e => ?_, fun b h1 => hC.ne b (hown ▸ h1), HC.out.1.ins.below hbf, HC.out.1.ways.below hbf, hC.win, hC.small⟩
    · rw [heap_setCell_same w2 g 4 _ _ _ hg2]; rfl
    · exact row_ne_blk hrow hg2 (by decide) (by rw [hv, e])
    · exact row_ne_blk hold hg2 (by decide) (by rw [hv, e])
  have hT : Tch B g mb w (w2.setCell ⟨g, 4, none⟩ (.slice H m hc)) := tch_of HC.out.1 hCn hbf fun k hkl k1 k2 k3 k4 => ⟨by rw [hoth k k1, hk k (Nat.lt_of_lt_of_le hkl HC.out.2.2.1.size) k3]; exact HC.out.2.2.1.block k hkl, by rw [hown]; exact k3, k4⟩
  have HF := Lib.hid (And.intro hCn hT)
  clear hC hoX hg2 hm2 hold hoth hbf hown hCn hT hrow hb2 hk c4
  go_wp2
  go_end0
  exact ⟨rfl, ⟨_, _, _, HF.out.1⟩, HF.out.2⟩
end Go.Proofs.YtaapbmdojkjphaaGreat
namespace Go.Proofs.YtaapbmdojkjphaaGreat
open Go Go.RowKit
set_option linter.unusedVariables false
set_option maxRecDepth 20000
def addWay (back : Bool) (W : List (List (Nat × Nat))) (ft : Nat × Nat) : List (List (Nat × Nat)) :=
  if back then W.modify ft.2 (· ++ [(ft.1, ft.1)]) else W.modify ft.1 (· ++ [ft])
def buildW (back : Bool) (n : Nat) (es : List (Nat × Nat)) : List (List (Nat × Nat)) := es.foldl (addWay back) (List.replicate n [])
theorem buildW_snoc (back : Bool) (n : Nat) (es : List (Nat × Nat)) (ft : Nat × Nat) : buildW back n (es ++ [ft]) = addWay back (buildW back n es) ft := by simp [buildW]
theorem addWay_len (back : Bool) (W : List (List (Nat × Nat))) (ft : Nat × Nat) : (addWay back W ft).length = W.length := by unfold addWay; cases back <;> simp
theorem buildW_len (back : Bool) (n : Nat) (es : List (Nat × Nat)) : (buildW back n es).length = n := by
  unfold buildW
  have : ∀ (es : List (Nat × Nat)) (W : List (List (Nat × Nat))), (es.foldl (addWay back) W).length = W.length := by
    intro es
    induction es with
    | nil => intro W; rfl
    | cons x l ih => intro W; rw [List.foldl_cons, ih, addWay_len]
  rw [this]; simp
def keyW (back : Bool) (ft : Nat × Nat) : Nat := if back then ft.2 else ft.1
def wayW (back : Bool) (ft : Nat × Nat) : Nat × Nat := if back then (ft.1, ft.1) else ft
theorem addWay_eq (back : Bool) (W : List (List (Nat × Nat))) (ft : Nat × Nat) : addWay back W ft = W.modify (keyW back ft) (· ++ [wayW back ft]) := by unfold addWay keyW wayW; cases back <;> rfl
theorem mem_buildW {back : Bool} {n : Nat} {es : List (Nat × Nat)} : ∀ {i : Nat} {ws : List (Nat × Nat)}, (buildW back n es)[i]? = some ws → ∀ w, w ∈ ws ↔ ∃ ft ∈ es, keyW back ft = i ∧ wayW back ft = w := by
  have key : ∀ (r : List (Nat × Nat)) (i : Nat) (ws : List (Nat × Nat)), (buildW back n r.reverse)[i]? = some ws → ∀ w, w ∈ ws ↔ ∃ ft ∈ r, keyW back ft = i ∧ wayW back ft = w := by
    intro r
    induction r with
    | nil =>
      intro i ws h w
      simp [buildW, List.getElem?_replicate] at h
      rw [h.2]; simp
    | cons x r ih =>
      intro i ws h w
      rw [List.reverse_cons, buildW_snoc, addWay_eq, List.getElem?_modify] at h
      obtain ⟨ws0, h0, h1⟩ := Option.map_eq_some_iff.1 h
      have ih0 := ih i ws0 h0 w
      by_cases hk : keyW back x = i
      · rw [if_pos hk] at h1
        rw [← h1, List.mem_append, ih0, List.mem_singleton]
        constructor
        · rintro (⟨ft, h2, h3⟩ | h2)
          · exact ⟨ft, List.mem_cons_of_mem _ h2, h3⟩
          · exact ⟨x, List.mem_cons_self, hk, h2.symm⟩
        · rintro ⟨ft, h2, h3, h4⟩
          rcases List.mem_cons.1 h2 with rfl | h2
          · exact .inr h4.symm
          · exact .inl ⟨ft, h2, h3, h4⟩
      · rw [if_neg hk] at h1
        have h1 : ws0 = ws := h1
        rw [← h1, ih0]
        constructor
        · rintro ⟨ft, h2, h3⟩
          exact ⟨ft, List.mem_cons_of_mem _ h2, h3⟩
        · rintro ⟨ft, h2, h3, h4⟩
          rcases List.mem_cons.1 h2 with rfl | h2
          · exact absurd h3 hk
          · exact ⟨ft, h2, h3, h4⟩
  intro i ws h w
  have := key es.reverse i ws (by rw [List.reverse_reverse]; exact h) w
  simpa using this
theorem buildW_row_len {back : Bool} {n : Nat} {es : List (Nat × Nat)} : ∀ {i : Nat} {ws : List (Nat × Nat)}, (buildW back n es)[i]? = some ws → ws.length ≤ es.length := by
  have key : ∀ (r : List (Nat × Nat)) (i : Nat) (ws : List (Nat × Nat)), (buildW back n r.reverse)[i]? = some ws → ws.length ≤ r.length := by
    intro r
    induction r with
    | nil =>
      intro i ws h
      simp [buildW, List.getElem?_replicate] at h
      rw [h.2]; simp
    | cons x r ih =>
      intro i ws h
      rw [List.reverse_cons, buildW_snoc, addWay_eq, List.getElem?_modify] at h
      obtain ⟨ws0, h0, h1⟩ := Option.map_eq_some_iff.1 h
      have ih0 := ih i ws0 h0
      have : ws.length ≤ ws0.length + 1 := by rw [← h1]; split <;> simp
      simp; omega
  intro i ws h
  have := key es.reverse i ws (by rw [List.reverse_reverse]; exact h)
  simpa using this
def edgesL (p : List InstL) : List (Nat × Nat) := (List.range p.length).flatMap fun i => match p[i]? with | some v => (outs v).map fun t => (i, t) | none => []
theorem mem_edgesL {p : List InstL} {f t : Nat} : (f, t) ∈ edgesL p ↔ ∃ v, p[f]? = some v ∧ t ∈ outs v := by
  unfold edgesL
  rw [List.mem_flatMap]
  constructor
  · rintro ⟨i, _, h⟩
    cases hv : p[i]? with
    | none => rw [hv] at h; simp at h
    | some v =>
      rw [hv] at h
      obtain ⟨t', h1, h2⟩ := List.mem_map.1 h
      injection h2 with h2 h3
      subst h2; subst h3
      exact ⟨v, hv, h1⟩
  · rintro ⟨v, hv, ht⟩
    exact ⟨f, List.mem_range.2 (List.getElem?_eq_some_iff.1 hv).1, by rw [hv]; exact List.mem_map.2 ⟨t, ht, rfl⟩⟩
theorem onward_build (p : List InstL) : Onward p (buildW false p.length (edgesL p)) := ⟨buildW_len _ _ _, fun i ws h b t => by
  rw [mem_buildW h]
  constructor
  · rintro ⟨⟨f, t'⟩, h1, h2, h3⟩
    have h2 : f = i := h2
    have h3 : (f, t') = (b, t) := h3
    injection h3 with h3 h4
    subst h3; subst h4; subst h2
    exact ⟨rfl, mem_edgesL.1 h1⟩
  · rintro ⟨rfl, h1⟩
    exact ⟨(b, t), mem_edgesL.2 h1, rfl, rfl⟩⟩
theorem back_build (p : List InstL) : BackW p (buildW true p.length (edgesL p)) := ⟨buildW_len _ _ _, fun i ws h b t => by
  rw [mem_buildW h]
  constructor
  · rintro ⟨⟨f, t'⟩, h1, h2, h3⟩
    have h2 : t' = i := h2
    have h3 : (f, f) = (b, t) := h3
    injection h3 with h3 h4
    subst h3; subst h4; subst h2
    exact ⟨rfl, mem_edgesL.1 h1⟩
  · rintro ⟨rfl, h1⟩
    exact ⟨(b, i), mem_edgesL.2 h1, rfl, rfl⟩⟩
theorem info_way : (Tryz.prog.info? 153).map (fun i => (i.zero, i.size, i.bytes)) = some (some (.agg #[.int .i64 0, .int .i64 0]), 2, 16) := by kernel_rfl
structure Bld (back : Bool) (B gw bx n : Nat) (w : World) (es : List (Nat × Nat)) (Vs : List Value) : Prop where
  hbx : w.heap[bx]? = some (.cells #[.slice (some ⟨gw, 0, none⟩) n n] 129 (0, 0))
  hgw : w.heap[gw]? = some (.cells Vs.toArray 151 (0, 0))
  hl : Vs.length = n
  hB : B ≤ bx ∧ B ≤ gw
  rows : ∀ (i : Nat) (V : Value) (ws : List (Nat × Nat)), Vs[i]? = some V → (buildW back n es)[i]? = some ws → ∃ P c, V = .slice P ws.length c ∧ w.ownsRow B 153 2 (.slice P ws.length c) ws.length (cellsS ws)
  ne : ∀ (i j : Nat) (U V : Value), i ≠ j → Vs[i]? = some U → Vs[j]? = some V → ∀ k, U.ownBlock = some k → V.ownBlock ≠ some k
section
variable {back : Bool} {B gw bx n : Nat} {w w' : World} {es : List (Nat × Nat)} {Vs : List Value}
theorem Bld.lt (h : Bld back B gw bx n w es Vs) : gw < w.heap.size ∧ bx < w.heap.size ∧ gw ≠ bx := by
  refine ⟨(Array.getElem?_eq_some_iff.1 h.hgw).1, (Array.getElem?_eq_some_iff.1 h.hbx).1, ?_⟩
  rintro rfl
  have h1 := h.hgw
  rw [h.hbx] at h1
  injection h1 with h1
  injection h1 with _ h1 _
  exact absurd h1 (by decide)
theorem Bld.keep (h : Bld back B gw bx n w es Vs) (hb : Below w.heap.size w w') : Bld back B gw bx n w' es Vs :=
  ⟨(hb.block bx h.lt.2.1).trans h.hbx, (hb.block gw h.lt.1).trans h.hgw, h.hl, h.hB, fun i V ws h1 h2 => by
    obtain ⟨P, c, e, ho⟩ := h.rows i V ws h1 h2
    exact ⟨P, c, e, row_keep ho fun k hk _ => hb.block k hk⟩, h.ne⟩
def KpW (gw : Nat) (w w' : World) : Prop := ∀ k o, w.heap[k]? = some o → k ≠ gw → (∀ cs f, o ≠ Obj.cells cs 153 f) → w'.heap[k]? = some o
def WayR (back : Bool) (B gw bx n : Nat) (w : World) (es : List (Nat × Nat)) (Vs : List Value) (ft : Nat × Nat) (key q : Nat) (v' : Value) (w' : World) : Prop :=
  ∃ P' c', v' = .slice P' (q + 1) c' ∧ (∃ u, w'.cell? ⟨gw, key, none⟩ = some u) ∧ w'.frozen? ⟨gw, key, none⟩ = false ∧ w'.cell? ⟨bx, 0, none⟩ = some (.slice (some ⟨gw, 0, none⟩) n n) ∧
    Bld back B gw bx n (w'.setCell ⟨gw, key, none⟩ (.slice P' (q + 1) c')) (es ++ [ft]) (Vs.set (key) (.slice P' (q + 1) c')) ∧ Below B w (w'.setCell ⟨gw, key, none⟩ (.slice P' (q + 1) c')) ∧ KpW gw w (w'.setCell ⟨gw, key, none⟩ (.slice P' (q + 1) c'))
theorem Bld.push (h : Bld back B gw bx n w es Vs) {ft : Nat × Nat} {key : Nat} (hkey : keyW back ft = key) (hk : key < n) {V : Value} (hV : Vs[key]? = some V) {ws : List (Nat × Nat)} (hw : (buildW back n es)[key]? = some ws) (hq : ws.length ≤ 100000) {P : Option Addr} {c : Nat} (hVP : V = .slice P ws.length c) {X : World} (hX : Below w.heap.size w X) {d : Nat} (hd : X.heap[d]? = some (.cells #[.int .i64 ((wayW back ft).1 : Int), .int .i64 ((wayW back ft).2 : Int)] 153 (0, 0))) :
    ∃ v' w', (Builtin.append_ #[151, 151] 151 #[.slice P ws.length c, .slice (some ⟨d, 0, none⟩) 1 1]).run Tryz.prog X = .ok v' w' ∧ WayR back B gw bx n w es Vs ft key ws.length v' w' := by
  subst hkey
  obtain ⟨i0, hi, hz0, hz1, hz2⟩ := info_parts info_way
  have hBX : B ≤ X.heap.size := by have := hX.size; have := h.lt; have := h.hB; omega
  have hBw : B ≤ w.heap.size := by have := h.lt; have := h.hB; omega
  obtain ⟨P0, c0, e0, ho⟩ := h.rows _ V ws hV hw
  rw [hVP] at e0
  injection e0 with e1 _ e2
  subst e1; subst e2
  have hoX := row_keep ho fun k hk _ => hX.block k hk
  have hcells : ∀ j u, [Value.int .i64 ((wayW back ft).1 : Int), .int .i64 ((wayW back ft).2 : Int)][j]? = some u → X.cell? ((⟨d, 0, none⟩ : Addr).add j) = some u := by
    intro j u hu
    rw [show (⟨d, 0, none⟩ : Addr).add j = ⟨d, 0 + j, none⟩ by unfold Addr.add; split <;> simp_all, cell_of_row X d (0 + j) _ 153 (0, 0) hd, Nat.zero_add]
    simpa using hu
  obtain ⟨V', w', h1, h2, h3, _, h4⟩ := run_append_own_at (P := Tryz.prog) X B 151 151 153 i0 _ 2 16 Tryz.underlying151 hi hz0 hz1 hz2 rfl (by decide) _ ws.length _ hoX ⟨d, 0, none⟩ 1 1 _ rfl hcells (by simp [Value.oneCell']) (by unfold maxLen; omega) (by omega) hBX
  have e1 : cellsS ws ++ [Value.int .i64 ((wayW back ft).1 : Int), .int .i64 ((wayW back ft).2 : Int)] = cellsS (ws ++ [wayW back ft]) := by rw [cellsS_append]; rfl
  rw [e1] at h2
  obtain ⟨P', c', rfl⟩ : ∃ P' c', V' = .slice P' (ws.length + 1) c' := by
    rcases h2.2 with ⟨rfl, h0⟩ | ⟨b, cap, cu, rfl, _⟩
    · omega
    · exact ⟨_, _, rfl⟩
  have hgX := (hX.block gw h.lt.1).trans h.hgw
  have hbX := (hX.block bx h.lt.2.1).trans h.hbx
  have hg' := (h3.block gw (Array.getElem?_eq_some_iff.1 hgX).1 fun e => row_ne_blk hoX hgX (by decide) e.symm).trans hgX
  have hb' := (h3.block bx (Array.getElem?_eq_some_iff.1 hbX).1 fun e => row_ne_blk hoX hbX (by decide) e.symm).trans hbX
  have hoth : ∀ k, k ≠ gw → (w'.setCell ⟨gw, keyW back ft, none⟩ (.slice P' (ws.length + 1) c')).heap[k]? = w'.heap[k]? := fun k hk => Below.heap_setCell _ _ _ _ hk
  have hset := heap_setCell_same w' gw (keyW back ft) _ _ (.slice P' (ws.length + 1) c') hg'
  have hbelow : Below B w w' := (hX.mono hBw).grown h3 hBX fun k hk => (row_lt hoX hk).1
  refine ⟨_, w', h1, P', c', rfl, ⟨V, ?_⟩, by simp [World.frozen?, hg'], cell_of_row w' bx 0 _ _ (0, 0) hb', ⟨(hoth bx (Ne.symm h.lt.2.2)).trans hb', ?_, by rw [List.length_set]; exact h.hl, h.hB, fun i U us hU hus => ?_, fun i j U U2 hij hU hU2 k hk1 hk2 => ?_⟩, hbelow.setCell (p := ⟨gw, keyW back ft, none⟩) h.hB.2 _, fun k o h1 h2 h5 => ?_⟩
  rotate_right
  · have hX1 := (hX.block k (Array.getElem?_eq_some_iff.1 h1).1).trans h1
    rw [hoth k h2, h3.block k (Array.getElem?_eq_some_iff.1 hX1).1 fun e => ?_]
    · exact hX1
    · rcases hoX.2 with ⟨e1, _⟩ | ⟨b, cap, cur, e1, _, hb9, _⟩
      · rw [e1] at e; cases e
      · rw [e1] at e; injection e with e; have e : k = b := e; subst e; rw [hb9] at hX1; injection hX1 with hX1; exact h5 _ _ hX1.symm
  · rw [cell_of_row w' gw (keyW back ft) _ _ (0, 0) hg']; simpa using hV
  · rw [hset]; simp
  · rw [buildW_snoc, addWay_eq, List.getElem?_modify] at hus
    obtain ⟨us0, k1, k2⟩ := Option.map_eq_some_iff.1 hus
    by_cases hik : keyW back ft = i
    · rw [if_pos hik] at k2
      subst hik
      rw [hw] at k1; injection k1 with k1; subst k1
      rw [List.getElem?_set_self (by rw [h.hl]; exact hk)] at hU
      injection hU with hU
      refine ⟨P', c', by rw [← hU, ← k2]; simp, ?_⟩
      rw [← k2, List.length_append]
      exact row_keep h2 fun k hk hv => hoth k fun e => row_ne_blk h2 hg' (by decide) (by rw [← e]; exact hv)
    · rw [if_neg hik] at k2
      have k2 : us0 = us := k2
      subst k2
      rw [List.getElem?_set_ne hik] at hU
      obtain ⟨P2, c2, e2, ho2⟩ := h.rows i U us0 hU k1
      refine ⟨P2, c2, e2, row_keep (row_keep (row_keep ho2 fun k hk _ => hX.block k hk) fun k hk hv => h3.block k hk fun e => ?_) fun k hk hv => hoth k fun e => ?_⟩
      · exact h.ne _ i V U hik hV hU k (by rw [hVP]; exact e.symm) (by rw [e2]; exact hv)
      · have := row_keep (row_keep ho2 fun k hk _ => hX.block k hk) (w' := w') fun k hk hv => h3.block k hk fun e => h.ne _ i V U hik hV hU k (by rw [hVP]; exact e.symm) (by rw [e2]; exact hv)
        exact row_ne_blk this hg' (by decide) (by rw [← e]; exact hv)
  · have old : ∀ (m : Nat) (Z : Value), m ≠ keyW back ft → Vs[m]? = some Z → ∀ k, Z.ownBlock = some k → (Value.slice P' (ws.length + 1) c').ownBlock ≠ some k := fun m Z hm hZ k hk1 hk2 => by
      have hmn : m < n := by have := (List.getElem?_eq_some_iff.1 hZ).1; rw [h.hl] at this; exact this
      obtain ⟨zs, hzs⟩ : ∃ zs, (buildW back n es)[m]? = some zs := ⟨_, List.getElem?_eq_getElem (by rw [buildW_len]; exact hmn)⟩
      obtain ⟨P2, c2, e2, ho2⟩ := h.rows m Z zs hZ hzs
      rcases h4 with h4 | h4
      · exact h.ne m _ Z V hm hZ hV k hk1 (by rw [hVP, ← h4]; exact hk2)
      · rw [h4] at hk2
        injection hk2 with hk2
        have := (row_lt ho2 (k := k) (by rw [← e2]; exact hk1)).2
        have := hX.size
        omega
    by_cases hi : i = keyW back ft
    · subst hi
      rw [List.getElem?_set_self (by rw [h.hl]; exact hk)] at hU
      rw [List.getElem?_set_ne hij] at hU2
      injection hU with hU
      subst hU
      exact old j U2 (Ne.symm hij) hU2 k hk2 hk1
    · rw [List.getElem?_set_ne (Ne.symm hi)] at hU
      by_cases hj : j = keyW back ft
      · subst hj
        rw [List.getElem?_set_self (by rw [h.hl]; exact hk)] at hU2
        injection hU2 with hU2
        subst hU2
        exact old i U hi hU k hk1 hk2
      · rw [List.getElem?_set_ne (Ne.symm hj)] at hU2
        exact h.ne i j U U2 hij hU hU2 k hk1 hk2
end
end Go.Proofs.YtaapbmdojkjphaaGreat
namespace Go.Proofs.YtaapbmdojkjphaaGreat
open Go Go.RowKit Go.Deep
set_option linter.unusedVariables false
set_option maxRecDepth 20000
theorem edgesL_snoc (p : List InstL) (v : InstL) {k : Nat} (hk : p.length = k) : edgesL (p ++ [v]) = edgesL p ++ (outs v).map fun t => (k, t) := by
  unfold edgesL
  rw [List.length_append, List.length_singleton, List.range_succ, List.flatMap_append]
  congr 1
  · have hf : ∀ (r : List Nat), (∀ i ∈ r, i < p.length) → (r.flatMap fun i => match (p ++ [v])[i]? with | some v => (outs v).map fun t => (i, t) | none => []) = r.flatMap fun i => match p[i]? with | some v => (outs v).map fun t => (i, t) | none => [] := by
      intro r
      induction r with
      | nil => intro _; rfl
      | cons i r ih =>
        intro h
        rw [List.flatMap_cons, List.flatMap_cons, ih fun j hj => h j (List.mem_cons_of_mem _ hj), List.getElem?_append_left (h i List.mem_cons_self)]
    exact hf _ fun i hi => List.mem_range.1 hi
  · simp [hk]
set_option maxHeartbeats 8000000 in
theorem onward1_any {B gw bx n : Nat} {w : World} {es : List (Nat × Nat)} {Vs : List Value} (h : Bld false B gw bx n w es Vs) (f t : Nat) (hk : f < n) (hes : es.length ≤ 50000) :
    Calls Tryz.prog 111 #[.int .i64 (f : Int), .int .i64 (t : Int), .pointer (some ⟨bx, 0, none⟩)] w fun e w' => e = .returned (.tuple #[]) ∧ ∃ Vs', Bld false B gw bx n w' (es ++ [(f, t)]) Vs' ∧ Below B w w' ∧ KpW gw w w' := by
  obtain ⟨V, hV⟩ : ∃ V, Vs[f]? = some V := ⟨_, List.getElem?_eq_getElem (by rw [h.hl]; exact hk)⟩
  obtain ⟨ws, hw⟩ : ∃ ws, (buildW false n es)[f]? = some ws := ⟨_, List.getElem?_eq_getElem (by rw [buildW_len]; exact hk)⟩
  have hwl := buildW_row_len hw
  obtain ⟨P, c, hVP, _⟩ := h.rows _ V ws hV hw
  have HP := Lib.hid fun (X : World) (d : Nat) (hX : Below w.heap.size w X) (hd : X.heap[d]? = some (.cells #[.int .i64 (f : Int), .int .i64 (t : Int)] 153 (0, 0))) => h.push (ft := (f, t)) (key := f) rfl hk hV hw (by omega) hVP hX hd
  have b0 : w.cell? ⟨bx, 0, none⟩ = some (.slice (some ⟨gw, 0, none⟩) n n) := cell_of_row w bx 0 _ _ (0, 0) h.hbx
  have g0 : w.cell? ⟨gw, f, none⟩ = some (.slice P ws.length c) := by rw [cell_of_row w gw (f) _ _ (0, 0) h.hgw, ← hVP]; simpa using hV
  have b0' : ∀ o, (w.alloc o).cell? ⟨bx, 0, none⟩ = some (.slice (some ⟨gw, 0, none⟩) n n) := fun o => Lib.cell?_alloc_some o b0
  have g0' : ∀ o, (w.alloc o).cell? ⟨gw, f, none⟩ = some (.slice P ws.length c) := fun o => Lib.cell?_alloc_some o g0
  have hi1 : (0 : Int) ≤ (f : Int) := by omega
  have hi2 : (f : Int) < (n : Int) := by omega
  obtain ⟨q, hq⟩ : ∃ q, q = ws.length := ⟨_, rfl⟩
  rw [← hq] at HP g0 g0'
  clear h hV hw hVP hwl hq
  go_enter Tryz.func111, Tryz.ntmps111
  go_wp2_with fail
  go_region_law (first | (refine step_append_ex rfl (.tmp 10) (.tmp 14) 151 rfl rfl _ _ (by rfl) (by rfl) _ (HP.out _ _ (by first | exact ((Below.refl _ _).alloc (Nat.le_refl _) _) | exact ((Below.refl _ _).alloc (Nat.le_refl _) _).drew | exact ((Below.refl _ _).drew).alloc (Nat.le_refl _) _) (by first | exact hp_new (by simp) | exact hp_drew (hp_new (by simp)))) ?_; intro v' w' hR; obtain ⟨P', c', rfl, ⟨u, hc1⟩, hc2, hc3, hR1, hR2, hR3⟩ := hR))
  all_goals
    go_end0
    exact ⟨rfl, _, hR1, hR2, hR3⟩
set_option maxHeartbeats 8000000 in
theorem back1_any {B gw bx n : Nat} {w : World} {es : List (Nat × Nat)} {Vs : List Value} (h : Bld true B gw bx n w es Vs) (f t : Nat) (hk : t < n) (hes : es.length ≤ 50000) :
    Calls Tryz.prog 120 #[.int .i64 (f : Int), .int .i64 (t : Int), .pointer (some ⟨bx, 0, none⟩)] w fun e w' => e = .returned (.tuple #[]) ∧ ∃ Vs', Bld true B gw bx n w' (es ++ [(f, t)]) Vs' ∧ Below B w w' ∧ KpW gw w w' := by
  obtain ⟨V, hV⟩ : ∃ V, Vs[t]? = some V := ⟨_, List.getElem?_eq_getElem (by rw [h.hl]; exact hk)⟩
  obtain ⟨ws, hw⟩ : ∃ ws, (buildW true n es)[t]? = some ws := ⟨_, List.getElem?_eq_getElem (by rw [buildW_len]; exact hk)⟩
  have hwl := buildW_row_len hw
  obtain ⟨P, c, hVP, _⟩ := h.rows _ V ws hV hw
  have HP := Lib.hid fun (X : World) (d : Nat) (hX : Below w.heap.size w X) (hd : X.heap[d]? = some (.cells #[.int .i64 (f : Int), .int .i64 (f : Int)] 153 (0, 0))) => h.push (ft := (f, t)) (key := t) rfl hk hV hw (by omega) hVP hX hd
  have b0 : w.cell? ⟨bx, 0, none⟩ = some (.slice (some ⟨gw, 0, none⟩) n n) := cell_of_row w bx 0 _ _ (0, 0) h.hbx
  have g0 : w.cell? ⟨gw, t, none⟩ = some (.slice P ws.length c) := by rw [cell_of_row w gw (t) _ _ (0, 0) h.hgw, ← hVP]; simpa using hV
  have b0' : ∀ o, (w.alloc o).cell? ⟨bx, 0, none⟩ = some (.slice (some ⟨gw, 0, none⟩) n n) := fun o => Lib.cell?_alloc_some o b0
  have g0' : ∀ o, (w.alloc o).cell? ⟨gw, t, none⟩ = some (.slice P ws.length c) := fun o => Lib.cell?_alloc_some o g0
  have hi1 : (0 : Int) ≤ (t : Int) := by omega
  have hi2 : (t : Int) < (n : Int) := by omega
  obtain ⟨q, hq⟩ : ∃ q, q = ws.length := ⟨_, rfl⟩
  rw [← hq] at HP g0 g0'
  clear h hV hw hVP hwl hq
  go_enter Tryz.func120, Tryz.ntmps120
  go_wp2_with fail
  go_region_law (first | (refine step_append_ex rfl (.tmp 10) (.tmp 14) 151 rfl rfl _ _ (by rfl) (by rfl) _ (HP.out _ _ (by first | exact ((Below.refl _ _).alloc (Nat.le_refl _) _) | exact ((Below.refl _ _).alloc (Nat.le_refl _) _).drew | exact ((Below.refl _ _).drew).alloc (Nat.le_refl _) _) (by first | exact hp_new (by simp) | exact hp_drew (hp_new (by simp)))) ?_; intro v' w' hR; obtain ⟨P', c', rfl, ⟨u, hc1⟩, hc2, hc3, hR1, hR2, hR3⟩ := hR))
  all_goals
    go_end0
    exact ⟨rfl, _, hR1, hR2, hR3⟩
end Go.Proofs.YtaapbmdojkjphaaGreat
namespace Go.Proofs.YtaapbmdojkjphaaGreat
open Go Go.RowKit Go.Deep
set_option linter.unusedVariables false
set_option maxRecDepth 20000
theorem okB_cases {n : Nat} {v : InstL} (h : okB n v = true) : v.op = 0 ∨ (v.op = 2 ∧ ∃ x y : Nat, v.x = (x : Int) ∧ v.y = (y : Int) ∧ x < n ∧ y < n) ∨ ((v.op = 1 ∨ v.op = 3 ∨ v.op = 4) ∧ ∃ x : Nat, v.x = (x : Int) ∧ x < n) := by
  have hin : ∀ {z : Int}, inB n z = true → ∃ x : Nat, z = (x : Int) ∧ x < n := fun {z} hz => by
    unfold inB at hz
    rw [Bool.and_eq_true, decide_eq_true_eq, decide_eq_true_eq] at hz
    exact ⟨z.toNat, by omega, by omega⟩
  unfold okB at h
  split at h
  · exact .inl (by assumption)
  · split at h
    · rw [Bool.and_eq_true] at h
      obtain ⟨y, hy, hyn⟩ := hin h.1
      obtain ⟨x, hx, hxn⟩ := hin h.2
      exact .inr (.inl ⟨by assumption, x, y, hx, hy, hxn, hyn⟩)
    · split at h
      · obtain ⟨x, hx, hxn⟩ := hin h
        exact .inr (.inr ⟨by assumption, x, hx, hxn⟩)
      · cases h
set_option maxHeartbeats 8000000 in
theorem onwardEach_any {B gw bx n : Nat} {w : World} {Vs : List Value} (h : Bld false B gw bx n w [] Vs) (A : Option Addr) (c : Nat) (l : List IV) (hi : InsF (fun b => b < B) w A n l) (hp : Within (l.map fun v => v.i)) (hok : ∀ v ∈ l, okB n v.i = true) (hn : n ≤ 1000) :
    Calls Tryz.prog 110 #[.slice A n c, .func (.func 111) #[] #[.pointer (some ⟨bx, 0, none⟩)]] w fun e w' => e = .returned (.tuple #[]) ∧ ∃ Vs', Bld false B gw bx n w' (edgesL (l.map fun v => v.i)) Vs' ∧ Below B w w' := by
  have HI := Lib.hid (And.intro hi (And.intro hp hok))
  have HB := Lib.hid h
  clear hi hp hok h
  go_enter Tryz.func110, Tryz.ntmps110
  go_wp2_with fail
  go_loopw [8] (fun v8 wr => ∃ (k : Nat) (Vs' : List Value), v8 = .int .i64 (k : Int) ∧ k ≤ n ∧ Hid (Bld false B gw bx n wr (edgesL ((l.take k).map fun v => v.i)) Vs' ∧ Below B w wr ∧ (edgesL ((l.take k).map fun v => v.i)).length ≤ 2 * k)) (fun v8 _ => n - (intOf v8).toNat)
  case atStart => exact ⟨0, Vs, rfl, Nat.zero_le _, Lib.hid ⟨HB.out, Below.refl _ _, by simp [edgesL]⟩⟩
  case round =>
    obtain ⟨k, Vs', rfl, hk, H1⟩ := hrel
    by_cases hlt : k < n
    · obtain ⟨v, hv⟩ : ∃ v, l[k]? = some v := ⟨_, List.getElem?_eq_getElem (by have := HI.out.1.1; omega)⟩
      obtain ⟨⟨op, st, x, y⟩, vA, vn, vc⟩ := v
      obtain ⟨bi, oi, rfl, _, hbl, _, i0, i1, i2, i3⟩ := (HI.out.1.belowB H1.out.2.1).one hv
      have hokv := HI.out.2.2 _ (List.mem_of_getElem? hv)
      have htk : edgesL ((l.take (k + 1)).map fun v => v.i) = edgesL ((l.take k).map fun v => v.i) ++ (outs ⟨op, st, x, y⟩).map fun t => (k, t) := by
        have hsn : l.take (k + 1) = l.take k ++ [⟨⟨op, st, x, y⟩, vA, vn, vc⟩] := by rw [List.take_add_one, hv]; rfl
        have hl2 : (l.take k).length = k := by rw [List.length_take, HI.out.1.1]; omega
        rw [hsn, List.map_append]
        exact edgesL_snoc _ _ (by rw [List.length_map, hl2])
      have hbB := H1.out.1.lt
      have hBr : B ≤ wr.heap.size := by have := H1.out.1.hB; omega
      have hng : wr.heap.size ≠ gw := by omega
      have hk1 : (0 : Int) ≤ (k : Int) := by omega
      have hk2 : (k : Int) < (n : Int) := by omega
      dsimp only at i0 i1 i2 i3 hokv
      have hes : (edgesL ((l.take k).map fun v => v.i)).length ≤ 40000 := by have := H1.out.2.2; omega
      rcases okB_cases hokv with h0 | ⟨h0, xt, yt, hx, hy, hxn, hyn⟩ | ⟨h0, xt, hx, hxn⟩
      · have h0 : op = 0 := h0
        subst h0
        have hbX : Below wr.heap.size wr (wr.alloc (.cells #[.int .i64 0, .slice vA vn vc, .int .i64 x, .int .i64 y] 89)) := (Below.refl _ _).alloc (Nat.le_refl _) _
        have HT := Lib.hid (And.intro htk (And.intro (hbX.mono hBr) (H1.out.1.keep hbX)))
        clear hbX htk hokv hv hbl hbB
        go_wp2
        refine ⟨⟨k + 1, Vs', rfl, hlt, Lib.hid ⟨?_, H1.out.2.1.trans HT.out.2.1, ?_⟩⟩, by simp [intOf]; omega⟩
        · rw [HT.out.1]; simpa [outs] using HT.out.2.2
        · rw [HT.out.1]; have := H1.out.2.2; simp [outs]; simp at this; omega
      · have h0 : op = 2 := h0
        have hx : x = (xt : Int) := hx
        have hy : y = (yt : Int) := hy
        subst h0; subst hx; subst hy
        have htk2 : (outs ⟨2, st, (xt : Int), (yt : Int)⟩).map (fun t => (k, t)) = [(k, xt), (k, yt)] := by simp [outs]
        rw [htk2] at htk
        have hbX : Below wr.heap.size wr (wr.alloc (.cells #[.int .i64 2, .slice vA vn vc, .int .i64 (xt : Int), .int .i64 (yt : Int)] 89)) := (Below.refl _ _).alloc (Nat.le_refl _) _
        have HT := Lib.hid (And.intro htk (And.intro (hbX.mono hBr) (And.intro (H1.out.1.keep hbX) (And.intro (heap_alloc_new wr (.cells #[.int .i64 2, .slice vA vn vc, .int .i64 (xt : Int), .int .i64 (yt : Int)] 89)) hng))))
        have HO1 := Lib.hid (onward1_any (H1.out.1.keep hbX) k xt hlt (by omega))
        clear hbX htk htk2 hokv hv hbl hbB hng
        go_wp2_with (first
          | (go_at_call 111; (with_reducible refine HO2.out.mono ?_); rintro en w6 ⟨rfl, Vs6, hB6, hb6, hk6⟩; have H6 := Lib.hid (And.intro hB6 hb6); clear hB6 hb6 hk6)
          | (go_at_call 111; (with_reducible refine HO1.out.mono ?_); rintro en w5 ⟨rfl, Vs5, hB5, hb5, hk5⟩; have hbx5 := hk5 wr.heap.size _ HT.out.2.2.2.1 HT.out.2.2.2.2 (fun _ _ e => by injection e with _ e _; exact absurd e (by decide)); have q0 := cell_of_row w5 wr.heap.size 0 _ _ (0, 0) hbx5; have q3 := cell_of_row w5 wr.heap.size 3 _ _ (0, 0) hbx5; have HO2 := Lib.hid (onward1_any hB5 k yt hlt (by rw [List.length_append, List.length_singleton]; omega)); have H5 := Lib.hid (HT.out.2.1.trans hb5); clear hB5 hb5 hk5 hbx5))
        refine ⟨⟨k + 1, Vs6, rfl, hlt, Lib.hid ⟨?_, H1.out.2.1.trans (H5.out.trans H6.out.2), ?_⟩⟩, by simp [intOf]; omega⟩
        · rw [HT.out.1]; have := H6.out.1; rwa [List.append_assoc] at this
        · rw [HT.out.1, List.length_append]; have := H1.out.2.2; simp; simp at this; omega
      · have hx : x = (xt : Int) := hx
        subst hx
        have h0 : op = 1 ∨ op = 3 ∨ op = 4 := h0
        have htk2 : (outs ⟨op, st, (xt : Int), y⟩).map (fun t => (k, t)) = [(k, xt)] := by rcases h0 with rfl | rfl | rfl <;> simp [outs]
        rw [htk2] at htk
        have hbX : Below wr.heap.size wr (wr.alloc (.cells #[.int .i64 op, .slice vA vn vc, .int .i64 (xt : Int), .int .i64 y] 89)) := (Below.refl _ _).alloc (Nat.le_refl _) _
        have HT := Lib.hid (And.intro htk (And.intro (hbX.mono hBr) (And.intro (H1.out.1.keep hbX) (And.intro (heap_alloc_new wr (.cells #[.int .i64 op, .slice vA vn vc, .int .i64 (xt : Int), .int .i64 y] 89)) hng))))
        have HO1 := Lib.hid (onward1_any (H1.out.1.keep hbX) k xt hlt (by omega))
        clear hbX htk htk2 hokv hv hbl hbB hng
        rcases h0 with rfl | rfl | rfl
        all_goals
          go_wp2_with (go_at_call 111; (with_reducible refine HO1.out.mono ?_); rintro en w5 ⟨rfl, Vs5, hB5, hb5, hk5⟩; have q0 := cell_of_row w5 wr.heap.size 0 _ _ (0, 0) (hk5 wr.heap.size _ HT.out.2.2.2.1 HT.out.2.2.2.2 (fun _ _ e => by injection e with _ e _; exact absurd e (by decide))); have H5 := Lib.hid (And.intro hB5 (HT.out.2.1.trans hb5)); clear hB5 hb5 hk5)
          refine ⟨⟨k + 1, Vs5, rfl, hlt, Lib.hid ⟨?_, H1.out.2.1.trans H5.out.2, ?_⟩⟩, by simp [intOf]; omega⟩
          · rw [HT.out.1]; exact H5.out.1
          · rw [HT.out.1, List.length_append]; have := H1.out.2.2; simp; simp at this; omega
    · obtain rfl : k = n := by omega
      have HL := Lib.hid HI.out.1.1
      go_wp2
      go_end0
      refine ⟨rfl, Vs', ?_, H1.out.2.1⟩
      have := H1.out.1
      rwa [List.take_of_length_le (by rw [HL.out]; exact Nat.le_refl _)] at this
set_option maxHeartbeats 8000000 in
theorem backEach_any {B gw bx n : Nat} {w : World} {Vs : List Value} (h : Bld true B gw bx n w [] Vs) (A : Option Addr) (c : Nat) (l : List IV) (hi : InsF (fun b => b < B) w A n l) (hp : Within (l.map fun v => v.i)) (hok : ∀ v ∈ l, okB n v.i = true) (hn : n ≤ 1000) :
    Calls Tryz.prog 110 #[.slice A n c, .func (.func 120) #[] #[.pointer (some ⟨bx, 0, none⟩)]] w fun e w' => e = .returned (.tuple #[]) ∧ ∃ Vs', Bld true B gw bx n w' (edgesL (l.map fun v => v.i)) Vs' ∧ Below B w w' := by
  have HI := Lib.hid (And.intro hi (And.intro hp hok))
  have HB := Lib.hid h
  clear hi hp hok h
  go_enter Tryz.func110, Tryz.ntmps110
  go_wp2_with fail
  go_loopw [8] (fun v8 wr => ∃ (k : Nat) (Vs' : List Value), v8 = .int .i64 (k : Int) ∧ k ≤ n ∧ Hid (Bld true B gw bx n wr (edgesL ((l.take k).map fun v => v.i)) Vs' ∧ Below B w wr ∧ (edgesL ((l.take k).map fun v => v.i)).length ≤ 2 * k)) (fun v8 _ => n - (intOf v8).toNat)
  case atStart => exact ⟨0, Vs, rfl, Nat.zero_le _, Lib.hid ⟨HB.out, Below.refl _ _, by simp [edgesL]⟩⟩
  case round =>
    obtain ⟨k, Vs', rfl, hk, H1⟩ := hrel
    by_cases hlt : k < n
    · obtain ⟨v, hv⟩ : ∃ v, l[k]? = some v := ⟨_, List.getElem?_eq_getElem (by have := HI.out.1.1; omega)⟩
      obtain ⟨⟨op, st, x, y⟩, vA, vn, vc⟩ := v
      obtain ⟨bi, oi, rfl, _, hbl, _, i0, i1, i2, i3⟩ := (HI.out.1.belowB H1.out.2.1).one hv
      have hokv := HI.out.2.2 _ (List.mem_of_getElem? hv)
      have htk : edgesL ((l.take (k + 1)).map fun v => v.i) = edgesL ((l.take k).map fun v => v.i) ++ (outs ⟨op, st, x, y⟩).map fun t => (k, t) := by
        have hsn : l.take (k + 1) = l.take k ++ [⟨⟨op, st, x, y⟩, vA, vn, vc⟩] := by rw [List.take_add_one, hv]; rfl
        have hl2 : (l.take k).length = k := by rw [List.length_take, HI.out.1.1]; omega
        rw [hsn, List.map_append]
        exact edgesL_snoc _ _ (by rw [List.length_map, hl2])
      have hbB := H1.out.1.lt
      have hBr : B ≤ wr.heap.size := by have := H1.out.1.hB; omega
      have hng : wr.heap.size ≠ gw := by omega
      have hk1 : (0 : Int) ≤ (k : Int) := by omega
      have hk2 : (k : Int) < (n : Int) := by omega
      dsimp only at i0 i1 i2 i3 hokv
      have hes : (edgesL ((l.take k).map fun v => v.i)).length ≤ 40000 := by have := H1.out.2.2; omega
      rcases okB_cases hokv with h0 | ⟨h0, xt, yt, hx, hy, hxn, hyn⟩ | ⟨h0, xt, hx, hxn⟩
      · have h0 : op = 0 := h0
        subst h0
        have hbX : Below wr.heap.size wr (wr.alloc (.cells #[.int .i64 0, .slice vA vn vc, .int .i64 x, .int .i64 y] 89)) := (Below.refl _ _).alloc (Nat.le_refl _) _
        have HT := Lib.hid (And.intro htk (And.intro (hbX.mono hBr) (H1.out.1.keep hbX)))
        clear hbX htk hokv hv hbl hbB
        go_wp2
        refine ⟨⟨k + 1, Vs', rfl, hlt, Lib.hid ⟨?_, H1.out.2.1.trans HT.out.2.1, ?_⟩⟩, by simp [intOf]; omega⟩
        · rw [HT.out.1]; simpa [outs] using HT.out.2.2
        · rw [HT.out.1]; have := H1.out.2.2; simp [outs]; simp at this; omega
      · have h0 : op = 2 := h0
        have hx : x = (xt : Int) := hx
        have hy : y = (yt : Int) := hy
        subst h0; subst hx; subst hy
        have htk2 : (outs ⟨2, st, (xt : Int), (yt : Int)⟩).map (fun t => (k, t)) = [(k, xt), (k, yt)] := by simp [outs]
        rw [htk2] at htk
        have hbX : Below wr.heap.size wr (wr.alloc (.cells #[.int .i64 2, .slice vA vn vc, .int .i64 (xt : Int), .int .i64 (yt : Int)] 89)) := (Below.refl _ _).alloc (Nat.le_refl _) _
        have HT := Lib.hid (And.intro htk (And.intro (hbX.mono hBr) (And.intro (H1.out.1.keep hbX) (And.intro (heap_alloc_new wr (.cells #[.int .i64 2, .slice vA vn vc, .int .i64 (xt : Int), .int .i64 (yt : Int)] 89)) hng))))
        have HO1 := Lib.hid (back1_any (H1.out.1.keep hbX) k xt hxn (by omega))
        clear hbX htk htk2 hokv hv hbl hbB hng
        go_wp2_with (first
          | (go_at_call 120; (with_reducible refine HO2.out.mono ?_); rintro en w6 ⟨rfl, Vs6, hB6, hb6, hk6⟩; have H6 := Lib.hid (And.intro hB6 hb6); clear hB6 hb6 hk6)
          | (go_at_call 120; (with_reducible refine HO1.out.mono ?_); rintro en w5 ⟨rfl, Vs5, hB5, hb5, hk5⟩; have hbx5 := hk5 wr.heap.size _ HT.out.2.2.2.1 HT.out.2.2.2.2 (fun _ _ e => by injection e with _ e _; exact absurd e (by decide)); have q0 := cell_of_row w5 wr.heap.size 0 _ _ (0, 0) hbx5; have q3 := cell_of_row w5 wr.heap.size 3 _ _ (0, 0) hbx5; have HO2 := Lib.hid (back1_any hB5 k yt hyn (by rw [List.length_append, List.length_singleton]; omega)); have H5 := Lib.hid (HT.out.2.1.trans hb5); clear hB5 hb5 hk5 hbx5))
        refine ⟨⟨k + 1, Vs6, rfl, hlt, Lib.hid ⟨?_, H1.out.2.1.trans (H5.out.trans H6.out.2), ?_⟩⟩, by simp [intOf]; omega⟩
        · rw [HT.out.1]; have := H6.out.1; rwa [List.append_assoc] at this
        · rw [HT.out.1, List.length_append]; have := H1.out.2.2; simp; simp at this; omega
      · have hx : x = (xt : Int) := hx
        subst hx
        have h0 : op = 1 ∨ op = 3 ∨ op = 4 := h0
        have htk2 : (outs ⟨op, st, (xt : Int), y⟩).map (fun t => (k, t)) = [(k, xt)] := by rcases h0 with rfl | rfl | rfl <;> simp [outs]
        rw [htk2] at htk
        have hbX : Below wr.heap.size wr (wr.alloc (.cells #[.int .i64 op, .slice vA vn vc, .int .i64 (xt : Int), .int .i64 y] 89)) := (Below.refl _ _).alloc (Nat.le_refl _) _
        have HT := Lib.hid (And.intro htk (And.intro (hbX.mono hBr) (And.intro (H1.out.1.keep hbX) (And.intro (heap_alloc_new wr (.cells #[.int .i64 op, .slice vA vn vc, .int .i64 (xt : Int), .int .i64 y] 89)) hng))))
        have HO1 := Lib.hid (back1_any (H1.out.1.keep hbX) k xt hxn (by omega))
        clear hbX htk htk2 hokv hv hbl hbB hng
        rcases h0 with rfl | rfl | rfl
        all_goals
          go_wp2_with (go_at_call 120; (with_reducible refine HO1.out.mono ?_); rintro en w5 ⟨rfl, Vs5, hB5, hb5, hk5⟩; have q0 := cell_of_row w5 wr.heap.size 0 _ _ (0, 0) (hk5 wr.heap.size _ HT.out.2.2.2.1 HT.out.2.2.2.2 (fun _ _ e => by injection e with _ e _; exact absurd e (by decide))); have H5 := Lib.hid (And.intro hB5 (HT.out.2.1.trans hb5)); clear hB5 hb5 hk5)
          refine ⟨⟨k + 1, Vs5, rfl, hlt, Lib.hid ⟨?_, H1.out.2.1.trans H5.out.2, ?_⟩⟩, by simp [intOf]; omega⟩
          · rw [HT.out.1]; exact H5.out.1
          · rw [HT.out.1, List.length_append]; have := H1.out.2.2; simp; simp at this; omega
    · obtain rfl : k = n := by omega
      have HL := Lib.hid HI.out.1.1
      go_wp2
      go_end0
      refine ⟨rfl, Vs', ?_, H1.out.2.1⟩
      have := H1.out.1
      rwa [List.take_of_length_le (by rw [HL.out]; exact Nat.le_refl _)] at this
end Go.Proofs.YtaapbmdojkjphaaGreat
namespace Go.Proofs.YtaapbmdojkjphaaGreat
open Go Go.RowKit Go.Deep
set_option linter.unusedVariables false
set_option maxRecDepth 20000
theorem and_mask (y : Nat) (hy : y < 4294967296) : bits .and .u64 (y : Int) 4294967295 = (y : Int) := by
  rw [show (4294967295 : Int) = ((4294967295 : Nat) : Int) from rfl, bits_and_u64_nat y 4294967295 (by omega) (by omega), Nat.and_two_pow_sub_one_eq_mod y 32, Nat.mod_eq_of_lt (by omega)]
theorem and_none : bits .and .u64 0 4294967295 = 0 := by decide
theorem and_one : bits .and .u64 1 4294967295 = 1 := by decide
set_option maxHeartbeats 1000000 in
theorem mul64_one (y : Nat) (hy : y < 4294967296) (w : World) :
    Calls Tryz.prog 138 #[.int .u64 1, .int .u64 y] w fun e w' => e = .returned (.tuple #[.int .u64 0, .int .u64 (y : Int)]) ∧ w = w' := by
  have k0 := and_none
  have k1 := and_one
  have ky := and_mask y hy
  have hdiv : (y : Int) / 4294967296 = 0 := by omega
  have hwr : IntKind.u64.wrap (y : Int) = (y : Int) := by rw [IntKind.wrap_u64]; omega
  go_enter Tryz.func138, Tryz.ntmps138
  go_wp2
  go_ret2
  exact ⟨rfl, rfl⟩
theorem mul_one (y : Nat) (hy : y < 4294967296) (w : World) :
    Calls Tryz.prog 119 #[.int .u64 1, .int .u64 y] w fun e w' => e = .returned (.tuple #[.int .u64 0, .int .u64 (y : Int)]) ∧ w = w' := by
  have HM := Lib.hid (mul64_one y hy w)
  go_enter Tryz.func119, Tryz.ntmps119
  go_wp2_with fail
  refine HM.out.mono ?_; rintro e w' ⟨rfl, rfl⟩
  go_wp2_with fail
  go_ret2
  exact ⟨rfl, rfl⟩
def halfL (N q : Nat) (x : Int) : List Value := List.replicate q (Value.int .i64 x) ++ List.replicate (N - q) (Value.int .i64 0)
theorem halfL_length (N q : Nat) (x : Int) (h : q ≤ N) : (halfL N q x).length = N := by simp [halfL]; omega
theorem halfL_copy (N q m : Nat) (x : Int) (h : q + m ≤ N) : splice (halfL N q x) q (List.replicate m (Value.int .i64 x)) = halfL N (q + m) x := by
  unfold splice halfL
  rw [List.take_append, List.drop_append]
  simp only [List.length_replicate, List.take_replicate, List.drop_replicate, Nat.sub_self, Nat.min_self]
  rw [show q - (q + m) = 0 by omega, show N - q - (q + m - q) = N - (q + m) by omega, ← List.replicate_append_replicate]
  simp only [List.append_assoc, Nat.zero_min, List.replicate_zero, List.nil_append]
theorem halfL_get (N q j : Nat) (x : Int) (h : j < q) : (halfL N q x)[j]? = some (.int .i64 x) := by
  unfold halfL
  rw [List.getElem?_append_left (by simpa using h), List.getElem?_replicate, if_pos h]
theorem made_half (N : Nat) (x : Int) : madeCells #[Value.int .i64 0] N = (halfL N 0 x).toArray := by
  apply Array.ext
  · rw [size_madeCells]; simp [halfL]
  · intro i h1 h2
    simp [madeCells, halfL, Nat.mod_one]
theorem copy_half (w w0 : World) (g N q m B : Nat) (x : Int) (hg : w.heap[g]? = some (.cells (halfL N q x).toArray 3 (0, 0))) (hb : Below B w0 w) (hB : B ≤ g) (ad : Addr) (sl sc dl dc : Nat) (hm : m = Nat.min sl dl)
    (hsrc : ∀ j, j < m → w.cell? (ad.add j) = some (.int .i64 x)) (hq : q + m ≤ N) :
    ∃ w2, (Builtin.copy_ #[46, 46] 3 #[.slice (some ⟨g, q, none⟩) dl dc, .slice (some ad) sl sc]).run Tryz.prog w = .ok (.int .i64 (m : Int)) w2 ∧ w2.heap[g]? = some (.cells (halfL N (q + m) x).toArray 3 (0, 0)) ∧ Below B w0 w2 := by
  have hr := run_copy_row (P := Tryz.prog) w 46 46 3 3 g q dl dc ad sl sc (halfL N q x).toArray 3 (List.replicate m (Value.int .i64 x)) Tryz.underlying46 (by kernel_rfl) hg (by simpa using hm)
    (by
      intro j v hj
      rw [List.getElem?_replicate] at hj
      split at hj
      · injection hj with hj
        subst hj
        exact hsrc j (by assumption)
      · cases hj) (by simp [halfL_length N q x (by omega)]; omega) (by intro v hv; rw [List.eq_of_mem_replicate hv]; rfl)
  rw [List.length_replicate] at hr
  refine ⟨_, hr, ?_, below_setRow hb hB _⟩
  rw [setRow_heap w g _ _ 3 _ hg]
  have := halfL_copy N q m x hq
  unfold splice at this
  simp only [List.length_replicate] at this
  rw [← this]
  simp
set_option maxHeartbeats 2000000 in
theorem repeat_any (x : Int) (gA : Nat) (N : Nat) (W : World) (hA : W.cell? ⟨gA, 0, none⟩ = some (.int .i64 x)) (hN1 : 1 ≤ N) (hN : N ≤ 1000000) :
    Calls Tryz.prog 91 #[.slice (some ⟨gA, 0, none⟩) 1 1, .int .i64 (N : Int)] W fun e w' => e = .returned (.slice (some ⟨W.heap.size, 0, none⟩) N N) ∧ w'.heap[W.heap.size]? = some (.cells (halfL N N x).toArray 3 (0, 0)) ∧ Below W.heap.size W w' := by
  have hgA : gA < W.heap.size := World.block_lt_of_cell? W (⟨gA, 0, none⟩ : Addr) hA
  have hmul := fun w => mul_one N (by omega) w
  have HMUL := Lib.hid hmul; clear hmul
  have hmk := run_make_row' (P := Tryz.prog) 46 3 (.int .i64 0) 8 Tryz.underlying46 info_intG rfl .i64 .i64 N (by omega) (by omega)
  rw [made_half N x] at hmk
  have hw1 : IntKind.u64.wrap (N : Int) = (N : Int) := by rw [IntKind.wrap_u64]; omega
  have hw2 : IntKind.i64.wrap (N : Int) = (N : Int) := by rw [IntKind.wrap_i64]; omega
  have hd1 : decide ((N : Int) < 0) = false := by simp
  have hd2 : decide ((9223372036854775807 : Int) < (N : Int)) = false := by simp; omega
  obtain ⟨L0, hL0⟩ : ∃ L0, L0 = halfL N 0 x := ⟨_, rfl⟩
  rw [← hL0] at hmk
  have hg0 := at_new W (.cells L0.toArray 3) rfl
  have hA1 : (W.alloc (.cells L0.toArray 3)).cell? ⟨gA, 0, none⟩ = some (.int .i64 x) := (((Below.refl W.heap.size W).alloc (Nat.le_refl _) _).cell (p := ⟨gA, 0, none⟩) hgA).trans hA
  have hb0 : Below W.heap.size W (W.alloc (.cells L0.toArray 3)) := (Below.refl W.heap.size W).alloc (Nat.le_refl _) _
  have hsrc0 : ∀ j, j < 1 → (W.alloc (.cells L0.toArray 3)).cell? ((⟨gA, 0, none⟩ : Addr).add j) = some (.int .i64 x) := by
    intro j hj
    obtain rfl : j = 0 := by omega
    exact hA1
  obtain ⟨w2, hcp, HG2, hb2⟩ := copy_half (W.alloc (.cells L0.toArray 3)) W W.heap.size N 0 1 W.heap.size x (by rw [← hL0]; exact hg0) hb0 (Nat.le_refl _) ⟨gA, 0, none⟩ 1 1 N N (by show 1 = min 1 N; omega) hsrc0 (by omega)
  rw [Nat.zero_add] at HG2
  have HG3 := Lib.hid HG2; clear HG2
  clear hL0 hg0 hA1 hb0 hA hgA hsrc0
  go_enter Tryz.func91, Tryz.ntmps91
  go_wp2_with fail
  refine (HMUL.out _).mono ?_; rintro e w' ⟨rfl, rfl⟩
  go_wp2_with fail
  go_loopw [8] (fun vi wr => ∃ q : Nat, 1 ≤ q ∧ q ≤ N ∧ vi = .int .i64 (q : Int) ∧ Hid (wr.heap[W.heap.size]? = some (.cells (halfL N q x).toArray 3 (0, 0))) ∧ Below W.heap.size W wr) (fun vi _ => N - (intOf vi).toNat)
  case atStart => exact ⟨1, by omega, by omega, rfl, HG3, hb2⟩
  case round =>
    obtain ⟨q, hq1, hqN, rfl, HG, hb⟩ := hrel
    by_cases hlt : q < N
    · obtain ⟨m, hm⟩ : ∃ m, m = min q (N - q) := ⟨_, rfl⟩
      have hm1 : 1 ≤ m ∧ m ≤ q ∧ q + m ≤ N := by rw [hm]; omega
      obtain ⟨hm1, hmq, hmN⟩ := hm1
      obtain ⟨w4, hcp4, hg4, hb4⟩ := copy_half wr.drew W W.heap.size N q m W.heap.size x HG.out hb.drew (Nat.le_refl _) ⟨W.heap.size, 0, none⟩ q N (N - q) (N - q) hm (fun j hj => by
        rw [show (⟨W.heap.size, 0, none⟩ : Addr).add j = ⟨W.heap.size, j, none⟩ by unfold Addr.add; split <;> simp_all]
        rw [cell_of_row wr.drew W.heap.size j _ 3 (0, 0) HG.out]
        simpa using halfL_get N q j x (by omega)) hmN
      have HG4 := Lib.hid hg4; clear hg4
      have HM := Lib.hid hm; clear hm
      go_wp2_with fail
      go_region
      go_wp2
      refine ⟨⟨q + m, by omega, hmN, by go_num, HG4, hb4⟩, by simp [intOf]; omega⟩
    · obtain rfl : q = N := by omega
      go_wp2
      go_ret
      exact ⟨rfl, HG.out, hb⟩
end Go.Proofs.YtaapbmdojkjphaaGreat
