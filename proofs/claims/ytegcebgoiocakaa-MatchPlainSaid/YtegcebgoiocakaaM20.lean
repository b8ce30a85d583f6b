/- The document's Parse. -/
import Derived.Test.YtegcebgoiocakaaM19
import Derived.Deep.MidRow
namespace Go.Proofs.Ytegcebgoiocakaa
open Go Go.RowKit
set_option linter.unusedVariables false
set_option maxRecDepth 20000

/-- A room for a node was made first; nothing up to it has turned. -/
def RoomN (w a : World) : Prop := Below w.heap.size w a ∧ w.heap.size < a.heap.size ∧ a.heap[w.heap.size]? = some (.cells #[.int .i64 0, .slice none 0 0, .int .i64 0, .int .i64 0, .slice none 0 0] 52 (0, 0))
section
variable {w a b : World}
theorem RoomN.base (h : RoomN w a) : Below w.heap.size w a := h.1
theorem RoomN.lt (h : RoomN w a) : w.heap.size < a.heap.size := h.2.1
theorem RoomN.is (h : RoomN w a) : a.heap[w.heap.size]? = some (.cells #[.int .i64 0, .slice none 0 0, .int .i64 0, .int .i64 0, .slice none 0 0] 52 (0, 0)) := h.2.2
theorem RoomN.start (w : World) : RoomN w (w.alloc (.cells #[.int .i64 0, .slice none 0 0, .int .i64 0, .int .i64 0, .slice none 0 0] 52)) := ⟨(Below.refl _ _).alloc (Nat.le_refl _) _, by simp, heap_alloc_new w _⟩
theorem RoomN.next (h : RoomN w a) {B : Nat} (hb : Below B a b) (hB : w.heap.size < B) : RoomN w b := ⟨h.1.trans (hb.mono (Nat.le_of_lt hB)), Nat.lt_of_lt_of_le h.2.1 hb.size, (hb.block _ hB).trans h.2.2⟩
theorem RoomN.over (h : RoomN w a) {r : Nat} (hr : w.heap.size < r) (hb : Below r a b) : RoomN w b := h.next hb hr
theorem RoomN.alloc (h : RoomN w a) (o : Obj) : RoomN w (a.alloc o) := h.next ((Below.refl _ _).alloc (Nat.le_refl _) o) h.2.1
theorem RoomN.put (h : RoomN w a) (v0 v1 v2 v3 v4 : Value) : Below w.heap.size w (put5 a w.heap.size v0 v1 v2 v3 v4) := h.1.trans (put5_below a (Nat.le_refl _) _ _ _ _ _)
theorem RoomN.facts (h : RoomN w a) : a.cell? ⟨w.heap.size, 0, none⟩ = some (.int .i64 0) ∧ a.cell? ⟨w.heap.size, 1, none⟩ = some (.slice none 0 0) ∧ a.cell? ⟨w.heap.size, 2, none⟩ = some (.int .i64 0) ∧ a.cell? ⟨w.heap.size, 3, none⟩ = some (.int .i64 0) ∧ a.cell? ⟨w.heap.size, 4, none⟩ = some (.slice none 0 0) ∧ ∀ j, a.frozen? ⟨w.heap.size, j, none⟩ = false := box_facts h.2.2
theorem RoomN.cells (h : RoomN w a) (v0 v1 v2 v3 v4 : Value) : (put5 a w.heap.size v0 v1 v2 v3 v4).cell? ⟨w.heap.size, 0, none⟩ = some v0 ∧ (put5 a w.heap.size v0 v1 v2 v3 v4).cell? ⟨w.heap.size, 1, none⟩ = some v1 ∧ (put5 a w.heap.size v0 v1 v2 v3 v4).cell? ⟨w.heap.size, 2, none⟩ = some v2 ∧ (put5 a w.heap.size v0 v1 v2 v3 v4).cell? ⟨w.heap.size, 3, none⟩ = some v3 ∧ (put5 a w.heap.size v0 v1 v2 v3 v4).cell? ⟨w.heap.size, 4, none⟩ = some v4 ∧ ∀ j, (put5 a w.heap.size v0 v1 v2 v3 v4).frozen? ⟨w.heap.size, j, none⟩ = false := box_facts (put5_heap h.2.2 _ _ _ _ _)
theorem RoomN.beside (h : RoomN w a) {r : Nat} (hr : w.heap.size < r) (v0 v1 v2 v3 v4 : Value) : RoomN w (put5 a r v0 v1 v2 v3 v4) := ⟨h.1.trans (put5_below a (Nat.le_of_lt hr) _ _ _ _ _), by rw [put5_size]; exact h.2.1, (put5_other a (by omega) _ _ _ _ _).trans h.2.2⟩
end
theorem info_sz {ty : TypeId} {z : Option Value} {s n : Nat} (h : (Try.prog.info? ty).map (fun i => (i.zero, i.size, i.bytes)) = some (z, s, n)) : (Try.prog.info? ty).map (·.size) = some s := by
  cases hi : Try.prog.info? ty with
  | none => rw [hi] at h; cases h
  | some i =>
    rw [hi] at h
    simp only [Option.map_some, Option.some.injEq, Prod.mk.injEq] at h ⊢
    exact h.2.1
/-- A node is stored into a block that held one. -/
theorem wpList_store_node {ops : Array Oper} {rest : List Oper} {op : Oper} {a : Act} {w : World} {Q : Exit → Act → World → Prop} (hgd : op.guard = none) (x y : Operand) (ho : op.op = .store 52 x y) (G : Nat) (n : NV) {v0 v1 v2 v3 v4 : Value} (hx : a.eval x = .pointer (some ⟨G, 0, none⟩)) (hy : a.eval y = n.val)
    (hG : w.heap[G]? = some (.cells #[v0, v1, v2, v3, v4] 52 (0, 0))) (h : ∀ w4, w4.heap[G]? = some (.cells #[.int .i64 n.op, .slice n.A n.ns n.cs, .int .i64 n.mn, .int .i64 n.mx, .slice n.D n.nk n.ck] 52 (0, 0)) → (∀ b, b ≠ G → w4.heap[b]? = w.heap[b]?) → w4.heap.size = w.heap.size → Below G w w4 → wpList Try.prog ops Q rest (a.put op.dst undef) w4) : wpList Try.prog ops Q (op :: rest) a w := by
  obtain ⟨c0, c1, c2, c3, c4, cf⟩ := box_facts hG
  refine wpList_store_mid hgd 52 x y ho G 0 #[.int .i64 n.op, .slice n.A n.ns n.cs, .int .i64 n.mn, .int .i64 n.mx, .slice n.D n.nk n.ck] hx hy (fun j hj => ?_) (info_sz info_node) (by simp [Value.oneCell']) ?_
  · have hj : j < 5 := hj
    refine ⟨?_, cf _⟩
    rcases (show j = 0 ∨ j = 1 ∨ j = 2 ∨ j = 3 ∨ j = 4 by omega) with rfl | rfl | rfl | rfl | rfl
    · rw [show 0 + 0 = 0 from rfl, c0]; rfl
    · rw [show 0 + 1 = 1 from rfl, c1]; rfl
    · rw [show 0 + 2 = 2 from rfl, c2]; rfl
    · rw [show 0 + 3 = 3 from rfl, c3]; rfl
    · rw [show 0 + 4 = 4 from rfl, c4]; rfl
  · exact h (put5 w G _ _ _ _ _) (put5_heap hG _ _ _ _ _) (fun b hb => put5_other w hb _ _ _ _ _) (put5_size _ _ _ _ _ _ _) (put5_below w (Nat.le_refl _) _ _ _ _ _)
/-- What the document's Parse answers. -/
def RParseV (s : ByteArray) (w : World) (e : Ending) (w' : World) : Prop :=
  Below w.heap.size w w' ∧ ((200 < s.size ∧ e = .returned (.tuple #[.agg #[.int .i64 0, .slice none 0 0, .int .i64 0, .int .i64 0, .slice none 0 0], .int .i64 16])) ∨ (s.size ≤ 200 ∧ parseT s = none ∧ e = .returned (.tuple #[.agg #[.int .i64 0, .slice none 0 0, .int .i64 0, .int .i64 0, .slice none 0 0], .int .i64 15])) ∨
    ∃ (x : NV) (n : Wood), s.size ≤ 200 ∧ parseT s = some n ∧ e = .returned (.tuple #[x.val, .int .i64 0]) ∧ NodesIn (fun _ => True) w' [x] n)
set_option maxHeartbeats 2000000 in
theorem rparse_big (s : ByteArray) (w : World) (hs : 200 < s.size) :
    Calls Try.prog 22 #[.string s] w (RParseV s w) := by
  have HR := Lib.hid (RoomN.start w)
  have h2 : (200 : Int) < (s.size : Int) := by omega
  go_enter Try.func22, Try.ntmps22
  go_wp2
  (try simp only [Exit.inBlock, Exit.then])
  refine bodyPost_ret (v := .tuple #[.agg #[.int .i64 0, .slice none 0 0, .int .i64 0, .int .i64 0, .slice none 0 0], .int .i64 16]) ?_ rfl ?_
  · rw [results_cell_tmp rfl]; go_simp
  · exact ⟨HR.out.base, .inl ⟨hs, rfl⟩⟩
set_option maxHeartbeats 4000000 in
theorem rparse_octets (s : ByteArray) (w : World) (hs : s.size ≤ 200) (hp : pointsL (nums s) = none) :
    Calls Try.prog 22 #[.string s] w (RParseV s w) := by
  have HR1 := Lib.hid (RoomN.start w)
  have h2 : ¬ (200 : Int) < (s.size : Int) := by omega
  have HD := Lib.hid fun w => show Calls Try.prog 33 #[.string s] w fun e w' => e = .returned (.tuple #[.slice none 0 0, .bool false]) ∧ Below w.heap.size w w' from (rpoints_any s w hs).mono fun e w' hv => by
    obtain ⟨hb, ⟨he, _⟩ | ⟨P, q, pc, xs, he, hx, ho⟩⟩ := hv
    · exact ⟨he, hb⟩
    · rw [hp] at hx; cases hx
  have HP := Lib.hid hp
  clear hp
  go_enter Try.func22, Try.ntmps22
  go_wp2_with (go_at_call 33; (with_reducible refine (HD.out _).mono ?_); rintro e w2 ⟨rfl, hb⟩; have HR2 := Lib.hid (HR1.out.next hb HR1.out.lt); clear hb)
  go_loopw [] (fun wr => wr = w2) (fun _ => 0)
  case atStart => rfl
  case round =>
    have hrel' := hrel
    subst hrel'
    have HR3 := Lib.hid (HR2.out.alloc (.cells #[.int .i64 0, .slice none 0 0, .int .i64 0, .int .i64 0, .slice none 0 0] 52))
    obtain ⟨q0, q1, q2, q3, q4, qf⟩ := HR3.out.facts
    go_wp2
    obtain ⟨z0, z1, z2, z3, z4, _⟩ := HR3.out.cells (.int .i64 0) (.slice none 0 0) (.int .i64 0) (.int .i64 0) (.slice none 0 0)
    simp only [put5] at z0 z1 z2 z3 z4
    (try simp only [Exit.inBlock, Exit.then])
    refine bodyPost_ret (v := .tuple #[.agg #[.int .i64 0, .slice none 0 0, .int .i64 0, .int .i64 0, .slice none 0 0], .int .i64 15]) ?_ rfl ?_
    · rw [results_cell_tmp rfl]; go_simp
    · exact ⟨HR3.out.put _ _ _ _ _, .inr (.inl ⟨hs, by unfold parseT; rw [HP.out]; rfl, rfl⟩)⟩
/-- A block besides the one that a node is put into. -/
theorem put_beside {w : World} {g r : Nat} {v0 v1 v2 v3 v4 : Value} (h : w.heap[g]? = some (.cells #[v0, v1, v2, v3, v4] 52 (0, 0))) (hne : g ≠ r) (a b c d e : Value) : (put5 w r a b c d e).heap[g]? = some (.cells #[v0, v1, v2, v3, v4] 52 (0, 0)) := (put5_other w hne _ _ _ _ _).trans h
/-- A token behind the others. -/
theorem tok_push {B q pc : Nat} {wr w1 : World} {P A : Option Addr} {m c : Nat} {xs : List TV} {t : TokL} (h : ToksG B wr P q pc xs) (hb : Below wr.heap.size wr w1) (ho : w1.ownsRow wr.heap.size 103 2 (.slice A m c) m (cellsG t.set)) (hq : q ≤ 100000) (hB : B ≤ wr.heap.size) :
    ∃ P' pc' w', (Builtin.append_ #[69, 69] 69 #[.slice P q pc, .slice (some ⟨w1.heap.size + 1, 0, none⟩) 1 1]).run Try.prog ((w1.alloc (.cells #[.int .i64 t.kind, .int .i64 t.r, .slice A m c, .int .i64 t.mn, .int .i64 t.mx] 71)).alloc (.cells #[.int .i64 t.kind, .int .i64 t.r, .slice A m c, .int .i64 t.mn, .int .i64 t.mx] 71)) = .ok (.slice P' (q + 1) pc') w' ∧
      ToksG B w' P' (q + 1) pc' (xs ++ [⟨t, A, m, c⟩]) ∧ Below B wr w' := by
  obtain ⟨X, hX⟩ : ∃ X, X = (w1.alloc (.cells #[.int .i64 t.kind, .int .i64 t.r, .slice A m c, .int .i64 t.mn, .int .i64 t.mx] 71)).alloc (.cells #[.int .i64 t.kind, .int .i64 t.r, .slice A m c, .int .i64 t.mn, .int .i64 t.mx] 71) := ⟨_, rfl⟩
  have hb1 : Below w1.heap.size w1 X := by rw [hX]; exact ((Below.refl _ _).alloc (Nat.le_refl _) _).alloc (by simp) _
  have hd : X.heap[w1.heap.size + 1]? = some (.cells #[.int .i64 t.kind, .int .i64 t.r, .slice A m c, .int .i64 t.mn, .int .i64 t.mx] 71 (0, 0)) := by
    rw [hX]
    exact hp_new (by simp)
  rw [← hX]
  have hrow : RowF (fun b => B ≤ b ∧ (Value.slice P q pc).ownBlock ≠ some b) w1 A m t.set := (rowF_own ho).move (Nat.le_refl _) fun b hF hlt => ⟨⟨by have hF : wr.heap.size ≤ b := hF; omega, fun e => by have := (row_lt h.1 e).2; have hF : wr.heap.size ≤ b := hF; omega⟩, rfl⟩
  obtain ⟨P', pc', w', h1, h2, h3⟩ := ((h.below hb).below hb1).push (x := ⟨t, A, m, c⟩) hd (hrow.below hb1) hq (Nat.le_trans hB (Nat.le_trans hb.size hb1.size))
  exact ⟨P', pc', w', h1, h2, ((hb.mono hB).trans (hb1.mono (Nat.le_trans hB hb.size))).trans h3⟩
set_option maxHeartbeats 8000000 in
theorem rparse_points (s : ByteArray) (w : World) (hs : s.size ≤ 200) {l : List Int} (hp : pointsL (nums s) = some l) :
    Calls Try.prog 22 #[.string s] w (RParseV s w) := by
  have HR1 := Lib.hid (RoomN.start w)
  have h2 : ¬ (200 : Int) < (s.size : Int) := by omega
  have hll : l.length ≤ 200 := by have := pointsL_len _ _ _ (Nat.le_refl _) hp; rw [nums_length] at this; omega
  have HD := Lib.hid fun w => show Calls Try.prog 33 #[.string s] w fun e w' => ∃ P q pc, e = .returned (.tuple #[.slice P q pc, .bool true]) ∧ w'.ownsRow w.heap.size 3 1 (.slice P q pc) q (l.map (.int .i64)) ∧ Below w.heap.size w w' from (rpoints_any s w hs).mono fun e w' hv => by
    obtain ⟨hb, ⟨_, hn⟩ | ⟨P, q, pc, xs, he, hx, ho⟩⟩ := hv
    · rw [hp] at hn; cases hn
    · rw [hp] at hx; injection hx with hx; subst hx
      exact ⟨P, q, pc, he, ho, hb⟩
  have HP := Lib.hid (And.intro hp (pointsL_is hp))
  have HT : Hid (∀ r, toksL l.length l = r → parseT s = r.bind fun ts => runT 0 ts [] .nil .nil false) := Lib.hid fun r hr => by
    unfold parseT
    rw [hp]
    show treeL l = _
    unfold treeL
    rw [hr]
  clear hp
  go_enter Try.func22, Try.ntmps22
  go_wp2_with (go_at_call 33; (with_reducible refine (HD.out _).mono ?_); rintro e w2 ⟨P0, q0, pc0, rfl, ho, hb⟩; have HR2 := Lib.hid (HR1.out.next hb HR1.out.lt); have HO := Lib.hid (ownI_row ho); clear ho hb)
  have hq0 : q0 ≤ 200 := by have := HO.out.1.1; omega
  go_loopw [4, 6] (fun vr vl wr => ∃ (n c q pc : Nat) (A P : Option Addr) (lr : List Int) (xs : List TV), vr = .slice A n c ∧ vl = .slice P q pc ∧ q + n ≤ 200 ∧
    Hid (Below w2.heap.size w2 wr ∧ RowI .i64 w2 A n lr ∧ n ≤ c ∧ (∀ x ∈ lr, 0 ≤ x ∧ x ≤ 1114111) ∧ ToksG w2.heap.size wr P q pc xs ∧ (∀ x ∈ xs, TokOk x.t) ∧ toksL l.length l = (toksL lr.length lr).map (fun ts => xs.map TV.t ++ ts))) (fun vr _ _ => match vr with | .slice _ n _ => n | _ => 0)
  case atStart => exact ⟨q0, pc0, 0, 0, P0, none, l, [], rfl, rfl, by omega, Lib.hid ⟨Below.refl _ _, HO.out.1, HO.out.2.1, HP.out.2, ToksG.start _ _, (fun x hx => by cases hx), by cases toksL l.length l <;> rfl⟩⟩
  case round =>
    obtain ⟨n, c, q, pc, A, P, lr, xs, rfl, rfl, hqn, H⟩ := hrel
    have HRr := Lib.hid (HR2.out.next H.out.1 HR2.out.lt)
    rcases Nat.eq_zero_or_pos n with h0 | h0
    · subst h0
      have hlr : lr = [] := List.eq_nil_of_length_eq_zero H.out.2.1.1
      have hts : toksL l.length l = some (xs.map TV.t) := by
        rw [H.out.2.2.2.2.2.2, hlr]
        show some (xs.map TV.t ++ []) = _
        rw [List.append_nil]
      have hpt := HT.out _ hts
      have HR3 := Lib.hid (HRr.out.alloc (.cells #[.int .i64 0, .slice none 0 0, .int .i64 0, .int .i64 0, .slice none 0 0] 52))
      have htk := H.out.2.2.2.2.1.toks
      have hTr := rtree_any 200 (xs.map TV.t) 0 P q pc (wr.alloc (.cells #[.int .i64 0, .slice none 0 0, .int .i64 0, .int .i64 0, .slice none 0 0] 52)) (fun b => w2.heap.size ≤ b ∧ b < wr.heap.size) (by rw [List.length_map, H.out.2.2.2.2.1.len]; omega) (fun b hb => by have hb := hb.2; simp; omega) (by omega) (htk.1.below ((Below.refl _ _).alloc (Nat.le_refl _) _)) (by omega) htk.2 (fun t ht => by obtain ⟨x, hx, rfl⟩ := List.mem_map.1 ht; exact H.out.2.2.2.2.2.1 x hx)
      have e0 : treeT 0 (xs.map TV.t) = parseT s := by rw [hpt]; exact if_neg (by omega)
      rw [e0, show ((0 : Nat) : Int) = 0 from rfl] at hTr
      clear hts htk e0 hpt hlr
      rcases hT : parseT s with _ | T
      · rw [hT] at hTr
        have HTr := Lib.hid hTr
        have HN := Lib.hid hT
        clear hTr hT
        go_wp2_with (first
          | (go_at_call 35; (with_reducible refine HTr.out.mono ?_); rintro e w3 ⟨rfl, hb⟩; have HBx := Lib.hid (show w3.heap[wr.heap.size]? = some (.cells #[.int .i64 0, .slice none 0 0, .int .i64 0, .int .i64 0, .slice none 0 0] 52 (0, 0)) from (hb.block _ (by simp)).trans (heap_alloc_new wr _)); have HR4 := Lib.hid (HR3.out.next hb HR3.out.lt); clear hb)
          | (refine wpList_store_node rfl (.tmp 9) (.tmp 45) rfl wr.heap.size ⟨0, none, 0, 0, 0, 0, none, 0, 0⟩ rfl rfl HBx.out ?_; intro w4 hb4 ho4 hs4 hw4; have HR5 := Lib.hid (HR4.out.over HRr.out.lt hw4); have HO4 := Lib.hid (And.intro ho4 hs4); obtain ⟨y0, y1, y2, y3, y4, yf⟩ := box_facts hb4; obtain ⟨r0, r1, r2, r3, r4, rf⟩ := HR5.out.facts; clear hb4 ho4 hs4 hw4))
        obtain ⟨z0, z1, z2, z3, z4, _⟩ := HR5.out.cells (.int .i64 0) (.slice none 0 0) (.int .i64 0) (.int .i64 0) (.slice none 0 0)
        simp only [put5] at z0 z1 z2 z3 z4
        (try simp only [Exit.inBlock, Exit.then])
        refine bodyPost_ret (v := .tuple #[.agg #[.int .i64 0, .slice none 0 0, .int .i64 0, .int .i64 0, .slice none 0 0], .int .i64 15]) ?_ rfl ?_
        · rw [results_cell_tmp rfl]; go_simp
        · exact ⟨HR5.out.put _ _ _ _ _, .inr (.inl ⟨hs, HN.out, rfl⟩)⟩
      · rw [hT] at hTr
        have HTr := Lib.hid hTr
        have HN := Lib.hid hT
        clear hTr hT
        go_wp2_with (first
          | (go_at_call 35; (with_reducible refine HTr.out.mono ?_); rintro e w3 ⟨⟨x, rfl, hN⟩, hb⟩; have HBx := Lib.hid (show w3.heap[wr.heap.size]? = some (.cells #[.int .i64 0, .slice none 0 0, .int .i64 0, .int .i64 0, .slice none 0 0] 52 (0, 0)) from (hb.block _ (by simp)).trans (heap_alloc_new wr _)); have HR4 := Lib.hid (HR3.out.next hb HR3.out.lt); clear hb; have HNx := Lib.hid hN; clear hN; simp only [NV.val])
          | (refine wpList_store_node rfl (.tmp 9) (.tmp 45) rfl wr.heap.size x rfl rfl HBx.out ?_; intro w4 hb4 ho4 hs4 hw4; have HR5 := Lib.hid (HR4.out.over HRr.out.lt hw4); have HO4 := Lib.hid (And.intro ho4 hs4); obtain ⟨y0, y1, y2, y3, y4, yf⟩ := box_facts hb4; obtain ⟨r0, r1, r2, r3, r4, rf⟩ := HR5.out.facts; clear hb4 ho4 hs4 hw4))
        obtain ⟨z0, z1, z2, z3, z4, _⟩ := HR5.out.cells (.int .i64 x.op) (.slice x.A x.ns x.cs) (.int .i64 x.mn) (.int .i64 x.mx) (.slice x.D x.nk x.ck)
        simp only [put5] at z0 z1 z2 z3 z4
        (try simp only [Exit.inBlock, Exit.then])
        refine bodyPost_ret (v := .tuple #[x.val, .int .i64 0]) ?_ rfl ?_
        · rw [results_cell_tmp rfl]; go_simp
          rfl
        · refine ⟨HR5.out.put _ _ _ _ _, .inr (.inr ⟨x, T, hs, HN.out, rfl, HNx.out.move (by show w3.heap.size ≤ (put5 w4 _ _ _ _ _ _).heap.size; rw [put5_size]; exact Nat.le_of_eq HO4.out.2.symm) fun b hF hlt => ⟨trivial, ?_⟩⟩)⟩
          have h1 := HRr.out.lt
          have hsz : (wr.alloc (.cells #[.int .i64 0, .slice none 0 0, .int .i64 0, .int .i64 0, .slice none 0 0] 52)).heap.size = wr.heap.size + 1 := by simp
          rcases hF with hF2 | hF
          · have hF := hF2
            have h3 := HR2.out.lt
            have hF := hF.1
            exact (put5_other w4 (by omega) _ _ _ _ _).trans (HO4.out.1 b (by have := hF2.2; omega))
          · exact (put5_other w4 (by omega) _ _ _ _ _).trans (HO4.out.1 b (by omega))
    · have hl0 : lr ≠ [] := fun e => by have := H.out.2.1.1; rw [e] at this; simp at this; omega
      have HTk := Lib.hid (rtok_any lr hl0 A n c wr (H.out.2.1.below H.out.1 (Nat.le_refl _)) (by omega) H.out.2.2.1 H.out.2.2.2.1)
      have n0 : (0 : Int) < (n : Int) := by omega
      rcases hT : tokL lr with _ | ⟨t, rest⟩
      · have HX := Lib.hid hT
        have HN := Lib.hid (show parseT s = none by
          refine (HT.out none ?_)
          rw [H.out.2.2.2.2.2.2]
          rcases lr with _ | ⟨r, lr⟩
          · exact absurd rfl hl0
          · rw [toksL_none hT]; rfl)
        clear hT hl0
        go_wp2_with (go_at_call 34; (with_reducible refine HTk.out.mono ?_); rintro e w3 ⟨hv, hb⟩; unfold tokR at hv; rw [HX.out] at hv; dsimp only at hv; subst hv; have HR3 := Lib.hid (HRr.out.next hb HRr.out.lt); have y := (fun o => box_facts (NodeAlloc HR3.out.is o)); have y0 := fun o => (y o).1; have y1 := fun o => (y o).2.1; have y2 := fun o => (y o).2.2.1; have y3 := fun o => (y o).2.2.2.1; have y4 := fun o => (y o).2.2.2.2.1; have yf := fun o => (y o).2.2.2.2.2; clear y hb)
        have HR4 := Lib.hid (HR3.out.alloc (.cells #[.int .i64 0, .int .i64 0, .slice none 0 0, .int .i64 0, .int .i64 0] 71))
        obtain ⟨z0, z1, z2, z3, z4, _⟩ := HR4.out.cells (.int .i64 0) (.slice none 0 0) (.int .i64 0) (.int .i64 0) (.slice none 0 0)
        simp only [put5] at z0 z1 z2 z3 z4
        (try simp only [Exit.inBlock, Exit.then])
        refine bodyPost_ret (v := .tuple #[.agg #[.int .i64 0, .slice none 0 0, .int .i64 0, .int .i64 0, .slice none 0 0], .int .i64 15]) ?_ rfl ?_
        · rw [results_cell_tmp rfl]; go_simp
        · exact ⟨HR4.out.put _ _ _ _ _, .inr (.inl ⟨hs, HN.out, rfl⟩)⟩
      · have HX := Lib.hid hT
        have hto := tokL_ok hT
        have htl : toksL lr.length lr = (toksL rest.length rest).map fun ts => t :: ts := by
          rcases lr with _ | ⟨r, lr⟩
          · exact absurd rfl hl0
          · exact toksL_some hT
        have HTL := Lib.hid (And.intro hto htl)
        clear hT hl0 hto htl
        go_wp2_with (first
          | (go_at_call 34; (with_reducible refine HTk.out.mono ?_); rintro e w3 ⟨hv, hb⟩; unfold tokR at hv; rw [HX.out] at hv; dsimp only at hv; obtain ⟨A', m, c', k, rfl, hk1, hk2, hk3, ho⟩ := hv; unfold tokV; have hkn : k ≤ n := (by have := H.out.2.1.1; omega); have HK := Lib.hid (And.intro hk1 (And.intro hkn hk3)); have k0 : ¬ (k : Int) = 0 := (by omega); have k1 : ((k : Int) == 0) = false := (by simpa using k0); obtain ⟨A2, hcut, hrc⟩ := cutI_from A n c k hkn; have HRC := Lib.hid hrc; have HPu := Lib.hid (tok_push H.out.2.2.2.2.1 hb ho (by omega) H.out.1.size); obtain ⟨P', pc', w', HA⟩ : ∃ P' pc' w', Hid ((Builtin.append_ #[69, 69] 69 #[.slice P q pc, .slice (some ⟨w3.heap.size + 1, 0, none⟩) 1 1]).run Try.prog ((w3.alloc (.cells #[.int .i64 t.kind, .int .i64 t.r, .slice A' m c', .int .i64 t.mn, .int .i64 t.mx] 71)).alloc (.cells #[.int .i64 t.kind, .int .i64 t.r, .slice A' m c', .int .i64 t.mn, .int .i64 t.mx] 71)) = .ok (.slice P' (q + 1) pc') w' ∧ ToksG w2.heap.size w' P' (q + 1) pc' (xs ++ [⟨t, A', m, c'⟩]) ∧ Below w2.heap.size wr w') := (by obtain ⟨P', pc', w', h⟩ := HPu.out; exact ⟨P', pc', w', Lib.hid h⟩); clear hb ho hk1 hkn hk2 hk3 hrc HPu)
          | (at_builtin; refine wpList_append_run rfl _ _ 69 rfl rfl _ _ _ _ rfl rfl HA.out.1 ?_))
        have hkk := HK.out
        refine ⟨⟨n - k, c - k, q + 1, pc', A2, P', rest, xs ++ [⟨t, A', m, c'⟩], rfl, rfl, by omega, Lib.hid ⟨H.out.1.trans HA.out.2.2, ?_, by have := H.out.2.2.1; omega, fun x hx => ?_, HA.out.2.1, fun x hx => ?_, ?_⟩⟩, by show n - k < n; omega⟩
        · rw [hkk.2.2]; exact HRC.out w2 lr H.out.2.1 H.out.2.2.1
        · rw [hkk.2.2] at hx; exact H.out.2.2.2.1 x (List.mem_of_mem_drop hx)
        · rcases List.mem_append.1 hx with hx | hx
          · exact H.out.2.2.2.2.2.1 x hx
          · rw [List.mem_singleton] at hx; subst hx; exact HTL.out.1
        · rw [H.out.2.2.2.2.2.2, HTL.out.2]
          cases toksL rest.length rest with
          | none => rfl
          | some r => simp
/-- A text's tree, or why there is none: the document's. -/
theorem rparse_any (s : ByteArray) (w : World) : Calls Try.prog 22 #[.string s] w (RParseV s w) := by
  by_cases hs : 200 < s.size
  · exact rparse_big s w hs
  · rcases hp : pointsL (nums s) with _ | l
    · exact rparse_octets s w (by omega) hp
    · exact rparse_points s w (by omega) hp
end Go.Proofs.Ytegcebgoiocakaa
