/- The parser's alternative. -/
import Derived.Test.YtegcebgoiocakaaDoorA01
import Derived.Test.YtegcebgoiocakaaDoorA11
import Derived.Shelf.Small.Bits
import Derived.Test.YtegcebgoiocakaaDoorProg
import Derived.Deep.QuietTactic
import Derived.BigQuiet
import Derived.Laws.BitsAllLaws
namespace Go.Proofs.YtegcebgoiocakaaDoor
open Go Go.RowKit
set_option linter.unusedVariables false
set_option maxRecDepth 20000

/-- Where alternatives end. -/
def StopL (l : List Int) : Prop := l = [] ∨ (∃ r, l = 124 :: r) ∨ ∃ r, l = 41 :: r
/-- What alternative answers. -/
def AltV (d g : Nat) (l : List Int) (w : World) (e : Ending) (w' : World) : Prop :=
  (∃ x : NV, e = .returned (.tuple #[x.val, .bool false]) ∧ (∀ st a, st.length = d → runL l st a .nil false = none) ∧ Off g w w') ∨
  (∃ (x : NV) (T : Wood) (l' : List Int), e = .returned (.tuple #[x.val, .bool true]) ∧ NodesIn (fun b => w.heap.size ≤ b) w' [x] (oneN 4 T) ∧ l'.length ≤ l.length ∧ StopL l' ∧ (∀ st a, st.length = d → runL l st a .nil false = runL l' st a T false) ∧ Rd w' g l' ∧ Off g w w')
theorem NodeIn.val {F : Nat → Prop} {w : World} {v : Value} {T : Wood} (h : NodeIn F w v T) : ∃ x : NV, v = x.val ∧ NodesIn F w [x] T := h.one
theorem RoomAt.drew {g : Nat} {w a : World} (h : RoomAt g w a) : RoomAt g w a.drew := ⟨h.1.drewN 1, h.2.1, h.2.2⟩

theorem RoomAt.grown {g : Nat} {w a b : World} (h : RoomAt g w a) (hg : g < w.heap.size) (hb : Below (w.heap.size + 1) a b) : RoomAt g w b :=
  ⟨h.1.grown hg (hb.mono (Nat.le_succ _)), Nat.lt_of_lt_of_le h.2.1 hb.size, (hb.block _ (Nat.lt_succ_self _)).trans h.2.2⟩
/-- A node that a call has answered, behind those of a row. -/
theorem push_next {g : Nat} {w wr w2 : World} {P : Option Addr} {q pc : Nat} {xs : List NV} {T n : Wood} {x : NV} (hg : g < w.heap.size) (h : wr.ownsRow (w.heap.size + 1) 26 5 (.slice P q pc) q (cellsN xs)) (hT : NodesIn (Fr (w.heap.size + 1) (.slice P q pc)) wr xs T) (hR : RoomAt g w wr) (ho : Off g wr w2) (hx : NodesIn (fun b => wr.heap.size ≤ b) w2 [x] n) (hq : q ≤ 100000) :
    ∃ P' pc' w', (Builtin.append_ #[24, 24] 24 #[.slice P q pc, .slice (some ⟨w2.heap.size + 1, 0, none⟩) 1 1]).run Tryd.prog ((w2.alloc (.cells #[.int .i64 x.op, .slice x.A x.ns x.cs, .int .i64 x.mn, .int .i64 x.mx, .slice x.D x.nk x.ck] 26)).alloc (.cells #[.int .i64 x.op, .slice x.A x.ns x.cs, .int .i64 x.mn, .int .i64 x.mx, .slice x.D x.nk x.ck] 26)) = .ok (.slice P' (q + 1) pc') w' ∧
      w'.ownsRow (w.heap.size + 1) 26 5 (.slice P' (q + 1) pc') (q + 1) (cellsN (xs ++ [x])) ∧ NodesIn (Fr (w.heap.size + 1) (.slice P' (q + 1) pc')) w' (xs ++ [x]) (T.app n) ∧ Below (w.heap.size + 1) w2 w' := by
  obtain ⟨W, hW⟩ : ∃ W, W = w2.alloc (.cells #[.int .i64 x.op, .slice x.A x.ns x.cs, .int .i64 x.mn, .int .i64 x.mx, .slice x.D x.nk x.ck] 26) := ⟨_, rfl⟩
  have hsz : W.heap.size = w2.heap.size + 1 := by rw [hW]; simp
  have hold : ∀ k, k < w2.heap.size → W.heap[k]? = w2.heap[k]? := fun k hk => by rw [hW]; exact Below.heap_alloc _ _ _ hk
  have hle : w.heap.size + 1 ≤ wr.heap.size := hR.2.1
  have hle2 := ho.1.size
  have h2 : W.ownsRow (w.heap.size + 1) 26 5 (.slice P q pc) q (cellsN xs) := row_keep (own_off h (by omega) ho) fun k hk _ => hold k hk
  have hT2 : NodesIn (Fr (w.heap.size + 1) (.slice P q pc)) W xs T := hT.move (by omega) fun b hF hlt => ⟨hF, (hold b (by omega)).trans (ho.2 b hlt (by have := hF.1; omega))⟩
  have hx2 : NodesIn (Fr (w.heap.size + 1) (.slice P q pc)) W [x] n := hx.move (by omega) fun b hF hlt => ⟨⟨Nat.le_trans hle hF, fun e => by have := (row_lt h e).2; have hF : wr.heap.size ≤ b := hF; omega⟩, hold b hlt⟩
  obtain ⟨P', pc', w', h3, h4, h5, h6⟩ := push_node h2 hT2 hx2 hq (by omega)
  rw [hsz] at h3
  rw [← hW]
  refine ⟨P', pc', w', h3, h4, h5, ?_⟩
  have : Below (w.heap.size + 1) w2 W := by rw [hW]; exact (Below.refl _ _).alloc (by omega) _
  exact this.trans h6

set_option maxHeartbeats 4000000 in
theorem alt_walk (F : FacesS) {d g : Nat} (hd : d ≤ 10) {l : List Int} {w : World} (h : Rd w g l)
    (HP : ∀ (c : Int) (r : List Int), (c :: r).length ≤ l.length → d < 10 → ∀ w, Rd w g r → Calls Tryd.prog 10 #[.pointer (some ⟨g, 0, none⟩), .int .i64 ((d : Int) + 1)] w (PatV (d + 1) g r w)) :
    Calls Tryd.prog 15 #[.pointer (some ⟨g, 0, none⟩), .int .i64 (d : Int)] w (AltV d g l w) := by
  have hg := h.lt
  have HR1 := Lib.hid (RoomAt.start hg)
  have hR1 := Lib.hid (h.below ((Below.refl _ _).alloc (Nat.le_refl _) (.cells #[.int .i64 0, .slice none 0 0, .int .i64 0, .int .i64 0, .slice none 0 0] 26)))
  have hll := h.few
  have HPH := Lib.hid HP
  clear h HP
  go_enter Tryd.func15, Tryd.ntmps15
  go_wp2_with fail
  go_loopw [6] (fun vs wr => ∃ (q pc : Nat) (P : Option Addr) (xs : List NV) (T : Wood) (lr : List Int), vs = .slice P q pc ∧ q + lr.length ≤ l.length ∧
    Hid (wr.ownsRow (w.heap.size + 1) 26 5 (.slice P q pc) q (cellsN xs) ∧ NodesIn (Fr (w.heap.size + 1) (.slice P q pc)) wr xs T ∧ RoomAt g w wr ∧ Rd wr g lr ∧ ∀ st a, st.length = d → runL l st a .nil false = runL lr st a T false)) (fun _ wr => leftN wr g)
  case atStart => exact ⟨0, 0, none, [], .nil, l, rfl, by omega, Lib.hid ⟨nilN _ _, trivial, HR1.out, hR1.out, fun st a _ => rfl⟩⟩
  case round =>
    obtain ⟨q, pc, P, xs, T, lr, rfl, hql, H⟩ := hrel
    have HPk := Lib.hid (peek_any H.out.2.2.2.1)
    by_cases hstop : StopL lr
    · have HJ := Lib.hid fun w' (hw : w'.ownsRow (w.heap.size + 1) 26 5 (.slice P q pc) q (cellsN xs)) (hN : NodesIn (Fr (w.heap.size + 1) (.slice P q pc)) w' xs T) => join_any 4 hw hN (by omega)
      obtain ⟨y, hy⟩ : ∃ y, y = lr.headD (-1) := ⟨_, rfl⟩
      rw [← hy] at HPk
      have HS := Lib.hid hstop
      rcases (show y = -1 ∨ y = 124 ∨ y = 41 by rcases hstop with rfl | ⟨r, rfl⟩ | ⟨r, rfl⟩ <;> simp_all) with rfl | rfl | rfl
      all_goals
        clear hy hstop
        go_wp2_with (first
          | (go_at_call 24; (with_reducible refine HPk.out.mono ?_); rintro e w1 ⟨rfl, rfl⟩)
          | (go_at_call 17; (with_reducible refine (HJ.out _ H.out.1 H.out.2.1).mono ?_); rintro e w2 ⟨v, rfl, hN, hb⟩; obtain ⟨x, hv, hN2⟩ := hN.val; subst hv; have HR9 := Lib.hid (H.out.2.2.1.below hg hb); have HRd := Lib.hid (H.out.2.2.2.1.below hb); have HN := Lib.hid hN2; obtain ⟨q0, q1, q2, q3, q4, qf⟩ := HR9.out.facts; clear hN hN2 hb; simp only [NV.val]))
        obtain ⟨z0, z1, z2, z3, z4, _⟩ := HR9.out.cells x
        simp only [put5] at z0 z1 z2 z3 z4
        (try simp only [Exit.inBlock, Exit.then])
        refine bodyPost_ret (v := .tuple #[x.val, .bool true]) ?_ rfl ?_
        · rw [results_cell_tmp rfl]; go_simp
          rfl
        · exact .inr ⟨x, T, lr, rfl, HR9.out.nodes x (HN.out.move (Nat.le_refl _) fun b hF _ => ⟨hF, rfl⟩), by omega, HS.out, H.out.2.2.2.2, HR9.out.rd hg HRd.out x, HR9.out.put hg x⟩
    · rcases lr with _ | ⟨c, r⟩
      · exact absurd (.inl rfl) hstop
      have hc : c ≠ 124 ∧ c ≠ 41 := ⟨fun e => hstop (.inr (.inl ⟨r, by rw [e]⟩)), fun e => hstop (.inr (.inr ⟨r, by rw [e]⟩))⟩
      have hpt := H.out.2.2.2.1.pts c (by simp)
      have HPc := Lib.hid (piece_any F d hd hc H.out.2.2.2.1 (fun h10 w hw => HPH.out c r (by omega) h10 w hw))
      rw [List.headD_cons] at HPk
      have e1 : ¬ c = -1 := by omega
      have e2 : ¬ c = 124 := hc.1
      have e3 : ¬ c = 41 := hc.2
      clear hstop hc hpt
      go_wp2_with (first
        | (go_at_call 24; (with_reducible refine HPk.out.mono ?_); rintro e w1 ⟨rfl, rfl⟩)
        | (go_at_call 25; (with_reducible refine HPc.out.mono ?_); rintro e w2 hv; rcases hv with ⟨x, rfl, hn, ho⟩ | ⟨x, n, l1, rfl, hN, hlen, hrun, hr, ho⟩ <;> (have HR2 := Lib.hid (H.out.2.2.1.off hg ho); have HR3 := Lib.hid (HR2.out.alloc hg (.cells #[.int .i64 x.op, .slice x.A x.ns x.cs, .int .i64 x.mn, .int .i64 x.mx, .slice x.D x.nk x.ck] 26)); obtain ⟨q0, q1, q2, q3, q4, qf⟩ := HR3.out.facts; (first | (obtain ⟨P', pc', w4, ha, how, hnw, hbw⟩ := push_next hg H.out.1 H.out.2.1 H.out.2.2.1 ho hN (by omega); have HA := Lib.hid ha; have HW := Lib.hid (And.intro how (And.intro hnw hbw)); have HRR := Lib.hid hr; have HLN := Lib.hid (And.intro hlen hrun); clear ha how hnw hbw hr hrun hlen) | skip); clear ho; simp only [NV.val]))
        | (at_builtin; refine wpList_append_run rfl _ _ 24 rfl rfl _ _ _ _ rfl rfl HA.out ?_))
      · obtain ⟨z0, z1, z2, z3, z4, _⟩ := HR3.out.cells zeroNV
        simp only [put5, zeroNV] at z0 z1 z2 z3 z4
        (try simp only [Exit.inBlock, Exit.then])
        refine bodyPost_ret (v := .tuple #[zeroNV.val, .bool false]) ?_ rfl ?_
        · rw [results_cell_tmp rfl]; go_simp
          rfl
        · exact .inl ⟨_, rfl, fun st a hst => (H.out.2.2.2.2 st a hst).trans (hn st a T hst), HR3.out.put hg zeroNV⟩
      · have hk := HRR.out.keep HW.out.2.2 (Nat.lt_succ_of_lt hg)
        refine ⟨⟨q + 1, pc', P', xs ++ [x], T.app n, l1, rfl, by have := HLN.out.1; omega, Lib.hid ⟨HW.out.1, HW.out.2.1, HR2.out.grown hg HW.out.2.2, hk, fun st a hst => (H.out.2.2.2.2 st a hst).trans (HLN.out.2 st a T hst)⟩⟩, ?_⟩
        rw [hk.left, H.out.2.2.2.1.left]
        exact HLN.out.1
/-- An alternative. -/
theorem alternative_any (F : FacesS) {d g : Nat} (hd : d ≤ 10) {l : List Int} {w : World} (h : Rd w g l)
    (HP : ∀ (c : Int) (r : List Int), (c :: r).length ≤ l.length → d < 10 → ∀ w, Rd w g r → Calls Tryd.prog 10 #[.pointer (some ⟨g, 0, none⟩), .int .i64 ((d : Int) + 1)] w (PatV (d + 1) g r w)) :
    Calls Tryd.prog 15 #[.pointer (some ⟨g, 0, none⟩), .int .i64 (d : Int)] w (AltV d g l w) := alt_walk F hd h HP
end Go.Proofs.YtegcebgoiocakaaDoor
/- The parser's pattern. -/
namespace Go.Proofs.YtegcebgoiocakaaDoor
open Go Go.RowKit
set_option linter.unusedVariables false
set_option maxRecDepth 20000

set_option maxHeartbeats 4000000 in
theorem pat_walk (F : FacesS) {d g : Nat} (hd : d ≤ 10) {l : List Int} {w : World} (h : Rd w g l)
    (HP : ∀ (r : List Int), r.length < l.length → d < 10 → ∀ w, Rd w g r → Calls Tryd.prog 10 #[.pointer (some ⟨g, 0, none⟩), .int .i64 ((d : Int) + 1)] w (PatV (d + 1) g r w)) :
    Calls Tryd.prog 10 #[.pointer (some ⟨g, 0, none⟩), .int .i64 (d : Int)] w (PatV d g l w) := by
  have hg := h.lt
  have HR1 := Lib.hid (RoomAt.start hg)
  have hR1 := Lib.hid (h.below ((Below.refl _ _).alloc (Nat.le_refl _) (.cells #[.int .i64 0, .slice none 0 0, .int .i64 0, .int .i64 0, .slice none 0 0] 26)))
  have hll := h.few
  have HPH := Lib.hid HP
  clear h HP
  go_enter Tryd.func10, Tryd.ntmps10
  go_wp2_with fail
  go_loopw [6] (fun vs wr => ∃ (q pc : Nat) (P : Option Addr) (xs : List NV) (A : Wood) (lr : List Int), vs = .slice P q pc ∧ q + lr.length ≤ l.length ∧
    Hid (wr.ownsRow (w.heap.size + 1) 26 5 (.slice P q pc) q (cellsN xs) ∧ NodesIn (Fr (w.heap.size + 1) (.slice P q pc)) wr xs A ∧ RoomAt g w wr ∧ Rd wr g lr ∧ ∀ st, st.length = d → runL l st .nil .nil false = runL lr st A .nil false)) (fun _ wr => leftN wr g)
  case atStart => exact ⟨0, 0, none, [], .nil, l, rfl, by omega, Lib.hid ⟨nilN _ _, trivial, HR1.out, hR1.out, fun st _ => rfl⟩⟩
  case round =>
    obtain ⟨q, pc, P, xs, A, lr, rfl, hql, H⟩ := hrel
    have HAl := Lib.hid (alternative_any F hd H.out.2.2.2.1 (fun c r hcr h10 w hw => HPH.out r (by rw [List.length_cons] at hcr; omega) h10 w hw))
    go_wp2_with (first
      | (go_at_call 15; (with_reducible refine HAl.out.mono ?_); rintro e w2 hv; rcases hv with ⟨x, rfl, hn, ho⟩ | ⟨x, T, l1, rfl, hN, hlen, hst, hrun, hr, ho⟩ <;> (have HR2 := Lib.hid (H.out.2.2.1.off hg ho); have HR3 := Lib.hid (HR2.out.alloc hg (.cells #[.int .i64 x.op, .slice x.A x.ns x.cs, .int .i64 x.mn, .int .i64 x.mx, .slice x.D x.nk x.ck] 26)); obtain ⟨q0, q1, q2, q3, q4, qf⟩ := HR3.out.facts; (first | (obtain ⟨P', pc', w4, ha, how, hnw, hbw⟩ := push_next hg H.out.1 H.out.2.1 H.out.2.2.1 ho hN (by omega); have HA := Lib.hid ha; have HW := Lib.hid (And.intro how (And.intro hnw hbw)); have HRR := Lib.hid (hr.keep hbw (Nat.lt_succ_of_lt hg)); have HR4 := Lib.hid (HR2.out.grown hg hbw); have HLN := Lib.hid (And.intro hlen (And.intro hst hrun)); clear ha how hnw hbw hr hrun hlen hst) | skip); clear ho; simp only [NV.val]))
      | (at_builtin; refine wpList_append_run rfl _ _ 24 rfl rfl _ _ _ _ rfl rfl HA.out ?_))
    · obtain ⟨z0, z1, z2, z3, z4, _⟩ := HR3.out.cells zeroNV
      simp only [put5, zeroNV] at z0 z1 z2 z3 z4
      (try simp only [Exit.inBlock, Exit.then])
      refine bodyPost_ret (v := .tuple #[zeroNV.val, .bool false]) ?_ rfl ?_
      · rw [results_cell_tmp rfl]; go_simp
        rfl
      · exact .inl ⟨_, rfl, fun st hst => (H.out.2.2.2.2 st hst).trans (hn st A hst), HR3.out.put hg zeroNV⟩
    · clear q0 q1 q2 q3 q4 qf
      obtain ⟨hlen, hst, hrun⟩ := HLN.out
      by_cases hbar : l1.headD (-1) = 124
      · rcases l1 with _ | ⟨y, l2⟩
        · cases hbar
        rw [List.headD_cons] at hbar
        subst hbar
        have HT := Lib.hid (take_yes HRR.out)
        have HLL := Lib.hid (And.intro hlen hrun)
        clear hlen hst hrun
        go_wp2_with (go_at_call 16; (with_reducible refine HT.out.mono ?_); rintro e w5 ⟨rfl, hr, ho⟩; have HO := Lib.hid (And.intro hr ho); clear hr ho)
        refine ⟨⟨q + 1, pc', P', xs ++ [x], A.app (oneN 4 T), l2, rfl, by have := HLL.out.1; rw [List.length_cons] at this; omega, Lib.hid ⟨own_off HW.out.1 (Nat.lt_succ_of_lt hg) HO.out.2, HW.out.2.1.move HO.out.2.1.size fun b hF hlt => ⟨hF, HO.out.2.2 b hlt (by have := hF.1; omega)⟩, HR4.out.off hg HO.out.2, HO.out.1, fun st hst => ?_⟩⟩, ?_⟩
        · rw [H.out.2.2.2.2 st hst, HLL.out.2 st A hst, runL_bar (tok_bar l2) rfl rfl]
        · rw [HO.out.1.left, H.out.2.2.2.1.left]
          have := HLL.out.1
          rw [List.length_cons] at this
          omega
      · have HT := Lib.hid (take_no HRR.out hbar)
        have HE := Lib.hid (show l1 = [] ∨ ∃ r, l1 = 41 :: r by
          rcases hst with h | ⟨r, rfl⟩ | h
          · exact .inl h
          · exact absurd rfl hbar
          · exact .inr h)
        have HLL := Lib.hid (And.intro hlen hrun)
        have HJ := Lib.hid (join_any 5 HW.out.1 HW.out.2.1 (by omega))
        clear hlen hst hrun hbar
        go_wp2_with (first
          | (go_at_call 16; (with_reducible refine HT.out.mono ?_); rintro e w5 ⟨rfl, rfl⟩)
          | (go_at_call 17; (with_reducible refine HJ.out.mono ?_); rintro e w6 ⟨v, rfl, hN, hb⟩; obtain ⟨x2, hv, hN2⟩ := hN.val; subst hv; have HR9 := Lib.hid (HR4.out.below hg hb); have HRd := Lib.hid (HRR.out.below hb); have HN := Lib.hid hN2; obtain ⟨q0, q1, q2, q3, q4, qf⟩ := HR9.out.facts; clear hN hN2 hb; simp only [NV.val]))
        obtain ⟨z0, z1, z2, z3, z4, _⟩ := HR9.out.cells x2
        simp only [put5] at z0 z1 z2 z3 z4
        (try simp only [Exit.inBlock, Exit.then])
        refine bodyPost_ret (v := .tuple #[x2.val, .bool true]) ?_ rfl ?_
        · rw [results_cell_tmp rfl]; go_simp
          rfl
        · refine .inr ⟨x2, _, l1, rfl, HR9.out.nodes x2 (HN.out.move (Nat.le_refl _) fun b hF _ => ⟨hF, rfl⟩), by have := HLL.out.1; omega, HE.out, fun st hst => ?_, HR9.out.rd hg HRd.out x2, HR9.out.put hg x2⟩
          rw [H.out.2.2.2.2 st hst, HLL.out.2 st A hst]
          exact shut_end HE.out
/-- A pattern within so many parentheses. -/
theorem pattern_any (F : FacesS) (g : Nat) : ∀ (N : Nat) (l : List Int), l.length < N → ∀ (d : Nat), d ≤ 10 → ∀ w, Rd w g l →
    Calls Tryd.prog 10 #[.pointer (some ⟨g, 0, none⟩), .int .i64 (d : Int)] w (PatV d g l w) := by
  intro N
  induction N with
  | zero => intro l h; omega
  | succ N ih =>
    intro l hl d hd w h
    refine pat_walk F hd h fun r hr h10 w' hw' => ?_
    have := ih r (by omega) (d + 1) (by omega) w' hw'
    rwa [show ((d + 1 : Nat) : Int) = (d : Int) + 1 by omega] at this
end Go.Proofs.YtegcebgoiocakaaDoor
/- Contracts of math/bits that the library proves over any program, laid at this one. -/
namespace Go.Proofs
open Go.Shelf
def Tryd.lays126_ren : Go.Shelf.Ren := ⟨fun | 126 => 32 | n => n, fun | 5 => 5 | 3 => 3 | 9 => 9 | n => n, fun | n => n⟩
theorem Tryd.lays126 : Go.Proofs.Lays.n126 Tryd.prog Tryd.lays126_ren := {
  mixed := by kernel_rfl
  f126 := Tryd.func32.trans (congrArg some (by kernel_rfl))
  t3 := Tryd.underlying3
  a3 := Tryd.isAgg3
  z3 := Tryd.sizeOf3
  v3 := Tryd.zeroValue3
  t5 := Tryd.underlying5
  a5 := Tryd.isAgg5
  z5 := Tryd.sizeOf5
  v5 := Tryd.zeroValue5
  t9 := Tryd.underlying9
  a9 := Tryd.isAgg9
  z9 := Tryd.sizeOf9
  v9 := Tryd.zeroValue9 }
/-- How many bits. -/
theorem Tryd.bits_Len8 (x : Int) (w : World) (h0 : 0 ≤ x) (h1 : x ≤ 255) :
    Calls Tryd.prog 32 #[.int .u8 x] w fun e w' => e = .returned (.int .i64 (Lib.bitLen x.toNat)) ∧ w' = w := Any.bits_Len8 Tryd.lays126 x w h0 h1
def Tryd.lays131_ren : Go.Shelf.Ren := ⟨fun | 131 => 28 | 126 => 32 | n => n, fun | 5 => 5 | 3 => 3 | 9 => 9 | n => n, fun | n => n⟩
theorem Tryd.lays131 : Go.Proofs.Lays.n131 Tryd.prog Tryd.lays131_ren := {
  mixed := by kernel_rfl
  f126 := Tryd.func32.trans (congrArg some (by kernel_rfl))
  f131 := Tryd.func28.trans (congrArg some (by kernel_rfl))
  t3 := Tryd.underlying3
  a3 := Tryd.isAgg3
  z3 := Tryd.sizeOf3
  v3 := Tryd.zeroValue3
  t5 := Tryd.underlying5
  a5 := Tryd.isAgg5
  z5 := Tryd.sizeOf5
  v5 := Tryd.zeroValue5
  t9 := Tryd.underlying9
  a9 := Tryd.isAgg9
  z9 := Tryd.sizeOf9
  v9 := Tryd.zeroValue9 }
/-- How many zero bits lead. -/
theorem Tryd.bits_LeadingZeros8 (x : Int) (w : World) (h0 : 0 ≤ x) (h1 : x ≤ 255) :
    Calls Tryd.prog 28 #[.int .u8 x] w fun e w' => e = .returned (.int .i64 (8 - (Lib.bitLen x.toNat : Int))) ∧ w' = w := Any.bits_LeadingZeros8 Tryd.lays131 x w h0 h1
end Go.Proofs
/- Contracts of length and gather of package code. -/
namespace Go.Proofs.YtegcebgoiocakaaDoor
open Go Go.RowKit

/-- How many octets a first one announces; 0 if it can't be one. -/
def lenI (c : Int) : Int := if c < 128 then 1 else if c < 192 then 0 else if c < 224 then 2 else if c < 240 then 3 else if c < 248 then 4 else 0

theorem lz_all : ∀ c : Fin 256, (Lib.bitLen (255 - c.val) : Int) = if c.val < 128 then 8 else if c.val < 192 then 7 else if c.val < 224 then 6 else if c.val < 240 then 5 else if c.val < 248 then 4 else (Lib.bitLen (255 - c.val) : Int) := by decide +kernel
theorem lz_top : ∀ c : Fin 8, Lib.bitLen c.val ≤ 3 := by decide +kernel

theorem xor255 : ∀ c : Fin 256, (255 ^^^ c.val : Nat) = 255 - c.val := by decide +kernel
theorem u8_not {c : Int} (h0 : 0 ≤ c) (h1 : c ≤ 255) : bits BinOp.xor IntKind.u8 IntKind.u8.max c = 255 - c := by
  rw [show IntKind.u8.max = 255 from rfl, u8_xor 255 c (by omega) (by omega) h0 (by omega)]
  have := xor255 ⟨c.toNat, by omega⟩
  simp only at this
  rw [show (255 : Int).toNat = 255 from rfl, this]
  omega
theorem length_lo (c m : Int) (w : World) (h0 : 0 ≤ c) (h1 : c ≤ 255) (hm : m = 0 ∨ m = 2 ∨ m = 3 ∨ m = 4)
    (hb : 8 - (Lib.bitLen (255 - c).toNat : Int) = m) : Calls Tryd.prog 21 #[.int .u8 c] w fun e w' => e = .returned (.int .i64 (if m = 0 then 1 else m)) ∧ w = w' := by
  have hl := fun w => Tryd.bits_LeadingZeros8 (255 - c) w (by omega) (by omega)
  rw [hb] at hl
  clear hb
  have HL := Lib.hid hl; clear hl
  have e1 := u8_not h0 h1
  rcases hm with rfl | rfl | rfl | rfl
  all_goals
    go_enter Tryd.func21, Tryd.ntmps21
    go_wp2_with fail
    refine (HL.out _).mono ?_; rintro e w' ⟨rfl, rfl⟩
    go_wp2_with fail
    go_ret
    exact ⟨by simp, rfl⟩

theorem length_hi (c m : Int) (w : World) (h0 : 0 ≤ c) (h1 : c ≤ 255) (hm : m = 1 ∨ 5 ≤ m)
    (hb : 8 - (Lib.bitLen (255 - c).toNat : Int) = m) : Calls Tryd.prog 21 #[.int .u8 c] w fun e w' => e = .returned (.int .i64 0) ∧ w = w' := by
  have hl := fun w => Tryd.bits_LeadingZeros8 (255 - c) w (by omega) (by omega)
  rw [hb] at hl
  clear hb
  have HL := Lib.hid hl; clear hl
  have e1 := u8_not h0 h1
  have b1 : (m == 0) = false := by simp; omega
  have b2 : (m == 2) = false := by simp; omega
  have b3 : (m == 3) = false := by simp; omega
  have b4 : (m == 4) = false := by simp; omega
  clear hm
  go_enter Tryd.func21, Tryd.ntmps21
  go_wp2_with fail
  refine (HL.out _).mono ?_; rintro e w' ⟨rfl, rfl⟩
  go_wp2_with fail
  go_ret
  exact ⟨rfl, rfl⟩

theorem length_any (c : Int) (w : World) (h0 : 0 ≤ c) (h1 : c < 256) : Calls Tryd.prog 21 #[.int .u8 c] w fun e w' => e = .returned (.int .i64 (lenI c)) ∧ w = w' := by
  have ha := lz_all ⟨c.toNat, by omega⟩
  simp only at ha
  rw [show 255 - c.toNat = (255 - c).toNat by omega] at ha
  have ht : 248 ≤ c → Lib.bitLen (255 - c).toNat ≤ 3 := fun h => lz_top ⟨(255 - c).toNat, by omega⟩
  rcases (show c < 128 ∨ (128 ≤ c ∧ c < 192) ∨ (192 ≤ c ∧ c < 224) ∨ (224 ≤ c ∧ c < 240) ∨ (240 ≤ c ∧ c < 248) ∨ 248 ≤ c by omega) with h | h | h | h | h | h
  · rw [if_pos (by omega)] at ha
    have := length_lo c 0 w h0 (by omega) (by omega) (by omega)
    rw [show lenI c = 1 by unfold lenI; rw [if_pos (by omega)]]
    exact this
  · rw [if_neg (by omega), if_pos (by omega)] at ha
    rw [show lenI c = 0 by unfold lenI; rw [if_neg (by omega), if_pos (by omega)]]
    exact length_hi c 1 w h0 (by omega) (by omega) (by omega)
  · rw [if_neg (by omega), if_neg (by omega), if_pos (by omega)] at ha
    rw [show lenI c = 2 by unfold lenI; rw [if_neg (by omega), if_neg (by omega), if_pos (by omega)]]
    exact length_lo c 2 w h0 (by omega) (by omega) (by omega)
  · rw [if_neg (by omega), if_neg (by omega), if_neg (by omega), if_pos (by omega)] at ha
    rw [show lenI c = 3 by unfold lenI; rw [if_neg (by omega), if_neg (by omega), if_neg (by omega), if_pos (by omega)]]
    exact length_lo c 3 w h0 (by omega) (by omega) (by omega)
  · rw [if_neg (by omega), if_neg (by omega), if_neg (by omega), if_neg (by omega), if_pos (by omega)] at ha
    rw [show lenI c = 4 by unfold lenI; rw [if_neg (by omega), if_neg (by omega), if_neg (by omega), if_neg (by omega), if_pos (by omega)]]
    exact length_lo c 4 w h0 (by omega) (by omega) (by omega)
  · have h3 := ht h
    rw [show lenI c = 0 by unfold lenI; rw [if_neg (by omega), if_neg (by omega), if_neg (by omega), if_neg (by omega), if_neg (by omega)]]
    exact length_hi c (8 - (Lib.bitLen (255 - c).toNat : Int)) w h0 (by omega) (by omega) rfl
end Go.Proofs.YtegcebgoiocakaaDoor
