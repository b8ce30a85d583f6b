/- Texts. -/
import Derived.Test.YtaapbmdojkjphaaGreatZ04
import Derived.Test.YtaapbmdojkjphaaGreatZ11
import Derived.Test.YtaapbmdojkjphaaGreatZ23
import Derived.Test.YtaapbmdojkjphaaGreatZ24
import Derived.Test.YtaapbmdojkjphaaGreatZ25
import Derived.Lib.MinMax
import Derived.Shelf.SlSortCmp.WholeK
import Derived.Shelf.SlSortCmp.NoneTotal
import Derived.BigQuiet
import Derived.BigRegion
namespace Go.Proofs.YtaapbmdojkjphaaGreat
open Go Go.RowKit
set_option linter.unusedVariables false
set_option maxRecDepth 20000
def StopL (l : List Int) : Prop := l = [] ∨ (∃ r, l = 124 :: r) ∨ ∃ r, l = 41 :: r
def AltV (d g : Nat) (l : List Int) (w : World) (e : Ending) (w' : World) : Prop :=
  (∃ x : NV, e = .returned (.tuple #[x.val, .bool false]) ∧ (∀ st a, st.length = d → runL l st a .nil false = none) ∧ Off g w w') ∨
  (∃ (x : NV) (T : Wood) (l' : List Int), e = .returned (.tuple #[x.val, .bool true]) ∧ NodesIn (fun b => w.heap.size ≤ b) w' [x] (oneN 4 T) ∧ l'.length ≤ l.length ∧ StopL l' ∧ (∀ st a, st.length = d → runL l st a .nil false = runL l' st a T false) ∧ Rd w' g l' ∧ Off g w w')
theorem NodeIn.val {F : Nat → Prop} {w : World} {v : Value} {T : Wood} (h : NodeIn F w v T) : ∃ x : NV, v = x.val ∧ NodesIn F w [x] T := h.one
theorem RoomAt.drew {g : Nat} {w a : World} (h : RoomAt g w a) : RoomAt g w a.drew := ⟨h.1.drewN 1, h.2.1, h.2.2⟩
theorem RoomAt.grown {g : Nat} {w a b : World} (h : RoomAt g w a) (hg : g < w.heap.size) (hb : Below (w.heap.size + 1) a b) : RoomAt g w b :=
  ⟨h.1.grown hg (hb.mono (Nat.le_succ _)), Nat.lt_of_lt_of_le h.2.1 hb.size, (hb.block _ (Nat.lt_succ_self _)).trans h.2.2⟩
theorem push_next {g : Nat} {w wr w2 : World} {P : Option Addr} {q pc : Nat} {xs : List NV} {T n : Wood} {x : NV} (hg : g < w.heap.size) (h : wr.ownsRow (w.heap.size + 1) 27 5 (.slice P q pc) q (cellsN xs)) (hT : NodesIn (Fr (w.heap.size + 1) (.slice P q pc)) wr xs T) (hR : RoomAt g w wr) (ho : Off g wr w2) (hx : NodesIn (fun b => wr.heap.size ≤ b) w2 [x] n) (hq : q ≤ 100000) :
    ∃ P' pc' w', (Builtin.append_ #[25, 25] 25 #[.slice P q pc, .slice (some ⟨w2.heap.size + 1, 0, none⟩) 1 1]).run Tryz.prog ((w2.alloc (.cells #[.int .i64 x.op, .slice x.A x.ns x.cs, .int .i64 x.mn, .int .i64 x.mx, .slice x.D x.nk x.ck] 27)).alloc (.cells #[.int .i64 x.op, .slice x.A x.ns x.cs, .int .i64 x.mn, .int .i64 x.mx, .slice x.D x.nk x.ck] 27)) = .ok (.slice P' (q + 1) pc') w' ∧
      w'.ownsRow (w.heap.size + 1) 27 5 (.slice P' (q + 1) pc') (q + 1) (cellsN (xs ++ [x])) ∧ NodesIn (Fr (w.heap.size + 1) (.slice P' (q + 1) pc')) w' (xs ++ [x]) (T.app n) ∧ Below (w.heap.size + 1) w2 w' := by
  obtain ⟨W, hW⟩ : ∃ W, W = w2.alloc (.cells #[.int .i64 x.op, .slice x.A x.ns x.cs, .int .i64 x.mn, .int .i64 x.mx, .slice x.D x.nk x.ck] 27) := ⟨_, rfl⟩
  have hsz : W.heap.size = w2.heap.size + 1 := by rw [hW]; simp
  have hold : ∀ k, k < w2.heap.size → W.heap[k]? = w2.heap[k]? := fun k hk => by rw [hW]; exact Below.heap_alloc _ _ _ hk
  have hle : w.heap.size + 1 ≤ wr.heap.size := hR.2.1
  have hle2 := ho.1.size
  have h2 : W.ownsRow (w.heap.size + 1) 27 5 (.slice P q pc) q (cellsN xs) := row_keep (own_off h (by omega) ho) fun k hk _ => hold k hk
  have hT2 : NodesIn (Fr (w.heap.size + 1) (.slice P q pc)) W xs T := hT.move (by omega) fun b hF hlt => ⟨hF, (hold b (by omega)).trans (ho.2 b hlt (by have := hF.1; omega))⟩
  have hx2 : NodesIn (Fr (w.heap.size + 1) (.slice P q pc)) W [x] n := hx.move (by omega) fun b hF hlt => ⟨⟨Nat.le_trans hle hF, fun e => by have := (row_lt h e).2; have hF : wr.heap.size ≤ b := hF; omega⟩, hold b hlt⟩
  obtain ⟨P', pc', w', h3, h4, h5, h6⟩ := push_node h2 hT2 hx2 hq (by omega)
  rw [hsz] at h3
  rw [← hW]
  refine ⟨P', pc', w', h3, h4, h5, ?_⟩
  have : Below (w.heap.size + 1) w2 W := by rw [hW]; exact (Below.refl _ _).alloc (by omega) _
  exact this.trans h6
set_option maxHeartbeats 4000000 in
theorem alt_walk (F : FacesS) {d g : Nat} (hd : d ≤ 10) {l : List Int} {w : World} (h : Rd w g l)
    (HP : ∀ (c : Int) (r : List Int), (c :: r).length ≤ l.length → d < 10 → ∀ w, Rd w g r → Calls Tryz.prog 38 #[.pointer (some ⟨g, 0, none⟩), .int .i64 ((d : Int) + 1)] w (PatV (d + 1) g r w)) :
    Calls Tryz.prog 60 #[.pointer (some ⟨g, 0, none⟩), .int .i64 (d : Int)] w (AltV d g l w) := by
  have hg := h.lt
  have HR1 := Lib.hid (RoomAt.start hg)
  have hR1 := Lib.hid (h.below ((Below.refl _ _).alloc (Nat.le_refl _) (.cells #[.int .i64 0, .slice none 0 0, .int .i64 0, .int .i64 0, .slice none 0 0] 27)))
  have hll := h.few
  have HPH := Lib.hid HP
  clear h HP
  go_enter Tryz.func60, Tryz.ntmps60
  go_wp2_with fail
  go_loopw [6] (fun vs wr => ∃ (q pc : Nat) (P : Option Addr) (xs : List NV) (T : Wood) (lr : List Int), vs = .slice P q pc ∧ q + lr.length ≤ l.length ∧
    Hid (wr.ownsRow (w.heap.size + 1) 27 5 (.slice P q pc) q (cellsN xs) ∧ NodesIn (Fr (w.heap.size + 1) (.slice P q pc)) wr xs T ∧ RoomAt g w wr ∧ Rd wr g lr ∧ ∀ st a, st.length = d → runL l st a .nil false = runL lr st a T false)) (fun _ wr => leftR wr g)
  case atStart => exact ⟨0, 0, none, [], .nil, l, rfl, by omega, Lib.hid ⟨nilN _ _, trivial, HR1.out, hR1.out, fun st a _ => rfl⟩⟩
  case round =>
    obtain ⟨q, pc, P, xs, T, lr, rfl, hql, H⟩ := hrel
    have HPk := Lib.hid (peek_any H.out.2.2.2.1)
    by_cases hstop : StopL lr
    · have HJ := Lib.hid fun w' (hw : w'.ownsRow (w.heap.size + 1) 27 5 (.slice P q pc) q (cellsN xs)) (hN : NodesIn (Fr (w.heap.size + 1) (.slice P q pc)) w' xs T) => join_any 4 hw hN (by omega)
      obtain ⟨y, hy⟩ : ∃ y, y = lr.headD (-1) := ⟨_, rfl⟩
      rw [← hy] at HPk
      have HS := Lib.hid hstop
      rcases (show y = -1 ∨ y = 124 ∨ y = 41 by rcases hstop with rfl | ⟨r, rfl⟩ | ⟨r, rfl⟩ <;> simp_all) with rfl | rfl | rfl
      all_goals
        clear hy hstop
        go_wp2_with (first
          | (go_at_call 101; (with_reducible refine HPk.out.mono ?_); rintro e w1 ⟨rfl, rfl⟩)
          | (go_at_call 62; (with_reducible refine (HJ.out _ H.out.1 H.out.2.1).mono ?_); rintro e w2 ⟨v, rfl, hN, hb⟩; obtain ⟨x, hv, hN2⟩ := hN.val; subst hv; have HR9 := Lib.hid (H.out.2.2.1.below hg hb); have HRd := Lib.hid (H.out.2.2.2.1.below hb); have HN := Lib.hid hN2; obtain ⟨q0, q1, q2, q3, q4, qf⟩ := HR9.out.facts; clear hN hN2 hb; simp only [NV.val]))
        obtain ⟨z0, z1, z2, z3, z4, _⟩ := HR9.out.cells x
        simp only [put5] at z0 z1 z2 z3 z4
        (try simp only [Exit.inBlock, Exit.then])
        refine bodyPost_ret (v := .tuple #[x.val, .bool true]) ?_ rfl ?_
        · rw [results_cell_tmp rfl]; go_simp
          rfl
        · exact .inr ⟨x, T, lr, rfl, HR9.out.nodes x (HN.out.move (Nat.le_refl _) fun b hF _ => ⟨hF, rfl⟩), by omega, HS.out, H.out.2.2.2.2, HR9.out.rd hg HRd.out x, HR9.out.put hg x⟩
    · rcases lr with _ | ⟨c, r⟩
      · exact absurd (.inl rfl) hstop
      have hc : c ≠ 124 ∧ c ≠ 41 := ⟨fun e => hstop (.inr (.inl ⟨r, by rw [e]⟩)), fun e => hstop (.inr (.inr ⟨r, by rw [e]⟩))⟩
      have hpt := H.out.2.2.2.1.pts c (by simp)
      have HPc := Lib.hid (piece_any F d hd hc H.out.2.2.2.1 (fun h10 w hw => HPH.out c r (by omega) h10 w hw))
      rw [List.headD_cons] at HPk
      have e1 : ¬ c = -1 := by omega
      have e2 : ¬ c = 124 := hc.1
      have e3 : ¬ c = 41 := hc.2
      clear hstop hc hpt
      go_wp2_with (first
        | (go_at_call 101; (with_reducible refine HPk.out.mono ?_); rintro e w1 ⟨rfl, rfl⟩)
        | (go_at_call 102; (with_reducible refine HPc.out.mono ?_); rintro e w2 hv; rcases hv with ⟨x, rfl, hn, ho⟩ | ⟨x, n, l1, rfl, hN, hlen, hrun, hr, ho⟩ <;> (have HR2 := Lib.hid (H.out.2.2.1.off hg ho); have HR3 := Lib.hid (HR2.out.alloc hg (.cells #[.int .i64 x.op, .slice x.A x.ns x.cs, .int .i64 x.mn, .int .i64 x.mx, .slice x.D x.nk x.ck] 27)); obtain ⟨q0, q1, q2, q3, q4, qf⟩ := HR3.out.facts; (first | (obtain ⟨P', pc', w4, ha, how, hnw, hbw⟩ := push_next hg H.out.1 H.out.2.1 H.out.2.2.1 ho hN (by omega); have HA := Lib.hid ha; have HW := Lib.hid (And.intro how (And.intro hnw hbw)); have HRR := Lib.hid hr; have HLN := Lib.hid (And.intro hlen hrun); clear ha how hnw hbw hr hrun hlen) | skip); clear ho; simp only [NV.val]))
        | (at_builtin; refine wpList_append_run rfl _ _ 25 rfl rfl _ _ _ _ rfl rfl HA.out ?_))
      · obtain ⟨z0, z1, z2, z3, z4, _⟩ := HR3.out.cells zeroNV
        simp only [put5, zeroNV] at z0 z1 z2 z3 z4
        (try simp only [Exit.inBlock, Exit.then])
        refine bodyPost_ret (v := .tuple #[zeroNV.val, .bool false]) ?_ rfl ?_
        · rw [results_cell_tmp rfl]; go_simp
          rfl
        · exact .inl ⟨_, rfl, fun st a hst => (H.out.2.2.2.2 st a hst).trans (hn st a T hst), HR3.out.put hg zeroNV⟩
      · have hk := HRR.out.keep HW.out.2.2 (Nat.lt_succ_of_lt hg)
        refine ⟨⟨q + 1, pc', P', xs ++ [x], T.app n, l1, rfl, by have := HLN.out.1; omega, Lib.hid ⟨HW.out.1, HW.out.2.1, HR2.out.grown hg HW.out.2.2, hk, fun st a hst => (H.out.2.2.2.2 st a hst).trans (HLN.out.2 st a T hst)⟩⟩, ?_⟩
        rw [hk.left, H.out.2.2.2.1.left]
        exact HLN.out.1
theorem alternative_any (F : FacesS) {d g : Nat} (hd : d ≤ 10) {l : List Int} {w : World} (h : Rd w g l)
    (HP : ∀ (c : Int) (r : List Int), (c :: r).length ≤ l.length → d < 10 → ∀ w, Rd w g r → Calls Tryz.prog 38 #[.pointer (some ⟨g, 0, none⟩), .int .i64 ((d : Int) + 1)] w (PatV (d + 1) g r w)) :
    Calls Tryz.prog 60 #[.pointer (some ⟨g, 0, none⟩), .int .i64 (d : Int)] w (AltV d g l w) := alt_walk F hd h HP
end Go.Proofs.YtaapbmdojkjphaaGreat
namespace Go.Proofs.YtaapbmdojkjphaaGreat
open Go Go.RowKit
set_option linter.unusedVariables false
set_option maxRecDepth 20000
set_option maxHeartbeats 4000000 in
theorem pat_walk (F : FacesS) {d g : Nat} (hd : d ≤ 10) {l : List Int} {w : World} (h : Rd w g l)
    (HP : ∀ (r : List Int), r.length < l.length → d < 10 → ∀ w, Rd w g r → Calls Tryz.prog 38 #[.pointer (some ⟨g, 0, none⟩), .int .i64 ((d : Int) + 1)] w (PatV (d + 1) g r w)) :
    Calls Tryz.prog 38 #[.pointer (some ⟨g, 0, none⟩), .int .i64 (d : Int)] w (PatV d g l w) := by
  have hg := h.lt
  have HR1 := Lib.hid (RoomAt.start hg)
  have hR1 := Lib.hid (h.below ((Below.refl _ _).alloc (Nat.le_refl _) (.cells #[.int .i64 0, .slice none 0 0, .int .i64 0, .int .i64 0, .slice none 0 0] 27)))
  have hll := h.few
  have HPH := Lib.hid HP
  clear h HP
  go_enter Tryz.func38, Tryz.ntmps38
  go_wp2_with fail
  go_loopw [6] (fun vs wr => ∃ (q pc : Nat) (P : Option Addr) (xs : List NV) (A : Wood) (lr : List Int), vs = .slice P q pc ∧ q + lr.length ≤ l.length ∧
    Hid (wr.ownsRow (w.heap.size + 1) 27 5 (.slice P q pc) q (cellsN xs) ∧ NodesIn (Fr (w.heap.size + 1) (.slice P q pc)) wr xs A ∧ RoomAt g w wr ∧ Rd wr g lr ∧ ∀ st, st.length = d → runL l st .nil .nil false = runL lr st A .nil false)) (fun _ wr => leftR wr g)
  case atStart => exact ⟨0, 0, none, [], .nil, l, rfl, by omega, Lib.hid ⟨nilN _ _, trivial, HR1.out, hR1.out, fun st _ => rfl⟩⟩
  case round =>
    obtain ⟨q, pc, P, xs, A, lr, rfl, hql, H⟩ := hrel
    have HAl := Lib.hid (alternative_any F hd H.out.2.2.2.1 (fun c r hcr h10 w hw => HPH.out r (by rw [List.length_cons] at hcr; omega) h10 w hw))
    go_wp2_with (first
      | (go_at_call 60; (with_reducible refine HAl.out.mono ?_); rintro e w2 hv; rcases hv with ⟨x, rfl, hn, ho⟩ | ⟨x, T, l1, rfl, hN, hlen, hst, hrun, hr, ho⟩ <;> (have HR2 := Lib.hid (H.out.2.2.1.off hg ho); have HR3 := Lib.hid (HR2.out.alloc hg (.cells #[.int .i64 x.op, .slice x.A x.ns x.cs, .int .i64 x.mn, .int .i64 x.mx, .slice x.D x.nk x.ck] 27)); obtain ⟨q0, q1, q2, q3, q4, qf⟩ := HR3.out.facts; (first | (obtain ⟨P', pc', w4, ha, how, hnw, hbw⟩ := push_next hg H.out.1 H.out.2.1 H.out.2.2.1 ho hN (by omega); have HA := Lib.hid ha; have HW := Lib.hid (And.intro how (And.intro hnw hbw)); have HRR := Lib.hid (hr.keep hbw (Nat.lt_succ_of_lt hg)); have HR4 := Lib.hid (HR2.out.grown hg hbw); have HLN := Lib.hid (And.intro hlen (And.intro hst hrun)); clear ha how hnw hbw hr hrun hlen hst) | skip); clear ho; simp only [NV.val]))
      | (at_builtin; refine wpList_append_run rfl _ _ 25 rfl rfl _ _ _ _ rfl rfl HA.out ?_))
    · obtain ⟨z0, z1, z2, z3, z4, _⟩ := HR3.out.cells zeroNV
      simp only [put5, zeroNV] at z0 z1 z2 z3 z4
      (try simp only [Exit.inBlock, Exit.then])
      refine bodyPost_ret (v := .tuple #[zeroNV.val, .bool false]) ?_ rfl ?_
      · rw [results_cell_tmp rfl]; go_simp
        rfl
      · exact .inl ⟨_, rfl, fun st hst => (H.out.2.2.2.2 st hst).trans (hn st A hst), HR3.out.put hg zeroNV⟩
    · clear q0 q1 q2 q3 q4 qf
      obtain ⟨hlen, hst, hrun⟩ := HLN.out
      by_cases hbar : l1.headD (-1) = 124
      · rcases l1 with _ | ⟨y, l2⟩
        · cases hbar
        rw [List.headD_cons] at hbar
        subst hbar
        have HT := Lib.hid (take_yes HRR.out)
        have HLL := Lib.hid (And.intro hlen hrun)
        clear hlen hst hrun
        go_wp2_with (go_at_call 61; (with_reducible refine HT.out.mono ?_); rintro e w5 ⟨rfl, hr, ho⟩; have HO := Lib.hid (And.intro hr ho); clear hr ho)
        refine ⟨⟨q + 1, pc', P', xs ++ [x], A.app (oneN 4 T), l2, rfl, by have := HLL.out.1; rw [List.length_cons] at this; omega, Lib.hid ⟨own_off HW.out.1 (Nat.lt_succ_of_lt hg) HO.out.2, HW.out.2.1.move HO.out.2.1.size fun b hF hlt => ⟨hF, HO.out.2.2 b hlt (by have := hF.1; omega)⟩, HR4.out.off hg HO.out.2, HO.out.1, fun st hst => ?_⟩⟩, ?_⟩
        · rw [H.out.2.2.2.2 st hst, HLL.out.2 st A hst, runL_bar (tok_bar l2) rfl rfl]
        · rw [HO.out.1.left, H.out.2.2.2.1.left]
          have := HLL.out.1
          rw [List.length_cons] at this
          omega
      · have HT := Lib.hid (take_no HRR.out hbar)
        have HE := Lib.hid (show l1 = [] ∨ ∃ r, l1 = 41 :: r by
          rcases hst with h | ⟨r, rfl⟩ | h
          · exact .inl h
          · exact absurd rfl hbar
          · exact .inr h)
        have HLL := Lib.hid (And.intro hlen hrun)
        have HJ := Lib.hid (join_any 5 HW.out.1 HW.out.2.1 (by omega))
        clear hlen hst hrun hbar
        go_wp2_with (first
          | (go_at_call 61; (with_reducible refine HT.out.mono ?_); rintro e w5 ⟨rfl, rfl⟩)
          | (go_at_call 62; (with_reducible refine HJ.out.mono ?_); rintro e w6 ⟨v, rfl, hN, hb⟩; obtain ⟨x2, hv, hN2⟩ := hN.val; subst hv; have HR9 := Lib.hid (HR4.out.below hg hb); have HRd := Lib.hid (HRR.out.below hb); have HN := Lib.hid hN2; obtain ⟨q0, q1, q2, q3, q4, qf⟩ := HR9.out.facts; clear hN hN2 hb; simp only [NV.val]))
        obtain ⟨z0, z1, z2, z3, z4, _⟩ := HR9.out.cells x2
        simp only [put5] at z0 z1 z2 z3 z4
        (try simp only [Exit.inBlock, Exit.then])
        refine bodyPost_ret (v := .tuple #[x2.val, .bool true]) ?_ rfl ?_
        · rw [results_cell_tmp rfl]; go_simp
          rfl
        · refine .inr ⟨x2, _, l1, rfl, HR9.out.nodes x2 (HN.out.move (Nat.le_refl _) fun b hF _ => ⟨hF, rfl⟩), by have := HLL.out.1; omega, HE.out, fun st hst => ?_, HR9.out.rd hg HRd.out x2, HR9.out.put hg x2⟩
          rw [H.out.2.2.2.2 st hst, HLL.out.2 st A hst]
          exact shut_end HE.out
theorem pattern_any (F : FacesS) (g : Nat) : ∀ (N : Nat) (l : List Int), l.length < N → ∀ (d : Nat), d ≤ 10 → ∀ w, Rd w g l →
    Calls Tryz.prog 38 #[.pointer (some ⟨g, 0, none⟩), .int .i64 (d : Int)] w (PatV d g l w) := by
  intro N
  induction N with
  | zero => intro l h; omega
  | succ N ih =>
    intro l hl d hd w h
    refine pat_walk F hd h fun r hr h10 w' hw' => ?_
    have := ih r (by omega) (d + 1) (by omega) w' hw'
    rwa [show ((d + 1 : Nat) : Int) = (d : Int) + 1 by omega] at this
end Go.Proofs.YtaapbmdojkjphaaGreat
namespace Go.Proofs.YtaapbmdojkjphaaGreat
open Go Go.RowKit
set_option linter.unusedVariables false
set_option maxRecDepth 20000
def ParseV (s : ByteArray) (w : World) (e : Ending) (w' : World) : Prop :=
  Below w.heap.size w w' ∧ ((200 < s.size ∧ e = .returned (.tuple #[zeroNV.val, .int .i64 16])) ∨ (s.size ≤ 200 ∧ parseT s = none ∧ e = .returned (.tuple #[zeroNV.val, .int .i64 15])) ∨
    ∃ (x : NV) (n : Wood), s.size ≤ 200 ∧ parseT s = some n ∧ e = .returned (.tuple #[x.val, .int .i64 0]) ∧ NodesIn (fun b => w.heap.size ≤ b) w' [x] n)
def RoomB (w a : World) : Prop := Below w.heap.size w a ∧ w.heap.size < a.heap.size ∧ a.heap[w.heap.size]? = some (.cells #[.int .i64 0, .slice none 0 0, .int .i64 0, .int .i64 0, .slice none 0 0] 27 (0, 0))
section
variable {w a b : World}
theorem RoomB.lt (h : RoomB w a) : w.heap.size < a.heap.size := h.2.1
theorem RoomB.start (w : World) : RoomB w (w.alloc (.cells #[.int .i64 0, .slice none 0 0, .int .i64 0, .int .i64 0, .slice none 0 0] 27)) := ⟨(Below.refl _ _).alloc (Nat.le_refl _) _, by simp, heap_alloc_new w _⟩
theorem RoomB.next (h : RoomB w a) {B : Nat} (hb : Below B a b) (hB : w.heap.size < B) : RoomB w b := ⟨h.1.trans (hb.mono (Nat.le_of_lt hB)), Nat.lt_of_lt_of_le h.2.1 hb.size, (hb.block _ hB).trans h.2.2⟩
theorem RoomB.alloc (h : RoomB w a) (o : Obj) : RoomB w (a.alloc o) := h.next ((Below.refl _ _).alloc (Nat.le_refl _) o) h.2.1
theorem RoomB.put (h : RoomB w a) (v0 v1 v2 v3 v4 : Value) : Below w.heap.size w (put5 a w.heap.size v0 v1 v2 v3 v4) := h.1.trans (put5_below a (Nat.le_refl _) _ _ _ _ _)
theorem RoomB.facts (h : RoomB w a) : a.cell? ⟨w.heap.size, 0, none⟩ = some (.int .i64 0) ∧ a.cell? ⟨w.heap.size, 1, none⟩ = some (.slice none 0 0) ∧ a.cell? ⟨w.heap.size, 2, none⟩ = some (.int .i64 0) ∧ a.cell? ⟨w.heap.size, 3, none⟩ = some (.int .i64 0) ∧ a.cell? ⟨w.heap.size, 4, none⟩ = some (.slice none 0 0) ∧ ∀ j, a.frozen? ⟨w.heap.size, j, none⟩ = false := box_facts h.2.2
theorem RoomB.cells (h : RoomB w a) (v0 v1 v2 v3 v4 : Value) : (put5 a w.heap.size v0 v1 v2 v3 v4).cell? ⟨w.heap.size, 0, none⟩ = some v0 ∧ (put5 a w.heap.size v0 v1 v2 v3 v4).cell? ⟨w.heap.size, 1, none⟩ = some v1 ∧ (put5 a w.heap.size v0 v1 v2 v3 v4).cell? ⟨w.heap.size, 2, none⟩ = some v2 ∧ (put5 a w.heap.size v0 v1 v2 v3 v4).cell? ⟨w.heap.size, 3, none⟩ = some v3 ∧ (put5 a w.heap.size v0 v1 v2 v3 v4).cell? ⟨w.heap.size, 4, none⟩ = some v4 ∧ ∀ j, (put5 a w.heap.size v0 v1 v2 v3 v4).frozen? ⟨w.heap.size, j, none⟩ = false := box_facts (put5_heap h.2.2 _ _ _ _ _)
end
set_option maxHeartbeats 2000000 in
theorem parse_big (s : ByteArray) (w : World) (hs : 200 < s.size) :
    Calls Tryz.prog 19 #[.string s] w (ParseV s w) := by
  have HR := Lib.hid (RoomB.start w)
  have h2 : (200 : Int) < (s.size : Int) := by omega
  go_enter Tryz.func19, Tryz.ntmps19
  go_wp2
  (try simp only [Exit.inBlock, Exit.then])
  refine bodyPost_ret (v := .tuple #[zeroNV.val, .int .i64 16]) ?_ rfl ?_
  · rw [results_cell_tmp rfl]; go_simp
    rfl
  · exact ⟨HR.out.1, .inl ⟨hs, rfl⟩⟩
set_option maxHeartbeats 2000000 in
theorem parse_octets (s : ByteArray) (w : World) (hs : s.size ≤ 200) (hp : pointsL (nums s) = none) :
    Calls Tryz.prog 19 #[.string s] w (ParseV s w) := by
  have HR1 := Lib.hid (RoomB.start w)
  have h2 : ¬ (200 : Int) < (s.size : Int) := by omega
  have HD := Lib.hid fun w => show Calls Tryz.prog 37 #[.string s] w fun e w' => e = .returned (.tuple #[.slice none 0 0, .bool false]) ∧ Below w.heap.size w w' from (decode_any s w hs).mono fun e w' hv => by
    obtain ⟨hb, ⟨he, _⟩ | ⟨P, q, pc, xs, he, hx, ho⟩⟩ := hv
    · exact ⟨he, hb⟩
    · rw [hp] at hx; cases hx
  have HP := Lib.hid hp
  clear hp
  go_enter Tryz.func19, Tryz.ntmps19
  go_wp2_with (go_at_call 37; (with_reducible refine (HD.out _).mono ?_); rintro e w2 ⟨rfl, hb⟩; have HR2 := Lib.hid (HR1.out.next hb HR1.out.2.1); obtain ⟨q0, q1, q2, q3, q4, qf⟩ := HR2.out.facts; clear hb)
  obtain ⟨z0, z1, z2, z3, z4, _⟩ := HR2.out.cells (.int .i64 0) (.slice none 0 0) (.int .i64 0) (.int .i64 0) (.slice none 0 0)
  simp only [put5] at z0 z1 z2 z3 z4
  (try simp only [Exit.inBlock, Exit.then])
  refine bodyPost_ret (v := .tuple #[zeroNV.val, .int .i64 15]) ?_ rfl ?_
  · rw [results_cell_tmp rfl]; go_simp
    rfl
  · exact ⟨HR2.out.put _ _ _ _ _, .inr (.inl ⟨hs, by unfold parseT; rw [HP.out]; rfl, rfl⟩)⟩
theorem reader_pat (F : FacesS) {l : List Int} {w2 : World} {B : Nat} {P : Option Addr} {q pc : Nat} (hpt : ∀ x ∈ l, 0 ≤ x ∧ x ≤ 1114111) (hll : l.length ≤ 200) (ho : w2.ownsRow B 3 1 (.slice P q pc) q (l.map (.int .i64))) {k : Nat} (hk : k < w2.heap.size) :
    Calls Tryz.prog 38 #[.pointer (some ⟨w2.heap.size, 0, none⟩), .int .i64 0] (w2.alloc (.cells #[.slice P q pc] 82)) (PatV 0 w2.heap.size l (w2.alloc (.cells #[.slice P q pc] 82))) := by
  obtain ⟨hrow, h1, h2, h3, h4⟩ := ownI_row ho
  have hq : q ≤ 1000 := by have := hrow.1; omega
  refine pattern_any F w2.heap.size (l.length + 1) l (Nat.lt_succ_self _) 0 (by omega) _ ⟨P, q, pc, heap_alloc_new w2 _, hrow.alloc _, ⟨h1, h2⟩, hq, fun a ha => ?_, h3, hpt⟩
  rcases ho.2 with ⟨e, _⟩ | ⟨g, cap, cur, e, _, hg, _⟩
  · injection e with e _ _; rw [ha] at e; cases e
  · injection e with e _ _
    rw [ha] at e
    injection e with e
    subst e
    exact (Array.getElem?_eq_some_iff.1 hg).1
set_option maxHeartbeats 4000000 in
theorem parse_points (F : FacesS) (s : ByteArray) (w : World) (hs : s.size ≤ 200) {l : List Int} (hp : pointsL (nums s) = some l) :
    Calls Tryz.prog 19 #[.string s] w (ParseV s w) := by
  have HR1 := Lib.hid (RoomB.start w)
  have h2 : ¬ (200 : Int) < (s.size : Int) := by omega
  have hll : l.length ≤ 200 := by have := pointsL_len _ _ _ (Nat.le_refl _) hp; rw [nums_length] at this; omega
  have HD := Lib.hid fun w => show Calls Tryz.prog 37 #[.string s] w fun e w' => ∃ P q pc, e = .returned (.tuple #[.slice P q pc, .bool true]) ∧ w'.ownsRow w.heap.size 3 1 (.slice P q pc) q (l.map (.int .i64)) ∧ Below w.heap.size w w' from (decode_any s w hs).mono fun e w' hv => by
    obtain ⟨hb, ⟨_, hn⟩ | ⟨P, q, pc, xs, he, hx, ho⟩⟩ := hv
    · rw [hp] at hn; cases hn
    · rw [hp] at hx; injection hx with hx; subst hx
      exact ⟨P, q, pc, he, ho, hb⟩
  have HP := Lib.hid (And.intro hp (pointsL_is hp))
  clear hp
  go_enter Tryz.func19, Tryz.ntmps19
  go_wp2_with (first
    | (go_at_call 37; (with_reducible refine (HD.out _).mono ?_); rintro e w2 ⟨P, q, pc, rfl, ho, hb⟩; have HR2 := Lib.hid (HR1.out.next hb HR1.out.2.1); have HO := Lib.hid ho; clear ho hb)
    | (go_at_call 38; (with_reducible refine (reader_pat F HP.out.2 hll HO.out HR2.out.lt).mono ?_); rintro e w4 hv; rcases hv with ⟨x, rfl, hn, ho⟩ | ⟨x, n, l', rfl, hN, hlen, rfl | ⟨r, rfl⟩, hrun, ⟨A', n', c', hrd⟩, ho⟩ <;> (have HR4 := Lib.hid ((HR2.out.alloc (.cells #[.slice P q pc] 82)).next ho.1 HR2.out.2.1); have HR5 := Lib.hid (HR4.out.alloc (.cells #[.int .i64 x.op, .slice x.A x.ns x.cs, .int .i64 x.mn, .int .i64 x.mx, .slice x.D x.nk x.ck] 27)); obtain ⟨q0, q1, q2, q3, q4, qf⟩ := HR5.out.facts; (first | (have hn0 : n' = 0 := by simpa using hrd.row.1.symm); subst hn0; have c0 := (hrd.below ((Below.refl _ _).alloc (Nat.le_refl _) (.cells #[.int .i64 x.op, .slice x.A x.ns x.cs, .int .i64 x.mn, .int .i64 x.mx, .slice x.D x.nk x.ck] 27))).c0; have HH := Lib.hid (And.intro hN (And.intro hrun ho)); clear hN hrun ho hrd hlen | (have hn1 : (0 : Int) < (n' : Int) := by have := hrd.row.1; rw [List.length_cons] at this; omega); have c0 := (hrd.below ((Below.refl _ _).alloc (Nat.le_refl _) (.cells #[.int .i64 x.op, .slice x.A x.ns x.cs, .int .i64 x.mn, .int .i64 x.mx, .slice x.D x.nk x.ck] 27))).c0; have HH := Lib.hid (And.intro hN (And.intro hrun ho)); clear hN hrun ho hrd hlen | (clear ho)); simp only [NV.val])))
  · obtain ⟨z0, z1, z2, z3, z4, _⟩ := HR5.out.cells (.int .i64 0) (.slice none 0 0) (.int .i64 0) (.int .i64 0) (.slice none 0 0)
    simp only [put5] at z0 z1 z2 z3 z4
    (try simp only [Exit.inBlock, Exit.then])
    refine bodyPost_ret (v := .tuple #[zeroNV.val, .int .i64 15]) ?_ rfl ?_
    · rw [results_cell_tmp rfl]; go_simp
      rfl
    · exact ⟨HR5.out.put _ _ _ _ _, .inr (.inl ⟨hs, by unfold parseT; rw [HP.out.1]; exact hn [] rfl, rfl⟩)⟩
  ·
    focus
      obtain ⟨z0, z1, z2, z3, z4, _⟩ := HR5.out.cells (.int .i64 x.op) (.slice x.A x.ns x.cs) (.int .i64 x.mn) (.int .i64 x.mx) (.slice x.D x.nk x.ck)
      simp only [put5] at z0 z1 z2 z3 z4
      (try simp only [Exit.inBlock, Exit.then])
      refine bodyPost_ret (v := .tuple #[x.val, .int .i64 0]) ?_ rfl ?_
      · rw [results_cell_tmp rfl]; go_simp
        rfl
      · refine ⟨HR5.out.put _ _ _ _ _, .inr (.inr ⟨x, n, hs, ?_, rfl, ?_⟩)⟩
        · unfold parseT
          rw [HP.out.1]
          exact HH.out.2.1 [] rfl
        · refine HH.out.1.move (F' := fun b => w.heap.size ≤ b) (by simp) fun b hF hlt => ?_
          have hF : (w2.alloc (.cells #[.slice P q pc] 82)).heap.size ≤ b := hF
          have hsz : (w2.alloc (.cells #[.slice P q pc] 82)).heap.size = w2.heap.size + 1 := by simp
          have h1 := HR2.out.2.1
          exact ⟨by omega, (put5_other _ (by omega) _ _ _ _ _).trans (Below.heap_alloc _ _ _ hlt)⟩
  ·
    focus
      obtain ⟨z0, z1, z2, z3, z4, _⟩ := HR5.out.cells (.int .i64 0) (.slice none 0 0) (.int .i64 0) (.int .i64 0) (.slice none 0 0)
      simp only [put5] at z0 z1 z2 z3 z4
      (try simp only [Exit.inBlock, Exit.then])
      refine bodyPost_ret (v := .tuple #[zeroNV.val, .int .i64 15]) ?_ rfl ?_
      · rw [results_cell_tmp rfl]; go_simp
        rfl
      · refine ⟨HR5.out.put _ _ _ _ _, .inr (.inl ⟨hs, ?_, rfl⟩)⟩
        unfold parseT
        rw [HP.out.1]
        exact HH.out.2.1 [] rfl
theorem parse_any (F : FacesS) (s : ByteArray) (w : World) : Calls Tryz.prog 19 #[.string s] w (ParseV s w) := by
  by_cases hs : 200 < s.size
  · exact parse_big s w hs
  · rcases hp : pointsL (nums s) with _ | l
    · exact parse_octets s w (by omega) hp
    · exact parse_points F s w (by omega) hp
end Go.Proofs.YtaapbmdojkjphaaGreat
namespace Go.Proofs.YtaapbmdojkjphaaGreat
open Go Go.RowKit
set_option linter.unusedVariables false
set_option maxHeartbeats 1000000 in
theorem clip_any (s : List (Int × Int)) (A : Option Addr) (n c : Nat) (W : World) (hin : RowG W A n s) (hn : n ≤ 2000000) :
    Calls Tryz.prog 127 #[.slice A n c] W fun e w' => ∃ P q pc, e = .returned (.slice P q pc) ∧ w'.ownsRow W.heap.size 74 2 (.slice P q pc) q (cellsG (clipL s)) ∧ Below W.heap.size W w' := by
  have HR := Lib.hid hin; clear hin
  go_enter Tryz.func127, Tryz.ntmps127
  go_wp2
  go_loopw [3, 9] (fun vo vi wr => ∃ (k q pc : Nat) (P : Option Addr), vo = .slice P q pc ∧ vi = .int .i64 (k : Int) ∧ k ≤ n ∧ q ≤ k ∧ Hid (wr.ownsRow W.heap.size 74 2 (.slice P q pc) q (cellsG (clipL (s.take k))) ∧ Below W.heap.size W wr)) (fun _ vi _ => n - (intOf vi).toNat)
  case atStart =>
    exact ⟨0, 0, 0, none, rfl, rfl, Nat.zero_le _, Nat.le_refl _, Lib.hid ⟨nilG W _, Below.refl _ _⟩⟩
  case round =>
    obtain ⟨k, q, pc, P, rfl, rfl, hk, hq, HO⟩ := hrel
    by_cases hlt : k < n
    · obtain ⟨b, o, rfl, hbw, hc⟩ := HR.out.2 (by omega)
      obtain ⟨c0, c1⟩ := hc k hlt
      have d0 := (HO.out.2.cell (p := ⟨b, o + k * 2, none⟩) hbw).trans c0
      have d1 := (HO.out.2.cell (p := ⟨b, o + k * 2 + 1, none⟩) hbw).trans c1
      have hts := take_snoc (t := s) (k := k) (by have := HR.out.1; omega)
      obtain ⟨p, hp⟩ : ∃ p, p = s.getD k (0, 0) := ⟨_, rfl⟩
      rw [← hp] at d0 d1 hts
      obtain ⟨x, y⟩ := p
      have hcs := clipL_snoc (s.take k) (x, y)
      rw [← hts] at hcs
      clear hc c0 c1 hp hts
      dsimp only at d0 d1 hcs
      by_cases hxy : max x 0 ≤ min y 1114111
      · rw [if_pos hxy] at hcs
        have hb1 : Below wr.heap.size wr ((wr.alloc (.cells #[.int .i64 x, .int .i64 y] 74)).alloc (.cells #[.int .i64 (max x 0), .int .i64 (min y 1114111)] 74)) := ((Below.refl _ _).alloc (Nat.le_refl _) _).alloc (by simp) _
        obtain ⟨P', pc', w', happ, hown, hbel⟩ := push_rngs (ownG_kept HO.out.1 hb1) [(max x 0, min y 1114111)] (by omega) (by simp) (then_ HO.out.2 hb1)
        rw [show ((wr.alloc (.cells #[.int .i64 x, .int .i64 y] 74)).alloc (.cells #[.int .i64 (max x 0), .int .i64 (min y 1114111)] 74)).heap.size = wr.heap.size + 1 + 1 by simp] at happ
        rw [← hcs] at hown
        have HA := Lib.hid happ
        have H2 := Lib.hid (And.intro hown hbel)
        clear happ hown hbel hb1 hcs
        go_wp2_with (at_builtin; refine wpList_append_run rfl _ _ 24 rfl rfl _ _ _ _ rfl rfl HA.out ?_)
        exact ⟨⟨k + 1, q + 1, pc', P', rfl, by go_num, by omega, by omega, H2⟩, by simp [intOf]; omega⟩
      · rw [if_neg hxy, List.append_nil] at hcs
        have H2 := Lib.hid (And.intro (hcs ▸ ownG_kept HO.out.1 (((Below.refl _ wr).alloc (Nat.le_refl _) (.cells #[.int .i64 x, .int .i64 y] 74)).alloc (by simp) (.cells #[.int .i64 (max x 0), .int .i64 (min y 1114111)] 74))) (HO.out.2.trans (Below.mono (((Below.refl _ wr).alloc (Nat.le_refl _) (.cells #[.int .i64 x, .int .i64 y] 74)).alloc (by simp) (.cells #[.int .i64 (max x 0), .int .i64 (min y 1114111)] 74)) HO.out.2.size)))
        clear hcs
        go_wp2
        exact ⟨⟨k + 1, q, pc, P, rfl, by go_num, by omega, by omega, H2⟩, by simp [intOf]; omega⟩
    · have hkn : k = n := by omega
      subst hkn
      have hts : s.take k = s := List.take_of_length_le (by have := HR.out.1; omega)
      go_wp2
      go_ret
      rw [hts] at HO
      exact ⟨P, q, pc, rfl, HO.out.1, HO.out.2⟩
end Go.Proofs.YtaapbmdojkjphaaGreat
namespace Go.Proofs
open Go.Shelf
def Tryz.sortG_ren : Go.Shelf.Ren := ⟨fun | 6 => 128 | 15 => 149 | 14 => 148 | 28 => 164 | 29 => 165 | 20 => 156 | 21 => 157 | 22 => 158 | 23 => 159 | 24 => 160 | 25 => 161 | 26 => 162 | 27 => 163 | 46 => 167 | 47 => 168 | 48 => 169 | 49 => 170 | 50 => 171 | 57 => 172 | n => n, fun | 22 => 24 | 24 => 74 | 25 => 165 | 3 => 3 | 39 => 123 | 0 => 0 | 53 => 169 | 55 => 172 | 4 => 4 | 46 => 188 | 45 => 187 | 50 => 103 | 5 => 5 | 9 => 9 | 66 => 195 | 70 => 199 | 76 => 201 | 77 => 43 | n => n, fun | n => n⟩
theorem Tryz.sortG : Go.Proofs.SlLaysF0.n6 Tryz.prog Tryz.sortG_ren := {
  mixed := by kernel_rfl
  f6 := ⟨Tryz.f128.name, by kernel_rfl, Tryz.func128.trans (congrArg some (by kernel_rfl))⟩
  f14 := ⟨Tryz.f148.name, by kernel_rfl, Tryz.func148.trans (congrArg some (by kernel_rfl))⟩
  f15 := Tryz.func149.trans (congrArg some (by kernel_rfl))
  f20 := ⟨Tryz.f156.name, by kernel_rfl, Tryz.func156.trans (congrArg some (by kernel_rfl))⟩
  f21 := ⟨Tryz.f157.name, by kernel_rfl, Tryz.func157.trans (congrArg some (by kernel_rfl))⟩
  f22 := ⟨Tryz.f158.name, by kernel_rfl, Tryz.func158.trans (congrArg some (by kernel_rfl))⟩
  f23 := ⟨Tryz.f159.name, by kernel_rfl, Tryz.func159.trans (congrArg some (by kernel_rfl))⟩
  f24 := ⟨Tryz.f160.name, by kernel_rfl, Tryz.func160.trans (congrArg some (by kernel_rfl))⟩
  f25 := ⟨Tryz.f161.name, by kernel_rfl, Tryz.func161.trans (congrArg some (by kernel_rfl))⟩
  f26 := ⟨Tryz.f162.name, by kernel_rfl, Tryz.func162.trans (congrArg some (by kernel_rfl))⟩
  f27 := ⟨Tryz.f163.name, by kernel_rfl, Tryz.func163.trans (congrArg some (by kernel_rfl))⟩
  f28 := Tryz.func164.trans (congrArg some (by kernel_rfl))
  f29 := Tryz.func165.trans (congrArg some (by kernel_rfl))
  f46 := ⟨Tryz.f167.name, by kernel_rfl, Tryz.func167.trans (congrArg some (by kernel_rfl))⟩
  f47 := Tryz.func168.trans (congrArg some (by kernel_rfl))
  f48 := Tryz.func169.trans (congrArg some (by kernel_rfl))
  f49 := ⟨Tryz.f170.name, by kernel_rfl, Tryz.func170.trans (congrArg some (by kernel_rfl))⟩
  f50 := ⟨Tryz.f171.name, by kernel_rfl, Tryz.func171.trans (congrArg some (by kernel_rfl))⟩
  f57 := ⟨Tryz.f172.name, by kernel_rfl, Tryz.func172.trans (congrArg some (by kernel_rfl))⟩
  t0 := Tryz.underlying0
  a0 := Tryz.isAgg0
  z0 := Tryz.sizeOf0
  v0 := Tryz.zeroValue0
  t3 := Tryz.underlying3
  a3 := Tryz.isAgg3
  z3 := Tryz.sizeOf3
  v3 := Tryz.zeroValue3
  t4 := Tryz.underlying4
  a4 := Tryz.isAgg4
  z4 := Tryz.sizeOf4
  v4 := Tryz.zeroValue4
  t5 := Tryz.underlying5
  a5 := Tryz.isAgg5
  z5 := Tryz.sizeOf5
  v5 := Tryz.zeroValue5
  t9 := Tryz.underlying9
  a9 := Tryz.isAgg9
  z9 := Tryz.sizeOf9
  v9 := Tryz.zeroValue9
  t22 := Tryz.underlying24
  a22 := Tryz.isAgg24
  z22 := Tryz.sizeOf24
  v22 := Tryz.zeroValue24
  t25 := Tryz.underlying165
  a25 := Tryz.isAgg165
  z25 := Tryz.sizeOf165
  v25 := Tryz.zeroValue165
  t39 := Tryz.underlying123
  a39 := Tryz.isAgg123
  z39 := Tryz.sizeOf123
  v39 := Tryz.zeroValue123
  t45 := Tryz.underlying187
  a45 := Tryz.isAgg187
  z45 := Tryz.sizeOf187
  v45 := Tryz.zeroValue187
  t46 := Tryz.underlying188
  a46 := Tryz.isAgg188
  z46 := Tryz.sizeOf188
  v46 := Tryz.zeroValue188
  t50 := Tryz.underlying103
  a50 := Tryz.isAgg103
  z50 := Tryz.sizeOf103
  v50 := Tryz.zeroValue103
  t53 := Tryz.underlying169
  a53 := Tryz.isAgg169
  z53 := Tryz.sizeOf169
  v53 := Tryz.zeroValue169
  t55 := Tryz.underlying172
  a55 := Tryz.isAgg172
  z55 := Tryz.sizeOf172
  v55 := Tryz.zeroValue172
  t66 := Tryz.underlying195
  a66 := Tryz.isAgg195
  z66 := Tryz.sizeOf195
  v66 := Tryz.zeroValue195
  t70 := Tryz.underlying199
  a70 := Tryz.isAgg199
  z70 := Tryz.sizeOf199
  v70 := Tryz.zeroValue199
  t76 := Tryz.underlying201
  a76 := Tryz.isAgg201
  z76 := Tryz.sizeOf201
  v76 := Tryz.zeroValue201
  t77 := Tryz.underlying43
  a77 := Tryz.isAgg43
  z77 := Tryz.sizeOf43
  v77 := Tryz.zeroValue43 }
end Go.Proofs
namespace Go.Proofs.YtaapbmdojkjphaaGreat
open Go Go.RowKit
set_option linter.unusedVariables false
def encG (p : Int × Int) : List Value := [.int .i64 p.1, .int .i64 p.2]
def cfG (x y : Int × Int) : Int := if x.1 < y.1 then -1 else if y.1 < x.1 then 1 else 0
theorem ltG (x y : Int × Int) : ltOf cfG x y = decide (x.1 < y.1) := by
  unfold ltOf cfG
  apply decide_eq_decide.2
  split
  · omega
  · split <;> omega
theorem swoG : Go.Sort.SWO (ltOf cfG) where
  irrefl x := by rw [ltG]; exact decide_eq_false (by omega)
  trans x y z h1 h2 := by
    rw [ltG, decide_eq_true_eq] at *
    omega
  ntrans x y z h1 h2 := by
    rw [ltG, decide_eq_false_iff_not] at *
    omega
theorem compare_any (x y : Int × Int) (W : World) :
    Calls Tryz.prog 130 #[.int .i64 x.1, .int .i64 y.1] W fun e w' => e = .returned (.int .i64 (cfG x y)) ∧ w' = W := by
  obtain ⟨a, a'⟩ := x
  obtain ⟨b, b'⟩ := y
  go_enter Tryz.func130, Tryz.ntmps130
  by_cases h1 : a < b
  · have HF : Hid (cfG (a, a') (b, b') = -1) := Lib.hid (if_pos h1)
    go_wp2
    go_ret
    rw [HF.out]
    exact ⟨rfl, rfl⟩
  · by_cases h2 : b < a
    · have HF : Hid (cfG (a, a') (b, b') = 1) := Lib.hid (by unfold cfG; rw [if_neg h1, if_pos h2])
      have h3 : a > b := h2
      go_wp2
      go_ret
      rw [HF.out]
      exact ⟨rfl, rfl⟩
    · have HF : Hid (cfG (a, a') (b, b') = 0) := Lib.hid (by unfold cfG; rw [if_neg h1, if_neg h2])
      have h3 : ¬ a > b := h2
      go_wp2
      go_ret
      rw [HF.out]
      exact ⟨rfl, rfl⟩
theorem closure_any (x y : Int × Int) (W : World) :
    Calls Tryz.prog 129 #[.agg #[.int .i64 x.1, .int .i64 x.2], .agg #[.int .i64 y.1, .int .i64 y.2]] W fun e w' => e = .returned (.int .i64 (cfG x y)) ∧ ∃ q os', w' = Go.Sort.grow (W.drewN q) os' := by
  have HC := Lib.hid fun W' => compare_any x y W'
  go_enter Tryz.func129, Tryz.ntmps129
  go_wp2_with (go_at_call 130; refine (HC.out _).mono ?_; rintro e w' ⟨rfl, rfl⟩)
  go_ret
  exact ⟨rfl, 0, _, by rw [Go.Sort.alloc_eq_grow, Go.Sort.alloc_eq_grow, Go.Sort.grow_grow]; rfl⟩
theorem cmpLays_any (blk off size : Nat) (w : World) : CmpLays Tryz.prog 129 #[] encG 2 cfG blk off size w := fun _ _ _ _ x y => closure_any x y _
theorem flatG (s : List (Int × Int)) : Go.Sort.flatK encG 2 s.toArray = (cellsG s).toArray := by
  apply Array.ext
  · simp [cellsG_length]
  · intro t h1 h2
    have ht : t < s.length * 2 := by simpa using h1
    have e1 := Go.Sort.get_flatK encG 2 s.toArray t (by simpa using ht)
    rw [getElem!_pos _ t h1] at e1
    rw [e1]
    obtain ⟨c0, c1⟩ := cellsG_at s (t / 2) (by omega)
    have hg : s.toArray[t / 2]! = s.getD (t / 2) (0, 0) := by
      rw [getElem!_pos _ (t / 2) (by simp; omega)]
      simp [List.getD, List.getElem?_eq_getElem (show t / 2 < s.length by omega)]
    rw [hg]
    have h3 : (cellsG s).toArray[t] = (cellsG s)[t]'(by simpa using h2) := by simp
    rw [h3]
    rcases Nat.mod_two_eq_zero_or_one t with hm | hm
    · have e : t / 2 * 2 = t := by omega
      rw [e, List.getElem?_eq_getElem (by simpa using h2)] at c0
      injection c0 with c0
      rw [c0, hm]
      rfl
    · have e : t / 2 * 2 + 1 = t := by omega
      rw [e, List.getElem?_eq_getElem (by simpa using h2)] at c1
      injection c1 with c1
      rw [c1, hm]
      rfl
set_option maxHeartbeats 1000000 in
theorem sort_any {B : Nat} {P : Option Addr} {q pc : Nat} {s : List (Int × Int)} {w : World} (h : w.ownsRow B 74 2 (.slice P q pc) q (cellsG s)) (hq : q ≤ 3000000) :
    Calls Tryz.prog 128 #[.slice P q pc, .func (.func 129) #[] #[]] w fun e w' => e = .returned (.tuple #[]) ∧ ∃ t : List (Int × Int), t.Perm s ∧ (t.Pairwise fun a b => a.1 ≤ b.1) ∧ RowG w' P q t ∧ Below B w w' := by
  have hl : s.length = q := by have := h.1; rw [cellsG_length] at this; omega
  rcases h.2 with ⟨e, rfl⟩ | ⟨g, cap, cur, e, hB, hg, hnc, hcm, hcs, ht⟩
  · injection e with e1 e2 e3
    subst e1; subst e3
    have hs : s = [] := List.eq_nil_of_length_eq_zero hl
    subst hs
    have hc := AnyF.slices_SortFunc_none (P := Tryz.prog) Tryz.sortG none 0 (.func (.func 129) #[] #[]) w
    change Calls Tryz.prog 128 _ _ _ at hc
    refine hc.mono ?_
    rintro e w' ⟨rfl, rfl⟩
    exact ⟨rfl, [], List.Perm.refl _, List.Pairwise.nil, ⟨rfl, fun h => absurd h (by omega)⟩, Below.refl _ _⟩
  · injection e with e1 e2 e3
    subst e1; subst e3
    have hH : Go.Sort.HoldsK encG 2 w g 0 s.toArray := by
      unfold Go.Sort.HoldsK
      rw [flatG]
      intro j hj
      have hj' : j < q * 2 := by simpa [cellsG_length, hl] using hj
      refine ⟨?_, by simp [World.frozen?, hg]⟩
      rw [cell_of_row w g (0 + j) cur 74 (0, 0) hg, Nat.zero_add, ← Array.getElem?_toList, ← List.getElem?_take_of_lt hj', ht, getElem!_pos _ j hj]
      simp
    have eg : ∀ args w, (callFunc 129 args).run Tryz.prog w = .ok (.enter 129 args) w := enters_of Tryz.func129 (by kernel_rfl) rfl
    have hlt := (Array.getElem?_eq_some_iff.1 hg).1
    have hc := AnyQ.slices_SortFunc (P := Tryz.prog) Tryz.sortG 2 Tryz.isAgg74 Tryz.sizeOf74 encG (fun _ => rfl) (fun x v hv => by simp [encG] at hv; rcases hv with rfl | rfl <;> rfl) cfG swoG 129 #[] g 0 pc s.toArray w eg (cmpLays_any g 0 _ w) hH hlt (by simp; omega)
    change Calls Tryz.prog 128 _ _ _ at hc
    rw [show s.toArray.size = q by simpa using hl] at hc
    refine hc.mono ?_
    rintro e w' ⟨rfl, d', m, os, hp, hs, hw⟩
    have hsz : d'.size = q := by have := hp.1; simpa [hl] using this
    have hH2 : Go.Sort.HoldsK encG 2 w' g 0 d' := by
      rw [hw]
      exact holdsK_sortWorldK_c encG 2 w g 0 s.toArray d' m os hH hlt (by simpa [hl] using hsz)
    refine ⟨rfl, d'.toList, ?_, ?_, ⟨by simpa using hsz, fun hn => ⟨g, 0, rfl, ?_, fun j hj => ?_⟩⟩, ?_⟩
    · have := hp.2.2
      rw [show d'.extract 0 q = d' by rw [← hsz]; simp, show s.toArray.extract 0 q = s.toArray by rw [← hl]; simp] at this
      simpa using this
    · rw [List.pairwise_iff_getElem]
      intro i j hi hj hij
      have hi' : i < d'.size := by simpa using hi
      have hj' : j < d'.size := by simpa using hj
      have := hs i j (Nat.zero_le _) hij (by omega)
      rw [ltG, getElem!_pos _ j hj', getElem!_pos _ i hi', decide_eq_false_iff_not] at this
      simp only [Array.getElem_toList]
      omega
    · rw [hw]
      exact Nat.lt_of_lt_of_le hlt (size_sortWorldK_c encG 2 w g 0 m d' os)
    · have k0 := (hH2.cell (i := j) (c := 0) (by omega) (by omega)).1
      have k1 := (hH2.cell (i := j) (c := 1) (by omega) (by omega)).1
      have hd : d'[j]! = d'.toList.getD j (0, 0) := by
        rw [getElem!_pos _ j (by omega)]
        simp [List.getD, Array.getElem?_eq_getElem (show j < d'.size by omega)]
      rw [hd] at k0 k1
      exact ⟨k0, k1⟩
    · rw [hw]
      refine ⟨rfl, rfl, rfl, size_sortWorldK_c encG 2 w g 0 m d' os, fun k hk => ?_⟩
      have hkg : k ≠ g := by omega
      have hkw : k < w.heap.size := by omega
      unfold sortWorldK
      rw [Go.Sort.heap_grow_old _ _ (by rw [Go.Sort.size_putRowK]; exact hkw)]
      unfold Go.Sort.putRowK Go.Sort.putRow Go.Sort.mapBlock
      simp only [Array.getElem?_modify]
      rw [if_neg (Ne.symm hkg)]
      rfl
end Go.Proofs.YtaapbmdojkjphaaGreat
namespace Go.Proofs.YtaapbmdojkjphaaGreat
open Go Go.RowKit
set_option linter.unusedVariables false
set_option maxHeartbeats 4000000 in
theorem of_any (s : List (Int × Int)) (A : Option Addr) (n c : Nat) (W : World) (hin : RowG W A n s) (hn : n ≤ 2000000) :
    Calls Tryz.prog 107 #[.slice A n c] W fun e w' => ∃ V t, e = .returned V ∧ OutG W w' V t ∧ Canon t ∧ ∀ r, hasL t r = hasL s r := by
  have HC := Lib.hid (clip_any s A n c W hin hn)
  have HSL := Lib.hid hin.1
  clear hin
  go_enter Tryz.func107, Tryz.ntmps107
  go_wp2_with (first
    | (go_at_call 127; refine HC.out.mono ?_; rintro e w1 ⟨P, q, pc, rfl, hown, hb1⟩; have HQ := Lib.hid (show q = (clipL s).length by { have := hown.1; rw [cellsG_length] at this; omega }); have hqn : q ≤ 2000000 := by { have := clipL_length s; have := HQ.out; have := HSL.out; omega }; have HB1 := Lib.hid hb1; have HS := Lib.hid (sort_any hown (by omega)); clear hown hb1)
    | (go_at_call 128; refine HS.out.mono ?_; rintro e w2 ⟨rfl, t, hperm, hsort, hrow, hb2⟩; have hwf : ∀ p ∈ t, 0 ≤ p.1 ∧ p.1 ≤ p.2 ∧ p.2 ≤ 1114111 := (fun p hp => clipL_mem (hperm.mem_iff.1 hp)); have HT := Lib.hid (And.intro hrow (And.intro hsort (And.intro hwf (show ∀ r, hasL t r = hasL s r from fun r => (hasL_perm hperm r).trans (clipL_has s r))))); have HB2 := Lib.hid (HB1.out.trans (hb2.mono (Nat.le_refl _))); clear hperm hsort hrow hb2 hwf))
  go_loopw [4, 14] (fun vo vi wr => ∃ (k m pc2 : Nat) (P2 : Option Addr) (u : List (Int × Int)), vo = .slice P2 m pc2 ∧ vi = .int .i64 (k : Int) ∧ k ≤ q ∧ m ≤ k ∧ Hid (wr.ownsRow w2.heap.size 74 2 (.slice P2 m pc2) m (cellsG u) ∧ Below w2.heap.size w2 wr ∧ Half t k u)) (fun _ vi _ => q - (intOf vi).toNat)
  case atStart => exact ⟨0, 0, 0, none, [], rfl, rfl, Nat.zero_le _, Nat.le_refl _, Lib.hid ⟨nilG _ _, Below.refl _ _, half_zero t⟩⟩
  case round =>
    obtain ⟨k, m, pc2, P2, u, rfl, rfl, hk, hm, HO⟩ := hrel
    by_cases hlt : k < q
    · obtain ⟨b, o, rfl, hbw, hc⟩ := HT.out.1.2 (by omega)
      obtain ⟨c0, c1⟩ := hc k hlt
      have d0 := (HO.out.2.1.cell (p := ⟨b, o + k * 2, none⟩) hbw).trans c0
      have d1 := (HO.out.2.1.cell (p := ⟨b, o + k * 2 + 1, none⟩) hbw).trans c1
      have hkt : k < t.length := by have := HT.out.1.1; omega
      obtain ⟨p, hp⟩ : ∃ p, p = t.getD k (0, 0) := ⟨_, rfl⟩
      rw [← hp] at d0 d1
      obtain ⟨x, y⟩ := p
      have HP := Lib.hid hp
      have hal := (Below.refl wr.heap.size wr).alloc (Nat.le_refl _) (.cells #[.int .i64 x, .int .i64 y] 74)
      have HKT := Lib.hid hkt
      clear hc c0 c1 hp hkt
      dsimp only at d0 d1
      rcases List.eq_nil_or_concat u with rfl | ⟨v, ⟨z0, z⟩, rfl⟩
      · have hm0 : m = 0 := by have := HO.out.1.1; simp [cellsG] at this; omega
        subst hm0
        have HAL := Lib.hid hal
        clear hal
        go_wp2
        go_quiet (fail)
        have hb3 : Below wr.heap.size wr ((wr.alloc (.cells #[.int .i64 x, .int .i64 y] 74)).drewN nq) := below_drewN HAL.out nq
        obtain ⟨P', pc', w', happ, hown, hbel⟩ := push_rngs (ownG_kept HO.out.1 hb3) [(x, y)] (by omega) (by simp) (then_ HO.out.2.1 hb3)
        rw [show ((wr.alloc (.cells #[.int .i64 x, .int .i64 y] 74)).drewN nq).heap.size = wr.heap.size + 1 by simp] at happ
        have hh := half_push HO.out.2.2 HKT.out HT.out.2.1 HT.out.2.2.1 (fun q' hq' => by cases hq')
        rw [← HP.out] at hh
        have HA := Lib.hid happ
        have H2 := Lib.hid (And.intro hown (And.intro hbel hh))
        clear happ hown hbel hb3 hh
        go_wp2_with (at_builtin; refine wpList_append_run rfl _ _ 24 rfl rfl _ _ _ _ rfl rfl HA.out ?_)
        exact ⟨⟨k + 1, 0 + 1, pc', P', _, rfl, by go_num, by omega, by omega, H2⟩, by simp [intOf]; omega⟩
      · rw [List.concat_eq_append] at HO
        obtain ⟨g, rfl, hmv, hg0, hg1, _, _, c0, c1, hfz, hst⟩ := last_own (ownG_kept HO.out.1 hal) (then_ HO.out.2.1 hal)
        obtain ⟨_, _, hz1, hz2⟩ := (canonF_snoc (z0, z) v 0).1 HO.out.2.2.1
        have hmv2 : v.length = m - 1 := by omega
        rw [hmv2] at c0 c1 hfz hst
        dsimp only at c0 c1
        have hz0 : -1 ≤ z0 := by
          have := CanonF.wf (Int.le_refl _) HO.out.2.2.1 (z0, z) (by simp)
          dsimp only at this; omega
        have hw : IntKind.i64.wrap (z + 1) = z + 1 := by rw [IntKind.wrap_i64]; dsimp only at hz1 hz2; omega
        have hw2 : IntKind.i64.wrap ((m : Int) - 1) = (m : Int) - 1 := by rw [IntKind.wrap_i64]; omega
        have b1 : (0 : Int) ≤ (m : Int) - 1 := by omega
        have b2 : (m : Int) - 1 < (m : Int) := by omega
        have b3 : ((m : Int) - 1).toNat = m - 1 := by omega
        have b4 : (0 : Int) < (m : Int) := by omega
        have d4 : decide (0 < m) = true := decide_eq_true (by omega)
        have HMV := Lib.hid (And.intro hmv hmv2)
        have HST := Lib.hid hst
        have HAL := Lib.hid hal
        clear hmv hmv2 hst hz0 hg0 hz1 hz2 hal
        by_cases hxz : x ≤ z + 1
        · have d5 : decide (x ≤ z + 1) = true := by simpa using hxz
          go_wp2
          go_quiet (fail)
          go_wp2
          go_region
          have hb3 : Below wr.heap.size wr ((wr.alloc (.cells #[.int .i64 x, .int .i64 y] 74)).drewN (nq + 1)) := below_drewN HAL.out (nq + 1)
          obtain ⟨g', hgg, hmv, _, _, _, _, _, _, _, hst⟩ := last_own (ownG_kept HO.out.1 hb3) (then_ HO.out.2.1 hb3)
          injection hgg with hgg
          injection hgg with hgg
          subst hgg
          rw [HMV.out.2] at hst
          have hh := half_join HO.out.2.2 HKT.out HT.out.2.2.1 (by rw [← HP.out]; exact hxz)
          rw [← HP.out] at hh
          have H2 := Lib.hid (And.intro (hst (max z y)).1 (And.intro (hst (max z y)).2 hh))
          clear hmv hst hb3 hh
          go_wp2
          exact ⟨⟨k + 1, m, pc2, _, _, rfl, by go_num, by omega, by omega, H2⟩, by simp [intOf]; omega⟩
        · have d5 : decide (x ≤ z + 1) = false := by simpa using hxz
          go_wp2
          go_quiet (fail)
          have hb3 : Below wr.heap.size wr ((wr.alloc (.cells #[.int .i64 x, .int .i64 y] 74)).drewN nq) := below_drewN HAL.out nq
          obtain ⟨P', pc', w', happ, hown, hbel⟩ := push_rngs (ownG_kept HO.out.1 hb3) [(x, y)] (by omega) (by simp) (then_ HO.out.2.1 hb3)
          rw [show ((wr.alloc (.cells #[.int .i64 x, .int .i64 y] 74)).drewN nq).heap.size = wr.heap.size + 1 by simp] at happ
          have hh := half_push HO.out.2.2 HKT.out HT.out.2.1 HT.out.2.2.1 (fun q' hq' => by
            rw [← HP.out]
            have e : q' = (z0, z) := by simpa using hq'.symm
            rw [e]
            dsimp only
            omega)
          rw [← HP.out] at hh
          have HA := Lib.hid happ
          have H2 := Lib.hid (And.intro hown (And.intro hbel hh))
          clear happ hown hbel hb3 hh
          go_wp2_with (at_builtin; refine wpList_append_run rfl _ _ 24 rfl rfl _ _ _ _ rfl rfl HA.out ?_)
          exact ⟨⟨k + 1, m + 1, pc', P', _, rfl, by go_num, by omega, by omega, H2⟩, by simp [intOf]; omega⟩
    · have hkq : k = q := by omega
      subst hkq
      have HF := Lib.hid (show Canon u ∧ ∀ r, hasL u r = hasL s r from ⟨HO.out.2.2.1, fun r => (HO.out.2.2.2.1 r).trans (by rw [List.take_of_length_le (by have := HT.out.1.1; omega)]; exact HT.out.2.2.2 r)⟩)
      go_wp2
      go_ret
      have e : m = u.length := by have := HO.out.1.1; rw [cellsG_length] at this; omega
      subst e
      exact ⟨_, u, rfl, ⟨row_base HO.out.1 (fun j hj => Nat.le_trans HB2.out.size (row_lt HO.out.1 hj).1), HB2.out.trans (HO.out.2.1.mono HB2.out.size)⟩, HF.out.1, HF.out.2⟩
end Go.Proofs.YtaapbmdojkjphaaGreat
