/- The walk back: the ends of the longest matches. -/
import Derived.Test.YtegcebgoiocakaaN01
import Derived.RangeFuncBox
namespace Go.Proofs.Ytegcebgoiocakaa
open Go Go.RowKit Go.Shelf
set_option linter.unusedVariables false
set_option maxRecDepth 100000
attribute [local go_sem] Oper.semAt_some

theorem backw_any (P : Option Addr) (q pc : Nat) (w : World) : Calls Try.prog 54 #[.slice P q pc] w fun e w' => e = .returned (.func (.func 84) #[] #[.pointer (some ⟨w.heap.size, 0, none⟩)]) ∧ w.alloc (.cells #[.slice P q pc] 27) = w' := by
  go_enter Try.func54, Try.ntmps54
  go_wp2
  go_ret
  exact ⟨rfl, rfl⟩
theorem right_parts {F : Nat → Prop} {w : World} {A : Option Addr} {n : Nat} {l : List IV} (hi0 : InsF F w A n l) (hr : rightB n l = true) : (∀ v ∈ l, okB n v.i = true) ∧ 0 < n ∧ Within (l.map fun v => v.i) := by
  unfold rightB at hr
  rw [Bool.and_eq_true, List.all_eq_true, decide_eq_true_eq] at hr
  refine ⟨hr.1, hr.2, by rw [List.length_map, hi0.1]; exact hr.2, fun i v hv j hj => ?_⟩
  rw [List.getElem?_map] at hv
  obtain ⟨u, hu, rfl⟩ := Option.map_eq_some_iff.1 hv
  rw [List.length_map, hi0.1]
  rcases okB_cases (hr.1 u (List.mem_of_getElem? hu)) with h0 | ⟨h0, x, y, hx, hy, hxn, hyn⟩ | ⟨h0, x, hx, hxn⟩
  · unfold outs at hj; rw [if_pos h0] at hj; simp at hj
  · unfold outs at hj; rw [if_neg (by omega), if_pos h0, hx, hy] at hj; simp at hj; omega
  · unfold outs at hj; rw [if_neg (by omega), if_neg (by omega), hx] at hj; simp at hj; omega
theorem atT_bound (T : List Int) (j : Nat) : (atT T)[j]?.getD 0 ≤ T.length := by
  cases h : (atT T)[j]? with
  | none => exact Nat.zero_le _
  | some a => exact atT_le h
theorem row_facts {w : World} {s a : Nat} {xs : List Int} (h : w.heap[s]? = some (.cells (xs.map (Value.int .i64)).toArray 3 (0, 0))) (ha : a < xs.length) : ∃ v : Int, w.cell? ⟨s, a, none⟩ = some (.int .i64 v) ∧ w.frozen? ⟨s, a, none⟩ = false := by
  refine ⟨xs[a], ?_, by simp [World.frozen?, h]⟩
  rw [cell_of_row w s a _ _ (0, 0) h]
  simp [List.getElem?_eq_getElem ha]
theorem meas_up {m q : Nat} (h : m < q) : q - (intOf (.int .i64 ((m + 1 : Nat) : Int))).toNat < q - (intOf (.int .i64 (m : Int))).toNat := by simp only [intOf]; omega
theorem wrap_succ {m q : Nat} (h : m < q) (hq : q ≤ maxLen) : wrap64 ((m : Int) + 1) = ((m + 1 : Nat) : Int) := by
  unfold maxLen at hq
  rw [Go.IntWalk.wrap64_in _ (by omega)]
  omega
set_option maxHeartbeats 8000000 in
theorem ends_any {F : Nat → Prop} (A : Option Addr) (n c : Nat) (l : List IV) (T : ByteArray) (w : World) (hi0 : InsF F w A n l) (hr : rightB n l = true) (hn : n ≤ 1000) (hT : T.size ≤ 1000) :
    Calls Try.prog 32 #[.slice A n c, .string T] w fun en w' => ∃ (ra : Nat) (xs : List Int), en = .returned (.slice (some ⟨ra, 0, none⟩) (T.size + 1) (T.size + 1)) ∧ xs.length = T.size + 1 ∧ w.heap.size ≤ ra ∧ w'.heap[ra]? = some (.cells (xs.map (Value.int .i64)).toArray 3 (0, 0)) ∧
      (∀ a : Nat, a ≤ T.size → (∃ j o, atF (nums T) j = a ∧ j ≤ (rsT (nums T)).length ∧ Long (l.map fun v => v.i) (rsT (nums T)) j o ∧ xs[a]? = some (endI (nums T) o)) ∨ ((¬ ∃ j, j ≤ (rsT (nums T)).length ∧ atF (nums T) j = a) ∧ xs[a]? = some (-1))) ∧ Below w.heap.size w w' := by
  have hnl := nums_length T
  obtain ⟨hok, hn0, hp⟩ := right_parts hi0 hr
  have hb0 : Below w.heap.size w (w.alloc (.cells #[.int .i64 (-1)] 3)) := (Below.refl _ _).alloc (Nat.le_refl _) _
  have hsz0 : (w.alloc (.cells #[.int .i64 (-1)] 3)).heap.size = w.heap.size + 1 := by simp
  have hR := repeat_any (-1) w.heap.size (T.size + 1) (w.alloc (.cells #[.int .i64 (-1)] 3)) (cell_of_row _ w.heap.size 0 _ _ (0, 0) (heap_alloc_new w _)) (by omega) (by omega)
  rw [hsz0, show ((T.size + 1 : Nat) : Int) = (T.size : Int) + 1 by omega] at hR
  have HR := Lib.hid hR
  have HH := Lib.hid (And.intro (hi0.mono (F' := fun b => b < w.heap.size) fun b _ h => h) (And.intro hp (And.intro hok (And.intro hb0 hnl))))
  have hT1 : (T.size : Int) ≤ 1000 := by omega
  clear hi0 hr hb0 hok hp hnl hR hsz0
  refine (callsIn_wide (n := 10)).1 ?_
  refine callsIn_of_wp_marks Try.func32 rfl trivial ?_ rfl
  simp only [Try.ntmps32, List.size_toArray, List.length_cons, List.length_nil, Nat.reduceAdd, Nat.reduceSub, Array.replicate_succ, Array.replicate_zero, List.push_toArray, List.append_toArray, List.nil_append, List.cons_append]
  gi_wp2_with (refine ⟨trivial, ?_⟩; first
    | (gi_at_call 51; refine (callsIn_wide.2 HR.out).mono ?_; rintro en w2 ⟨rfl, hm, hb2⟩
       have hb2' : Below w.heap.size w (w2.alloc (.cells #[.slice (some ⟨w.heap.size + 1, 0, none⟩) (T.size + 1) (T.size + 1)] 27)) := (HH.out.2.2.2.1.trans (hb2.mono (by simp))).alloc (by have := HH.out.2.2.2.1.size; have := hb2.size; omega) _
       have HM := Lib.hid (And.intro hm (And.intro hb2' hb2)); clear hm hb2 hb2'
       have HBK := Lib.hid (back_any A n c l _ (HH.out.1.belowB HM.out.2.1) HH.out.2.1 HH.out.2.2.1 hn))
    | (gi_at_call 52; refine (callsIn_wide.2 HBK.out).mono ?_; rintro en w3 ⟨gw, rfl, hways, hb3⟩
       have HW3 := Lib.hid (And.intro hways hb3); clear hways hb3))
  obtain ⟨hi0, hp, hok, hb0, hnl⟩ := HH.out
  obtain ⟨hm, hb2', hb2⟩ := HM.out
  obtain ⟨hways, hb3⟩ := HW3.out
  have hlen : (l.map fun v => v.i).length = n := by rw [List.length_map, hi0.1]
  have hBW : BackW (l.map fun v => v.i) (buildW true n (edgesL (l.map fun v => v.i))) := by
    have := back_build (l.map fun v => v.i)
    rwa [hlen] at this
  obtain ⟨e, e1, e2, e3, e4, e5, e6, e7, e8, e9, e10⟩ : ∃ e : WEnv, e.A = A ∧ e.n = n ∧ e.c = c ∧ e.l = l ∧ e.T = T ∧ e.WA = some ⟨gw, 0, none⟩ ∧ e.wc = n ∧ e.W = buildW true n (edgesL (l.map fun v => v.i)) ∧ e.mc = n ∧ e.skip = w.heap.size + 1 :=
    ⟨⟨A, n, c, l, T, some ⟨gw, 0, none⟩, n, buildW true n (edgesL (l.map fun v => v.i)), n, w.heap.size + 1⟩, rfl, rfl, rfl, rfl, rfl, rfl, rfl, rfl, rfl, rfl⟩
  have hs2 : w.heap.size + 1 < w2.heap.size := (Array.getElem?_eq_some_iff.1 hm).1
  have hs3 := hb3.size
  rw [show (w2.alloc (.cells #[.slice (some ⟨w.heap.size + 1, 0, none⟩) (T.size + 1) (T.size + 1)] 27)).heap.size = w2.heap.size + 1 by simp] at hs3 hways
  have hb03 : Below w.heap.size w w3 := hb2'.trans (hb3.mono (by simp; omega))
  have hi3 : InsF (Fs w3.heap.size e.skip) w3 e.A e.n e.l := by
    rw [e1, e2, e4, e10]
    exact (hi0.belowB hb03).mono fun b h1 h2 => ⟨h2, by omega⟩
  have hw3 : WaysF (Fs w3.heap.size e.skip) w3 e.WA e.n e.W := by
    rw [e6, e2, e8, e10]
    exact hways.mono fun b h1 h2 => ⟨h2, by omega⟩
  have hwe : BackW e.p e.W := by rw [e8]; unfold WEnv.p; rw [e4]; exact hBW
  have hpe : Within e.p := by unfold WEnv.p; rw [e4]; exact hp
  have hmw : w3.heap[w.heap.size + 1]? = some (.cells (halfL (T.size + 1) (T.size + 1) (-1)).toArray 3 (0, 0)) := (hb3.block _ (by simp; omega)).trans ((Below.heap_alloc w2 _ _ hs2).trans hm)
  have hbx5 : w3.heap[w2.heap.size]? = some (.cells #[.slice (some ⟨w.heap.size + 1, 0, none⟩) (T.size + 1) (T.size + 1)] 27 (0, 0)) := (hb3.block _ (by simp)).trans (heap_alloc_new w2 _)
  have HNw := Lib.hid (newWalk_any e w3 T.size hi3 hw3 (hwe.waysIn hpe) ⟨by omega, by rw [e5]; exact hT, by omega⟩ (by omega))
  have H3 := Lib.hid (And.intro hb03 (And.intro hwe (And.intro hpe (And.intro hmw (And.intro hbx5 (And.intro hs2 hs3))))))
  subst e1; subst e2; subst e3; subst e4; subst e5
  rw [e6, e7] at HNw
  have HN := Lib.hid hnl
  have HE10 := Lib.hid e10
  clear hi0 hp hok hb0 hnl hm hb2' hb2 hways hb3 hlen hBW hs2 hs3 hb03 hi3 hw3 hwe hpe hmw hbx5 e6 e7 e8 e9 e10 HBK
  have hPl := Lib.hid fun w => places_any e.T w (by omega)
  gi_wp2_with (refine ⟨trivial, ?_⟩; first
    | (gi_at_call 43; refine (callsIn_wide.2 HNw.out).mono ?_; rintro en w4 ⟨g, mb, rfl, hC, hb4⟩
       have hw4 : WalkS w3.heap.size g mb e (w4.alloc (.cells #[.pointer (some ⟨g, 0, none⟩)] 84)) e.T.size [] ⟨none, 0, 0, []⟩ (List.replicate e.n (-1)) := (show WalkS w3.heap.size g mb e w4 e.T.size [] ⟨none, 0, 0, []⟩ (List.replicate e.n (-1)) from ⟨_, _, _, hC⟩).below ((Below.refl _ _).alloc (Nat.le_refl _) _)
       have H4 := Lib.hid (And.intro hw4 (And.intro hb4 hC.lt)); clear hC hb4 hw4
       have HMt := Lib.hid (matches_any H4.out.1))
    | (gi_at_call 53; refine (callsIn_wide.2 HMt.out).mono ?_; rintro en w5 ⟨MP, mq, mc, ms, rfl, hml, hmo, hb5, hms⟩
       have H5 := Lib.hid (And.intro hml (And.intro hmo (And.intro hb5 hms))); clear hml hmo hb5 hms
       have HPl := Lib.hid (hPl.out (w5.alloc (.cells #[.slice MP mq mc] 27))))
    | (gi_at_call 12; refine (callsIn_wide.2 HPl.out).mono ?_; rintro en w6 ⟨PP, pq, pc, rfl, hpo, hb6⟩
       have H6 := Lib.hid (And.intro hpo hb6); clear hpo hb6
       have HBa := Lib.hid (backw_any PP pq pc w6))
    | (gi_at_call 54; refine (callsIn_wide.2 HBa.out).mono ?_; rintro en w7 ⟨rfl, rfl⟩))
  obtain ⟨hb03, hwe, hpe, hmw, hbx5, hs2, hs3⟩ := H3.out
  obtain ⟨hw4, hb4, hl4⟩ := H4.out
  obtain ⟨hml, hmo, hb5, hms⟩ := H5.out
  obtain ⟨hpo, hb6⟩ := H6.out
  have e10 := HE10.out
  have s4 := hb4.size
  have s5 := hb5.size
  have s6 := hb6.size
  have ha6 : Below w6.heap.size w6 (w6.alloc (.cells #[.slice PP pq pc] 27)) := (Below.refl _ _).alloc (Nat.le_refl _) _
  have ha4 : Below w4.heap.size w4 (w4.alloc (.cells #[.pointer (some ⟨g, 0, none⟩)] 84)) := (Below.refl _ _).alloc (Nat.le_refl _) _
  have ha5 : Below w5.heap.size w5 (w5.alloc (.cells #[.slice MP mq mc] 27)) := (Below.refl _ _).alloc (Nat.le_refl _) _
  rw [show (w4.alloc (.cells #[.pointer (some ⟨g, 0, none⟩)] 84)).heap.size = w4.heap.size + 1 by simp] at s5 hb5 hmo
  rw [show (w5.alloc (.cells #[.slice MP mq mc] 27)).heap.size = w5.heap.size + 1 by simp] at s6 hb6 hpo
  have b6 : Below (w5.heap.size + 1) (w5.alloc (.cells #[.slice MP mq mc] 27)) (w6.alloc (.cells #[.slice PP pq pc] 27)) := hb6.trans (ha6.mono (by omega))
  have b5 : Below (w4.heap.size + 1) (w4.alloc (.cells #[.pointer (some ⟨g, 0, none⟩)] 84)) (w6.alloc (.cells #[.slice PP pq pc] 27)) := (hb5.trans (ha5.mono (by omega))).trans (b6.mono (by omega))
  have b3 : Below w3.heap.size w3 (w6.alloc (.cells #[.slice PP pq pc] 27)) := (hb4.trans (ha4.mono (by omega))).trans (b5.mono (by omega))
  have hrl := rsT_le (T := nums e.T)
  have hnl := HN.out
  have hal := atT_len (T := nums e.T)
  have hpq : pq = (rsT (nums e.T)).length + 1 := by
    have := hpo.1
    simp [iN] at this
    omega
  obtain ⟨bp, hPP, hbp, cbp, hbpc⟩ : ∃ bp, PP = some ⟨bp, 0, none⟩ ∧ w5.heap.size + 1 ≤ bp ∧ (∃ cs, w6.heap[bp]? = some (.cells cs 3 (0, 0))) ∧ ∀ j, j < pq → w6.cell? ⟨bp, j, none⟩ = some (.int .i64 ((atT (nums e.T))[j]?.getD 0 : Nat)) := by
    rcases hpo.2 with ⟨_, h0⟩ | ⟨b, cap, cur, ev, hB, hb, hnc, hcm, hcs, ht⟩
    · omega
    · injection ev with e1 _ e3
      refine ⟨b, e1, hB, ⟨cur, hb⟩, fun j hj => ?_⟩
      have hx : (iN (atT (nums e.T)))[j]? = some (((atT (nums e.T))[j]?.getD 0 : Nat) : Int) := by
        unfold iN
        rw [List.getElem?_map, List.getElem?_eq_getElem (by omega)]
        simp
      rw [cell_of_row w6 b j cur _ (0, 0) hb, show (some (Value.int .i64 (((atT (nums e.T))[j]?.getD 0 : Nat) : Int))) = ((iN (atT (nums e.T))).map (Value.int .i64))[j]? by rw [List.getElem?_map, hx]; rfl, ← ht, List.getElem?_take_of_lt (by omega), Array.getElem?_toList]
  subst hPP
  obtain ⟨bm, hbm, hbt, hmr⟩ : ∃ bm, (w4.heap.size + 1 ≤ bm ∨ bm = w5.heap.size) ∧ (bm = w5.heap.size ∨ ∃ cs, w5.heap[bm]? = some (.cells cs 3 (0, 0))) ∧ ∀ (j i : Nat), ms[j]? = some i → ∃ o, MP = some ⟨bm, o, none⟩ ∧ w5.cell? ⟨bm, o + j, none⟩ = some (.int .i64 (i : Int)) := by
    rcases hmo.2 with ⟨_, h0⟩ | ⟨b, cap, cur, ev, hB, hb, hnc, hcm, hcs, ht⟩
    · refine ⟨w5.heap.size, .inr rfl, .inl rfl, fun j i hj => ?_⟩
      have := (List.getElem?_eq_some_iff.1 hj).1
      omega
    · injection ev with e1 _ e3
      refine ⟨b, .inl hB, .inr ⟨cur, hb⟩, fun j i hj => ⟨0, e1, ?_⟩⟩
      have hjl := (List.getElem?_eq_some_iff.1 hj).1
      rw [Nat.zero_add, cell_of_row w5 b j cur _ (0, 0) hb, show some (Value.int .i64 (i : Int)) = ((iN ms).map (Value.int .i64))[j]? by unfold iN; rw [List.getElem?_map, List.getElem?_map, hj]; rfl, ← ht, List.getElem?_take_of_lt (by omega), Array.getElem?_toList]
  have hmql : mq ≤ maxLen := by
    rcases hmo.2 with ⟨_, h0⟩ | ⟨b, cap, cur, ev, hB, hb, hnc, hcm, hcs, ht⟩
    · rw [h0]; exact Nat.zero_le _
    · omega
  have HQL := Lib.hid hmql
  clear hmql
  have hc7 : (w5.alloc (.cells #[.slice MP mq mc] 27)).heap[w5.heap.size]? = some (.cells #[.slice MP mq mc] 27 (0, 0)) := heap_alloc_new w5 _
  have hc6 : (w4.alloc (.cells #[.pointer (some ⟨g, 0, none⟩)] 84)).heap[w4.heap.size]? = some (.cells #[.pointer (some ⟨g, 0, none⟩)] 84 (0, 0)) := heap_alloc_new w4 _
  have hcs : (w6.alloc (.cells #[.slice (some ⟨bp, 0, none⟩) pq pc] 27)).heap[w6.heap.size]? = some (.cells #[.slice (some ⟨bp, 0, none⟩) pq pc] 27 (0, 0)) := heap_alloc_new w6 _
  have hsW : (w6.alloc (.cells #[.slice (some ⟨bp, 0, none⟩) pq pc] 27)).heap.size = w6.heap.size + 1 := by simp
  obtain ⟨W0, hW0⟩ : ∃ W0, W0 = w6.alloc (.cells #[.slice (some ⟨bp, 0, none⟩) pq pc] 27) := ⟨_, rfl⟩
  rw [← hW0] at b6 b5 b3 ha6 hcs hsW ⊢
  obtain ⟨E, hE⟩ : ∃ E : EB, E = ⟨w, W0, w3.heap.size, g, mb, w2.heap.size, w4.heap.size, w5.heap.size, w6.heap.size, bp, bm, MP, mq, mc, ms⟩ := ⟨_, rfl⟩
  have hbpl : bp < w6.heap.size := by obtain ⟨cs, h⟩ := cbp; exact (Array.getElem?_eq_some_iff.1 h).1
  have hin : ∀ i ∈ ms, i < e.n := fun i hi => by
    obtain ⟨v, hv, _⟩ := (hms i).1 hi
    have h1 := (List.getElem?_eq_some_iff.1 hv).1
    have h2 := hpe.2
    have h3 := hw4
    obtain ⟨_, _, _, hC⟩ := hw4
    have h4 := hC.ins.1
    unfold WEnv.p at h1
    rw [List.length_map] at h1
    omega
  have hgB : w3.heap.size ≤ g ∧ w3.heap.size ≤ mb := by obtain ⟨_, _, _, hC⟩ := hw4; exact ⟨hC.hB, hC.hBm⟩
  have hF : EFix e E := by
    subst hE
    refine ⟨?_, ?_, ?_, ?_, hml, fun j i hj => ?_, hin, ?_, ?_, ?_, ?_⟩
    · intro k hk
      rcases hk with h | h | h | h | h | h
      · have h : k = w2.heap.size := h
        rw [h]
        simp only
        exact ⟨by omega, by omega, by omega, _, _, _, (b3.block w2.heap.size (by omega)).trans hbx5, by decide⟩
      · have h : k = w4.heap.size := h
        rw [h]
        simp only
        exact ⟨by omega, by omega, by omega, _, _, _, (b5.block w4.heap.size (by omega)).trans hc6, by decide⟩
      · have h : k = w5.heap.size := h
        rw [h]
        simp only
        exact ⟨by omega, by omega, by omega, _, _, _, (b6.block w5.heap.size (by omega)).trans hc7, by decide⟩
      · have h : k = w6.heap.size := h
        rw [h]
        simp only
        exact ⟨by omega, by omega, by omega, _, _, _, hcs, by decide⟩
      · have h : k = bp := h
        rw [h]
        simp only
        obtain ⟨cs, h⟩ := cbp
        exact ⟨by omega, by omega, by omega, _, _, _, (ha6.block bp hbpl).trans h, by decide⟩
      · have h : k = bm := h
        rw [h]
        simp only
        rcases hbt with h | ⟨cs, h⟩
        · rw [h]
          exact ⟨by omega, by omega, by omega, _, _, _, (b6.block w5.heap.size (by omega)).trans hc7, by decide⟩
        · have h1 := (Array.getElem?_eq_some_iff.1 h).1
          exact ⟨by omega, by omega, by omega, _, _, _, (b6.block bm (by omega)).trans ((ha5.block bm h1).trans h), by decide⟩
    · simp only
      rw [e10]
      exact (b3.block w2.heap.size (by omega)).trans hbx5
    · exact (b5.block w4.heap.size (by omega)).trans hc6
    · exact (b6.block w5.heap.size (by omega)).trans hc7
    · obtain ⟨o, h1, h2⟩ := hmr j i hj
      have h3 := World.block_lt_of_cell? w5 (⟨bm, o + j, none⟩ : Addr) h2
      exact ⟨o, h1, (b6.cell (p := ⟨bm, o + j, none⟩) (show bm < w5.heap.size + 1 from Nat.lt_succ_of_lt h3)).trans ((ha5.cell (p := ⟨bm, o + j, none⟩) h3).trans h2)⟩
    · simp only; omega
    · have := hb03.size; simp only; omega
    · simp only; omega
    · simp only; omega
  have h0 : EInv e E (atT_bound (nums e.T)) [] W0 := by
    subst hE
    refine ⟨e.T.size, [], List.replicate e.n (-1), List.replicate (e.T.size + 1) (-1), ⟨⟨_, hw4.below (by rw [show (w4.alloc (.cells #[.pointer (some ⟨g, 0, none⟩)] 84)).heap.size = w4.heap.size + 1 by simp]; exact b5)⟩, ?_, fun k _ => rfl, hb03.trans (b3.mono hb03.size), Nat.le_refl _⟩, ⟨List.nodup_nil, fun x hx => (by simp at hx), Nat.le_refl _, by simp⟩, fun k hk hk2 => ?_⟩
    · rw [e10]
      refine (b3.block (w.heap.size + 1) (by omega)).trans (hmw.trans ?_)
      simp [halfL]
    · have hk0 : k = 0 := by have := congrArg List.length hk; rw [backL_len] at this; exact this.symm
      subst hk0
      have := EReal.begin (p := e.p) (T := nums e.T) (n := e.n)
      rwa [hnl] at this
  have hI := EInv.own (hM := atT_bound (nums e.T)) hF (D := W0.heap.size) (by subst hE; simp only; omega)
  have hcell : ∀ j, j < pq → W0.cell? ⟨bp, j, none⟩ = some (.int .i64 ((atT (nums e.T))[j]?.getD 0 : Nat)) := fun j hj => (ha6.cell (p := ⟨bp, j, none⟩) hbpl).trans (hbpc j hj)
  have hIter := iter_stops Fence.wide (10 - 1) trivial rfl (by omega) w6.heap.size bp pq pc (atT (nums e.T)) (by omega) (atT_bound (nums e.T)) (by omega) W0 (cell_of_row W0 w6.heap.size 0 _ _ (0, 0) hcs) hcell
  have hKb := KpR.put (Bs := w6.heap.size) (b := bp) (w := W0) (by omega) (by omega)
  have HF := Lib.hid (And.intro hF (And.intro hwe (And.intro hpe (And.intro hms (And.intro hnl (And.intro hpq (And.intro hal e10)))))))
  have hEq := Lib.hid hE
  have hb10 : W0.heap.size ≤ W0.heap.size := Nat.le_refl _
  clear hF hwe hpe hms hnl hpq hal e10 hE hcell hbpc hcs hbpl hin hgB hb03 hmw hbx5 hs2 hs3 hw4 hb4 hl4 hml hmo hb5 hpo hb6 s4 s5 s6 ha6 ha4 ha5 b6 b5 b3 hrl cbp hbm hbt hmr hc7 hc6 hsW hW0 hbp
  refine wpIn_rangeFunc_ownF rfl (by omega) (gf := 84) (lb := #[.pointer (some ⟨w6.heap.size, 0, none⟩)]) rfl trivial (enters_of Try.func84 (by kernel_rfl) rfl) hIter (fun h k => h.trans k) hKb (Below.refl _ _) (fun _ => rfl) (EInv e E (atT_bound (nums e.T))) (fun _ _ _ => False) hI (fun _ _ _ _ _ hs _ _ => hs) h0
    (fun x => { tmps := #[.slice e.A e.n e.c, .string e.T, undef, undef, .slice none 0 0, .pointer (some ⟨w2.heap.size, 0, none⟩), .pointer (some ⟨w4.heap.size, 0, none⟩), .pointer (some ⟨w5.heap.size, 0, none⟩), undef, .int .i64 (x.1.2 : Int), undef, undef, undef, undef, .slice (some ⟨w.heap.size, 0, none⟩) 1 1, .string e.T, .int .i64 (e.T.size : Int), .int .i64 ((e.T.size : Int) + 1), .slice (some ⟨w.heap.size + 1, 0, none⟩) (e.T.size + 1) (e.T.size + 1), .slice e.A e.n e.c, .string e.T, .slice e.A e.n e.c, .slice (some ⟨gw, 0, none⟩) e.n e.n, .string e.T, .int .i64 (e.T.size : Int), .pointer (some ⟨g, 0, none⟩), .pointer (some ⟨g, 0, none⟩), .slice MP mq mc, .string e.T, .slice (some ⟨bp, 0, none⟩) pq pc, .func (.func 84) #[] #[.pointer (some ⟨w6.heap.size, 0, none⟩)], .int .i64 (x.1.1 : Int), .int .i64 (x.1.2 : Int), undef, undef, undef, undef, undef, undef, undef, undef, undef, undef, undef, undef, undef, undef, undef, undef, undef, undef, undef, undef, undef, undef, undef, undef, undef], defers := [] }) ?assign ?body ?done ?stop
  case assign =>
    intro l x W K hK
    dsimp only [encP]
    gi_wp2
    exact hK
  case body =>
    rintro l0 pre x W ⟨at_, here, met, xs, hS, ⟨hnd, hin, hatl, hxl⟩, hreal⟩ hlen
    obtain ⟨hF, hwe, hpe, hms, hnl, hpq, hal, e10⟩ := HF.out
    have hE := hEq.out
    obtain ⟨tq, htq⟩ : ∃ tq : Nat, tq = x.1.2 := ⟨_, rfl⟩
    have htl : tq ≤ e.T.size := by have := x.2; omega
    obtain ⟨full, hfull⟩ : ∃ full : Prop, full = (∃ k, k ≤ (rsT (nums e.T)).length ∧ pre ++ [x] = backL (atT (nums e.T)) (atT_bound (nums e.T)) (k + 1)) := ⟨_, rfl⟩
    have hfk : full → ∃ k, k ≤ (rsT (nums e.T)).length ∧ pre ++ [x] = backL (atT (nums e.T)) (atT_bound (nums e.T)) (k + 1) ∧ EReal e.p (nums e.T) k at_ here met xs ∧ tq = atF (nums e.T) ((rsT (nums e.T)).length - k) := by
      intro h
      rw [hfull] at h
      obtain ⟨k, hk, hkx⟩ := h
      obtain ⟨k', hk', hp', hx'⟩ := backL_inj hkx
      obtain rfl : k = k' := by omega
      refine ⟨k, hk, hkx, hreal k hp' (by omega), ?_⟩
      rw [htq, hx', hal]
      rfl
    have hfr : full → ∀ y ∈ met, y ≠ (tq : Int) := fun h => by
      obtain ⟨k, hk, _, hr, hq⟩ := hfk h
      exact hr.fresh hk hq
    obtain ⟨last, hw⟩ := hS.walk
    obtain ⟨r, hr⟩ : ∃ r, r = (getI (((nums e.T).drop (min at_ tq)).take (max at_ tq - min at_ tq))).1 := ⟨_, rfl⟩
    have HSt := Lib.hid (step_any (full := full) hw hnd hin tq (min at_ tq) (max at_ tq) rfl rfl (by omega) hfr r hr)
    have c6 : W.cell? ⟨w4.heap.size, 0, none⟩ = some (.pointer (some ⟨g, 0, none⟩)) := by
      have h1 := (hS.fix _ (.inr (.inl rfl))).trans hF.c6
      rw [hE] at h1
      exact cell_of_row W w4.heap.size 0 _ _ (0, 0) h1
    have hfi : (∃ k, k ≤ (rsT (nums e.T)).length ∧ pre ++ [x] = backL (atT (nums e.T)) (atT_bound (nums e.T)) (k + 1)) → full := fun h => by rw [hfull]; exact h
    have HB := Lib.hid (And.intro hS (And.intro hxl (And.intro hfk (And.intro hr hw))))
    have HFI := Lib.hid hfi
    have hn1 : 1 ≤ 10 - 1 - 1 := by omega
    have hSg : E.g = g ∧ E.mb = mb ∧ E.B = w3.heap.size := by rw [hE]; exact ⟨rfl, rfl, rfl⟩
    rw [hSg.1] at HSt
    have HG := Lib.hid hSg
    have HTQ := Lib.hid htq
    rw [← htq]
    clear hfi hF hwe hpe hms hnl hpq hal e10 hE hfk hfr hS hreal hw hr hnd hin hxl hfull hSg htq
    have c7 : ∀ (wq : World) (hq : List (Nat × Nat)) (mq' : List Int), ESafe e E wq tq hq mq' xs → wq.cell? ⟨w5.heap.size, 0, none⟩ = some (.slice MP mq mc) ∧ wq.cell? ⟨w4.heap.size, 0, none⟩ = some (.pointer (some ⟨g, 0, none⟩)) ∧ wq.cell? ⟨w2.heap.size, 0, none⟩ = some (.slice (some ⟨w.heap.size + 1, 0, none⟩) (e.T.size + 1) (e.T.size + 1)) := by
      intro wq hq mq' hS
      have h7 := (hS.fix _ (.inr (.inr (.inl rfl)))).trans HF.out.1.c7
      have h6 := (hS.fix _ (.inr (.inl rfl))).trans HF.out.1.c6
      have h5 := (hS.fix _ (.inl rfl)).trans HF.out.1.c5
      have hE := hEq.out
      rw [HE10.out] at h5
      rw [hE] at h5 h6 h7
      exact ⟨cell_of_row wq w5.heap.size 0 _ _ (0, 0) h7, cell_of_row wq w4.heap.size 0 _ _ (0, 0) h6, cell_of_row wq w2.heap.size 0 _ _ (0, 0) h5⟩
    have C7 := Lib.hid c7
    clear c7
    gi_wp2_with (refine ⟨trivial, ?_⟩; gi_at_call 49; refine (CallsIn.inRound l0 (callsIn_wide.2 HSt.out)).mono ?_; rintro en w1 ⟨rfl, here1, last1, met1, hM1, hT1, hI1, hs1⟩; rw [← HG.out.1] at hM1 hT1; have HS1 := Lib.hid (HB.out.1.tch HF.out.1 hM1.s hT1); obtain ⟨c71, c61, c51⟩ := C7.out _ _ _ HS1.out; have HM1 := Lib.hid (And.intro hM1 (And.intro hT1 (And.intro hI1 hs1))); clear hM1 hT1 hI1 hs1)
    gi_loopw [38] (fun v38 wr => ∃ m : Nat, v38 = .int .i64 (m : Int) ∧ m ≤ mq ∧ Hid (∃ here' last' met', WalkM full E.B E.g E.mb e wr tq here' last' met' ∧ ESafe e E wr tq here' met' xs ∧ KeepsOthers W wr ∧ MetIn tq met met' ∧ (full → Steps (WE e.p e.W e.T.size tq) (meets e.p e.W r here ++ (ms.take m).map (fun i => (i, tq))) here'))) (fun v _ => mq - (intOf v).toNat)
    case atStart =>
      refine ⟨0, rfl, Nat.zero_le _, Lib.hid ⟨here1, last1, met1, HM1.out.1, HS1.out, HB.out.2.2.2.2.others HM1.out.2.1, HM1.out.2.2.1, fun h => ?_⟩⟩
      simpa using HM1.out.2.2.2 h
    case round =>
      obtain ⟨m, rfl, hmq, H⟩ := hrel
      by_cases hlt : m < mq
      · obtain ⟨i, hi⟩ : ∃ i, ms[m]? = some i := ⟨_, List.getElem?_eq_getElem (by have := HF.out.1.ml; have hE := hEq.out; rw [hE] at this; simp only at this; omega)⟩
        obtain ⟨here2, last2, met2, hM2, hS2, hK2, hI2, hs2⟩ := H.out
        have hE := hEq.out
        have hmr := HF.out.1.mr m i (by rw [hE]; exact hi)
        have hin := HF.out.1.mi i (by rw [hE]; exact List.mem_of_getElem? hi)
        obtain ⟨o, hMP, hcm⟩ := hmr
        have hcm2 : wr.cell? ⟨bm, o + m, none⟩ = some (.int .i64 (i : Int)) := by
          have h1 := hS2.fix _ (.inr (.inr (.inr (.inr (.inr rfl)))))
          rw [hE] at h1 hcm
          simp only at h1 hcm
          rw [← hcm]
          exact heap_cell h1 _
        rw [hE] at hMP
        simp only at hMP
        obtain ⟨c7, c6, c5⟩ := C7.out _ _ _ hS2
        have HMt := meet_any hM2 i tq hin
        rw [HG.out.1] at HMt
        have HMt := Lib.hid HMt
        have h1 : (m : Int) < (mq : Int) := by omega
        have h2 : (0 : Int) ≤ (m : Int) := by omega
        have HX := Lib.hid (And.intro hi (And.intro hM2 (And.intro hS2 (And.intro hK2 (And.intro hI2 hs2)))))
        subst hMP
        clear hE hin hcm hi hM2 hS2 hK2 hI2 hs2
        gi_wp2_with (refine ⟨trivial, ?_⟩; gi_at_call 45; refine (CallsIn.inRound l0 (callsIn_wide.2 HMt.out)).mono ?_; rintro en w2 ⟨rfl, here3, met3, hM3, hT3, hI3, hs3⟩; rw [← HG.out.1] at hM3 hT3; have HM3 := Lib.hid (And.intro hM3 (And.intro hT3 (And.intro hI3 hs3))); clear hM3 hT3 hI3 hs3)
        rw [wrap_succ hlt HQL.out]
        refine ⟨⟨m + 1, rfl, hlt, Lib.hid ?_⟩, meas_up hlt⟩
        obtain ⟨hi, hM2, hS2, hK2, hI2, hs2⟩ := HX.out
        obtain ⟨hM3, hT3, hI3, hs3⟩ := HM3.out
        refine ⟨here3, last2, met3, hM3, hS2.tch HF.out.1 hM3.s hT3, hK2.trans (hM2.s.others hT3), hI2.trans hI3, fun h => ?_⟩
        have := Steps.snoc (hs2 h) (hs3 h)
        rw [List.append_assoc] at this
        rw [List.take_add_one, hi, Option.toList_some, List.map_append]
        exact this
      · have h1 : ¬ (m : Int) < (mq : Int) := by omega
        have htq0 : (0 : Int) ≤ (tq : Int) := by omega
        have htq1 : (tq : Int) < (e.T.size : Int) + 1 := by omega
        obtain ⟨here2, last2, met2, hM2, hS2, hK2, hI2, hs2⟩ := H.out
        obtain ⟨c7, c6, c5⟩ := C7.out _ _ _ hS2
        have HBe := bestF_any hM2.s hM2.inn (by have := here_len hM2.nodup hM2.inn; omega)
        rw [HG.out.1] at HBe
        have HBe := Lib.hid HBe
        have HX := Lib.hid (And.intro hM2 (And.intro hS2 (And.intro hK2 (And.intro hI2 hs2))))
        clear hM2 hS2 hK2 hI2 hs2
        gi_wp2_with (refine ⟨trivial, ?_⟩; gi_at_call 46; refine (CallsIn.inRound l0 (callsIn_wide.2 HBe.out)).mono ?_; rintro en w2 ⟨fb, ok, rfl, hbest, hb2⟩; obtain ⟨okv, hok⟩ : ∃ o, o = ok := ⟨_, rfl⟩; rw [← hok] at hbest; have HBB := Lib.hid (And.intro hbest hb2); have HS2 := Lib.hid (HX.out.2.1.below HF.out.1 hb2); obtain ⟨c72, c62, c52⟩ := C7.out _ _ _ HS2.out; obtain ⟨vx, cx, fx⟩ := row_facts HS2.out.row (a := tq) (by have := HB.out.2.1; omega); rw [HE10.out] at cx fx; clear hbest hb2; rcases ok with _ | _ <;> have HOK := Lib.hid hok <;> clear hok)
        all_goals
          obtain ⟨hM2, hS2, hK2, hI2, hs2⟩ := HX.out
          obtain ⟨hbest, hb2⟩ := HBB.out
          obtain ⟨hF, hwe, hpe, hms, hnl, hpq, hal, e10⟩ := HF.out
          obtain ⟨hS, hxl, hfk, hr, hw⟩ := HB.out
          have hE := hEq.out
          have hml : E.ms = ms ∧ E.mq = mq ∧ E.bs = w6.heap.size ∧ E.bp = bp := by rw [hE]; exact ⟨rfl, rfl, rfl, rfl⟩
          have hEnd : ∀ W' xs', ESafe e E W' tq here2 met2 xs' → xs' = (if okv = true then xs.set tq fb else xs) → KpR w6.heap.size bp W W' ∧ EInv e E (atT_bound (nums e.T)) (pre ++ [x]) W' := by
            intro W' xs' hS' hxs
            refine ⟨?_, tq, here2, met2, xs', hS', ⟨hM2.nodup, hM2.inn, by omega, by rw [hxs]; split <;> simp [hxl]⟩, fun k hk hk2 => ?_⟩
            · have h1 := (hS'.fix _ (.inr (.inr (.inr (.inl rfl))))).trans (hS.fix _ (.inr (.inr (.inr (.inl rfl))))).symm
              have h2 := (hS'.fix _ (.inr (.inr (.inr (.inr (.inl rfl)))))).trans (hS.fix _ (.inr (.inr (.inr (.inr (.inl rfl)))))).symm
              rw [hml.2.2.1] at h1
              rw [hml.2.2.2] at h2
              exact ⟨h1, h2⟩
            · obtain ⟨k', rfl, _, _⟩ := backL_inj hk
              have hfull := HFI.out ⟨k', by omega, hk⟩
              obtain ⟨k0, hk0, hx0, hR, hq⟩ := hfk hfull
              have hkk : k' = k0 := by
                have h1 := congrArg List.length hk
                have h2 := congrArg List.length hx0
                rw [backL_len] at h1 h2
                omega
              subst hkk
              rw [hxs]
              have hst := hs2 hfull
              have hmm : m = ms.length := by have := hF.ml; rw [hml.1, hml.2.1] at this; omega
              rw [hmm, List.take_length, ← hnl] at hst
              exact hR.next hwe hpe hk0 hq hr hms hst hI2 (by rw [hnl]; exact hxl) hbest
          have hKo : KeepsOthers W w2 := hK2.trans (others_below hb2)
          first
            | exact ⟨hKo.trans (KeepsOthers.setCell _ _ _), (hEnd _ _ (by have h := HS2.out.store hF tq fb; rw [e10] at h; exact h) (by rw [if_pos HOK.out])).1, (hEnd _ _ (by have h := HS2.out.store hF tq fb; rw [e10] at h; exact h) (by rw [if_pos HOK.out])).2⟩
            | exact ⟨hKo, (hEnd _ _ HS2.out (by rw [if_neg (by rw [HOK.out]; simp)])).1, (hEnd _ _ HS2.out (by rw [if_neg (by rw [HOK.out]; simp)])).2⟩
  case done =>
    rintro D ys W hD hys hE2 hK
    have hfin : EInv e E (atT_bound (nums e.T)) ys (W.putObj D (.deferred none)) := OwnFrom.putObj hI _ hE2 hD hK rfl
    have c5 : W.cell? ⟨w2.heap.size, 0, none⟩ = some (.slice (some ⟨w.heap.size + 1, 0, none⟩) (e.T.size + 1) (e.T.size + 1)) := by
      obtain ⟨at_, here, met, xs, hS, _⟩ := hE2
      have h5 := (hS.fix _ (.inl rfl)).trans HF.out.1.c5
      have hE := hEq.out
      rw [HE10.out] at h5
      rw [hE] at h5
      exact cell_of_row W w2.heap.size 0 _ _ (0, 0) h5
    have HFin := Lib.hid (And.intro hfin hys)
    clear hfin hys hE2
    gi_wp2
    refine ⟨by simp, .inl ⟨_, _, rfl, run_takeDeferred hK, ?_⟩⟩
    obtain ⟨⟨at_, here, met, xs, hS, ⟨_, _, _, hxl⟩, hreal⟩, hys⟩ := HFin.out
    obtain ⟨hF, hwe, hpe, hms, hnl, hpq, hal, e10⟩ := HF.out
    refine ⟨_, results_tmp rfl _ _ _, e.skip, xs, by rw [e10]; rfl, hxl, by omega, hS.row, ?_, ?_⟩
    · have hR := (hreal ((rsT (nums e.T)).length + 1) (by rw [hys, hpq]) (Nat.le_refl _)).over
      rw [hnl] at hR
      exact hR
    · have h1 := hS.bel
      have hE := hEq.out
      rw [hE] at h1
      exact h1
  case stop =>
    rintro D c pre W hD _ h _
    exact h.elim
end Go.Proofs.Ytegcebgoiocakaa
