/- Rows of whole numbers: one behind the other, and read. -/
import Derived.Test.YtbhbdhjkicmecaaM01
import Derived.Test.YtbhbdhjkicmecaaM05
import Derived.Test.YtbhbdhjkicmecaaM06
import Derived.BigQuiet
import Derived.BigRegion
import Derived.Deep.RegionHeldLaw
import Derived.OwnWalk
namespace Go.Proofs.Ytbhbdhjkicmecaa
open Go Go.RowKit
set_option linter.unusedVariables false

/-- append of a row of whole numbers to a row of the call's own. -/
theorem rowsI_append {W w : World} {B2 : Nat} {P P2 : Option Addr} {q pc q2 pc2 : Nat} {xs ys : List Int} (h : w.ownsRow W.heap.size 3 1 (.slice P q pc) q (xs.map (.int .i64))) (h2 : w.ownsRow B2 3 1 (.slice P2 q2 pc2) q2 (ys.map (.int .i64))) (hq : q ≤ 100000) (hq2 : q2 ≤ 100000) (hb : Below W.heap.size W w) :
    ∃ P' pc' w', (Builtin.append_ #[39, 39] 39 #[.slice P q pc, .slice P2 q2 pc2]).run Try.prog w = .ok (.slice P' (q + q2) pc') w' ∧
      w'.ownsRow W.heap.size 3 1 (.slice P' (q + q2) pc') (q + q2) ((xs ++ ys).map (.int .i64)) ∧ Below W.heap.size W w' := by
  obtain ⟨i0, hi, hz0, hz1, hz2⟩ := info_parts info_intG
  rw [List.map_append]
  rcases h2.2 with ⟨e1, e2⟩ | ⟨g2, cap2, cu2, e1, hb2, hg2, hn2, hm2, hc2, ht2⟩
  · injection e1 with e3 e4 e5
    subst e3; subst e4; subst e5
    have e6 : ys.map (Value.int .i64) = [] := List.eq_nil_of_length_eq_zero (by simpa using h2.1)
    rw [e6, List.append_nil]
    exact ⟨P, pc, w, run_append_owned_none (P := Try.prog) w W.heap.size 39 39 3 i0 1 Try.underlying39 hi _ q _ h, h, hb⟩
  · injection e1 with e3 e4 e5
    subst e3
    obtain ⟨V', w', r1, r2, r3, _⟩ := run_append_own (P := Try.prog) w W.heap.size 39 39 3 i0 _ 1 8 Try.underlying39 hi hz0 hz1 hz2 rfl (by decide) _ q _ h ⟨g2, 0, none⟩ q2 pc2 (ys.map (.int .i64)) (by simpa using h2.1)
      (h2.cells (g := g2) rfl) (by intro u hu; obtain ⟨x, _, rfl⟩ := List.mem_map.1 hu; rfl) (by unfold maxLen; omega) (by omega) hb.size
    have hb' : Below W.heap.size W w' := hb.grown r3 hb.size (by intro k hk; exact (row_lt h hk).1)
    rcases r2.2 with ⟨rfl, h0⟩ | ⟨b, cap, cu, rfl, _⟩
    · rw [h0] at r2 ⊢
      exact ⟨none, 0, w', r1, r2, hb'⟩
    · exact ⟨_, _, w', r1, r2, hb'⟩
/-- An element of it. -/
theorem cellI {w : World} {B q pc : Nat} {P : Option Addr} {xs : List Int} (h : w.ownsRow B 3 1 (.slice P q pc) q (xs.map (.int .i64))) {i : Nat} (hi : i < q) : ∃ g, P = some ⟨g, 0, none⟩ ∧ w.cell? ⟨g, i, none⟩ = some (.int .i64 (xs.getD i 0)) := by
  have hl : xs.length = q := by simpa using h.1
  rcases h.2 with ⟨e, h0⟩ | ⟨g, cap, cu, e, _⟩
  · omega
  · injection e with e1 _ _
    subst e1
    refine ⟨g, rfl, ?_⟩
    rw [h.cellAt i (by omega), List.getElem?_map, List.getElem?_eq_getElem (by omega)]
    simp [List.getD, List.getElem?_eq_getElem (show i < xs.length by omega)]
end Go.Proofs.Ytbhbdhjkicmecaa
/- The document's Made: a set made between the ends of ranges. -/
namespace Go.Proofs.Ytbhbdhjkicmecaa
open Go Go.RowKit
set_option linter.unusedVariables false
set_option maxRecDepth 20000

theorem take_snocI {es : List Int} {i : Nat} (h : i < es.length) : es.take (i + 1) = es.take i ++ [es.getD i 0] := by
  rw [List.take_succ_eq_append_getElem h]
  simp [List.getD, List.getElem?_eq_getElem h]

/-- append at the end of a region that draws, by what its run is known to give. -/
theorem step_append {P : Program} {ops : Array Oper} {o : Oper} {a : Act} {w : World} {K : Act → World → Prop} {Q : Exit → Act → World → Prop} {E : Prop} (hgd : o.guard = none) (s x : Operand) (t : TypeId)
    (ho : o.op = .call { callee := .builtin .append, args := #[s, x], argTypes := #[t, t] }) (hty : o.type = t)
    (v y v' : Value) (w' : World) (hs : a.eval s = v) (hx : a.eval x = y) (hrun : (Builtin.append_ #[t, t] t #[v, y]).run P w = .ok v' w')
    (hK : K (a.put o.dst v') w') : if Region.wanted o (yielded ops a.tmps) = true then Oper.wp P o a w K Q else E := by
  have hw : Region.wanted o (yielded ops a.tmps) = true := by simp [Region.wanted, hgd]
  rw [if_pos hw]
  subst hty
  unfold Oper.wp
  simp [execOp, ho, resolve, invoke, builtin, hs, hx, hrun, Result.andThen]
  exact hK

theorem joined_any (rs : List (Int × Int)) (A : Option Addr) (n c : Nat) (a b : Int) (neg : Bool) (W : World) (hr : RowG W A n rs) (hn : n ≤ 1000) (ha : 0 ≤ a ∧ a ≤ 1114111) :
    Calls Try.prog 49 #[.slice A n c, .int .i64 a, .int .i64 b, .bool neg] W fun e w' => e = .returned (.bool (b == a + 1 || (hasL rs (a + 1) != neg))) ∧ w' = W := by
  have HH := Lib.hid (rhas_any rs A n c (a + 1) W hr (by omega))
  clear hr
  obtain ⟨a0, a1⟩ := ha
  obtain ⟨X, hX⟩ : ∃ X, X = hasL rs (a + 1) := ⟨_, rfl⟩
  rw [← hX] at HH ⊢
  clear hX
  by_cases hb : b = a + 1
  · subst hb
    go_enter Try.func49, Try.ntmps49
    go_wp2
    go_ret
    exact ⟨by simp, rfl⟩
  · have b1 : (b == a + 1) = false := by simpa using hb
    rw [b1, Bool.false_or]
    go_enter Try.func49, Try.ntmps49
    go_wp2_with (go_at_call 48; refine HH.out.mono ?_; rintro e w1 ⟨rfl, rfl⟩)
    go_ret
    exact ⟨rfl, rfl⟩

set_option maxHeartbeats 8000000 in
theorem made_any (rs : List (Int × Int)) (A : Option Addr) (n c : Nat) (neg : Bool) (W : World) (hr : RowG W A n rs) (hn : n ≤ 1000) (hw : ∀ p ∈ rs, 0 ≤ p.1 ∧ p.1 ≤ p.2 ∧ p.2 ≤ 1114111) :
    Calls Try.prog 38 #[.slice A n c, .bool neg] W fun e w' => ∃ P q pc, e = .returned (.slice P q pc) ∧ w'.ownsRow W.heap.size 58 2 (.slice P q pc) q (cellsG (setOf fun r => hasL rs r != neg)) ∧ Below W.heap.size W w' := by
  have HE := Lib.hid (rends_eq rs A n c W hr hn)
  have HR := Lib.hid hr
  have HW := Lib.hid hw
  clear hr hw
  obtain ⟨f, hf⟩ : ∃ f : Int → Bool, f = fun r => hasL rs r != neg := ⟨_, rfl⟩
  have HF := Lib.hid hf
  rw [← hf]
  clear hf
  go_enter Try.func38, Try.ntmps38
  go_wp2_with (go_at_call 47; refine HE.out.mono ?_; rintro e w1 ⟨P0, q0, pc0, rfl, hown0, hb1, hq0⟩; obtain ⟨hE, _, _, _, _⟩ := ownI_row hown0; have HES := Lib.hid hE; have HB1 := Lib.hid hb1; clear hown0 hb1 hE)
  obtain ⟨es, hes⟩ : ∃ es, es = endsL rs := ⟨_, rfl⟩
  rw [← hes] at HES
  have HEQ := Lib.hid hes
  clear hes HE
  go_loopw [6, 7] (fun vl vi wr => ∃ (i m pc : Nat) (P : Option Addr) (l : List Int), vl = .slice P m pc ∧ vi = .int .i64 (i : Int) ∧ i ≤ q0 ∧ m ≤ i ∧ Hid (wr.ownsRow w1.heap.size 3 1 (.slice P m pc) m (l.map (.int .i64)) ∧ Below w1.heap.size w1 wr ∧ l = sortE (es.take i) ∧ l.length = m)) (fun _ vi _ => q0 - (intOf vi).toNat)
  case atStart => exact ⟨0, 0, 0, none, [], rfl, rfl, Nat.zero_le _, Nat.le_refl _, Lib.hid ⟨ownI_nil w1 _, Below.refl _ _, rfl, rfl⟩⟩
  case round =>
    obtain ⟨i, m, pc, P, l, rfl, rfl, hi, hm, HO⟩ := hrel
    by_cases hlt : i < q0
    · obtain ⟨b, o, rfl, hbw, hc⟩ := HES.out.2 (by omega)
      have d0 := (HO.out.2.1.cell (p := ⟨b, o + i, none⟩) hbw).trans (hc i hlt)
      have hts := take_snocI (es := es) (i := i) (by rw [HES.out.1]; exact hlt)
      obtain ⟨E, hEe⟩ : ∃ E, E = es.getD i 0 := ⟨_, rfl⟩
      have hc0 := hc i hlt
      rw [← hEe] at d0 hts hc0
      have HTS := Lib.hid hts
      have HC0 := Lib.hid hc0
      clear hc hts hEe hc0
      have hqm : q0 ≤ 10000 := by omega
      go_wp2
      go_loopw [8] (fun vk wt => ∃ (k q : Nat), vk = .int .i64 (k : Int) ∧ k ≤ m ∧ wt = wr.drewN q ∧ Hid (∀ j, j < k → l.getD j 0 < E)) (fun vk _ => m - (intOf vk).toNat)
      case atStart => exact ⟨0, 0, rfl, Nat.zero_le _, rfl, Lib.hid fun j h => by omega⟩
      case round =>
        obtain ⟨k, q, rfl, hk, rfl, HK⟩ := hrel
        by_cases hkm : k < m
        · obtain ⟨g, hP, hcell⟩ := cellI HO.out.1 hkm
          subst hP
          obtain ⟨Z, hZ⟩ : ∃ Z, Z = l.getD k 0 := ⟨_, rfl⟩
          rw [← hZ] at hcell
          have HZ := Lib.hid hZ
          clear hZ
          by_cases hZE : Z < E
          · have b1 : decide (Z < E) = true := decide_eq_true hZE
            go_wp2
            go_quiet (fail)
            go_wp2
            refine ⟨⟨k + 1, q + nq, by go_num, by omega, rfl, Lib.hid fun j hj => ?_⟩, by simp [intOf]; omega⟩
            rcases Nat.lt_or_ge j k with h | h
            · exact HK.out j h
            · rw [show j = k by omega, ← HZ.out]; exact hZE
          · have b1 : decide (Z < E) = false := decide_eq_false hZE
            go_wp2
            go_quiet (fail)
            revert nq
            intro Q
            go_wp2
            by_cases hZ2 : Z = E
            · have b2 : (Z == E) = true := by simpa using hZ2
              go_quiet (fail)
              go_wp2
              refine ⟨⟨i + 1, m, pc, _, l, rfl, by go_num, by omega, by omega, Lib.hid ⟨ownI_kept HO.out.1 (below_drewN (Below.refl _ _) _), below_drewN HO.out.2.1 _, ?_, HO.out.2.2.2⟩⟩, by simp [intOf]; omega⟩
              rw [HTS.out, sortE_snoc, ← HO.out.2.2.1, insI_at E l k (by rw [HO.out.2.2.2]; exact hk) (fun j h hj => by have := HK.out j hj; simpa [List.getD, List.getElem?_eq_getElem h] using this) (fun h => by have := HZ.out; simp [List.getD, List.getElem?_eq_getElem h] at this; rw [← this]; omega), if_pos ⟨by rw [HO.out.2.2.2]; exact hkm, by have := HZ.out; simp [List.getD, List.getElem?_eq_getElem (show k < l.length by rw [HO.out.2.2.2]; exact hkm)] at this; rw [← this]; exact hZ2⟩]
            · have b2 : (Z == E) = false := by simpa using hZ2
              go_quiet (fail)
              have hbq : Below wr.heap.size wr (wr.drewN (q + Q + nq)) := below_drewN (Below.refl _ _) _
              have hlq := ownI_kept HO.out.1 hbq
              obtain ⟨hlr, hlc, hlm, hln, hlb⟩ := ownI_row hlq
              have hkc : k ≤ pc := by omega
              have hkc2 : k < pc := by omega
              have hpm : pc ≤ 9223372036854775807 := by unfold maxLen at hlm; omega
              obtain ⟨P1, pc1, wa, r1, o1, b1', k1⟩ := appI_at (W := w1) (w := wr.drewN (q + Q + nq)) (ownI_nil _ _) (rowI_upto hlr hk) (c := pc) (fun e => by cases e) (by omega) (by omega) (then_ HO.out.2.1 hbq)
              rw [Nat.zero_add] at r1 o1 k1
              rw [List.nil_append] at o1
              obtain ⟨P2, pc2, wb, r2, o2, b2', k2⟩ := pushI_at o1 (by omega) b1' E
              have hgl : g < (wr.drewN (q + Q + nq)).heap.size := (row_lt HO.out.1 (hlb g 0 rfl)).2
              obtain ⟨j1, j2⟩ := k1 g hgl (by simp [Value.ownBlock])
              obtain ⟨j3, j4⟩ := k2 g (by have := (b1'.size); have h := (Array.getElem?_eq_some_iff.1 (j2.trans (Array.getElem?_eq_getElem hgl))).1; exact h) j1
              have hlr3 : RowI .i64 wb (some ⟨g, k, none⟩) (m - k) (l.drop k) := by
                have h := rowI_from (rowI_keep hlr (fun b o e h => by injection e with e; injection e with e1 _ _; subst e1; rw [j4, j2])) hk
                rcases Nat.eq_zero_or_pos k with h0 | h0
                · subst h0; simpa [Addr.add] using h
                · simpa [Addr.add, show ¬ k = 0 by omega] using h
              obtain ⟨P3, pc3, wc, r3, o3, b3', k3⟩ := appI_at (W := w1) o2 hlr3 (c := pc - k) (fun e => by cases e) (by omega) (by omega) b2'
              have d1 := (b1'.cell (p := ⟨b, o + i, none⟩) hbw).trans HC0.out
              have HA1 := Lib.hid r1
              have HA2 := Lib.hid r2
              have HA3 := Lib.hid r3
              have HOC := Lib.hid (And.intro o3 b3')
              clear r1 r2 r3 o1 o2 o3 b1' b2' b3' k1 k2 k3 j1 j2 j3 j4 hlr hlr3 hlq
              go_wp2_with (first
                | (at_builtin; refine wpList_append_run rfl (.tmp 53) (.tmp 56) 39 rfl rfl _ _ _ _ rfl rfl HA1.out ?_)
                | (at_builtin; refine wpList_append_run rfl (.tmp 58) (.tmp 63) 39 rfl rfl _ _ _ _ rfl rfl HA2.out ?_)
                | (at_builtin; refine wpList_append_run rfl (.tmp 65) (.tmp 68) 39 rfl rfl _ _ _ _ rfl rfl HA3.out ?_))
              refine ⟨⟨i + 1, k + 1 + (m - k), pc3, P3, _, rfl, by go_num, by omega, by omega, Lib.hid ⟨HOC.out.1, HOC.out.2, ?_, ?_⟩⟩, by simp [intOf]; omega⟩
              · rw [HTS.out, sortE_snoc, ← HO.out.2.2.1, insI_at E l k (by rw [HO.out.2.2.2]; exact hk) (fun j h hj => by have := HK.out j hj; simpa [List.getD, List.getElem?_eq_getElem h] using this) (fun h => by have := HZ.out; simp [List.getD, List.getElem?_eq_getElem h] at this; rw [← this]; omega), if_neg (fun ⟨h, e⟩ => hZ2 (by have := HZ.out; simp [List.getD, List.getElem?_eq_getElem h] at this; rw [this]; exact e))]
                simp
              · have := HO.out.2.2.2
                simp
                omega
        · have hkm2 : k = m := by omega
          subst hkm2
          have HINS : Hid (sortE (es.take (i + 1)) = l ++ [E]) := Lib.hid (by
            rw [HTS.out, sortE_snoc, ← HO.out.2.2.1, insI_at E l k (by rw [HO.out.2.2.2]; exact hk) (fun j h hj => by have := HK.out j hj; simpa [List.getD, List.getElem?_eq_getElem h] using this) (fun h => by rw [HO.out.2.2.2] at h; omega), if_neg (fun ⟨h, _⟩ => by rw [HO.out.2.2.2] at h; omega), List.take_of_length_le (by rw [HO.out.2.2.2]; exact Nat.le_refl _), List.drop_of_length_le (by rw [HO.out.2.2.2]; exact Nat.le_refl _)])
          go_wp2
          go_quiet (fail)
          revert nq
          intro Q
          go_wp2
          go_quiet (fail)
          have hbq : Below wr.heap.size wr (wr.drewN (q + Q + nq)) := below_drewN (Below.refl _ _) _
          have hlq := ownI_kept HO.out.1 hbq
          obtain ⟨hlr, hlc, hlm, hln, hlb⟩ := ownI_row hlq
          have hpm : pc ≤ 9223372036854775807 := by unfold maxLen at hlm; omega
          obtain ⟨P1, pc1, wa, r1, o1, b1', k1⟩ := appI_at (W := w1) (w := wr.drewN (q + Q + nq)) (ownI_nil _ _) hlr (c := pc) hln (by omega) (by omega) (then_ HO.out.2.1 hbq)
          rw [Nat.zero_add] at r1 o1 k1
          rw [List.nil_append] at o1
          obtain ⟨P2, pc2, wb, r2, o2, b2', k2⟩ := pushI_at o1 (by omega) b1' E
          have h3 : ∀ (A3 : Option Addr) (c3 : Nat), (A3 = none → c3 = 0) → ∃ P3 pc3 wc, (Builtin.append_ #[39, 39] 39 #[.slice P2 (k + 1) pc2, .slice A3 0 c3]).run Try.prog wb = .ok (.slice P3 (k + 1) pc3) wc ∧ wc.ownsRow w1.heap.size 3 1 (.slice P3 (k + 1) pc3) (k + 1) ((l ++ [E]).map (.int .i64)) ∧ Below w1.heap.size w1 wc := fun A3 c3 h => by
            obtain ⟨P3, pc3, wc, r3, o3, b3', _⟩ := appI_at (W := w1) o2 (A := A3) (m := 0) (c := c3) (ys := []) ⟨rfl, fun h => absurd h (by omega)⟩ (fun e => ⟨rfl, h e⟩) (by omega) (by omega) b2'
            rw [List.append_nil] at o3
            exact ⟨P3, pc3, wc, r3, o3, b3'⟩
          have d1 := (b1'.cell (p := ⟨b, o + i, none⟩) hbw).trans HC0.out
          have HA1 := Lib.hid r1
          have HA2 := Lib.hid r2
          have H3 := Lib.hid h3
          clear r1 r2 o1 o2 b1' b2' k1 k2 h3 hlr hlq
          rcases P with _ | ⟨g, go, gs⟩
          · obtain ⟨hk0, hpc0⟩ := hln rfl
            subst hpc0
            obtain ⟨P3, pc3, wc, r3, o3, b3'⟩ := H3.out none 0 (fun _ => rfl)
            have HA3 := Lib.hid r3
            have HOC := Lib.hid (And.intro o3 b3')
            clear r3 o3 b3'
            subst hk0
            go_wp2_with (first
              | (at_builtin; refine wpList_append_run rfl (.tmp 53) (.tmp 56) 39 rfl rfl _ _ _ _ rfl rfl HA1.out ?_)
              | (at_builtin; refine wpList_append_run rfl (.tmp 58) (.tmp 63) 39 rfl rfl _ _ _ _ rfl rfl HA2.out ?_)
              | (at_builtin; refine wpList_append_run rfl (.tmp 65) (.tmp 68) 39 rfl rfl _ _ _ _ rfl rfl HA3.out ?_))
            exact ⟨⟨i + 1, 0 + 1, pc3, P3, _, rfl, by go_num, by omega, by omega, Lib.hid ⟨HOC.out.1, HOC.out.2, HINS.out.symm, by rw [List.length_append, HO.out.2.2.2]; rfl⟩⟩, by simp [intOf]; omega⟩
          · obtain ⟨rfl, rfl⟩ : go = 0 ∧ gs = none := by
              rcases HO.out.1.2 with ⟨e, _⟩ | ⟨g', cap, cur, e, _⟩
              · injection e with e1 _ _; cases e1
              · injection e with e1 _ _
                injection e1 with e1
                injection e1 with _ e2 e3
                exact ⟨e2, e3⟩
            rcases Nat.lt_or_ge k pc with hkp | hkp
            · obtain ⟨P3, pc3, wc, r3, o3, b3'⟩ := H3.out (some ⟨g, k, none⟩) (pc - k) (fun e => by cases e)
              have HA3 := Lib.hid r3
              have HOC := Lib.hid (And.intro o3 b3')
              clear r3 o3 b3'
              go_wp2_with (first
                | (at_builtin; refine wpList_append_run rfl (.tmp 53) (.tmp 56) 39 rfl rfl _ _ _ _ rfl rfl HA1.out ?_)
                | (at_builtin; refine wpList_append_run rfl (.tmp 58) (.tmp 63) 39 rfl rfl _ _ _ _ rfl rfl HA2.out ?_)
                | (at_builtin; refine wpList_append_run rfl (.tmp 65) (.tmp 68) 39 rfl rfl _ _ _ _ rfl rfl HA3.out ?_))
              exact ⟨⟨i + 1, k + 1, pc3, P3, _, rfl, by go_num, by omega, by omega, Lib.hid ⟨HOC.out.1, HOC.out.2, HINS.out.symm, by rw [List.length_append, HO.out.2.2.2]; rfl⟩⟩, by simp [intOf]; omega⟩
            · obtain rfl : pc = k := by omega
              obtain ⟨P3, pc3, wc, r3, o3, b3'⟩ := H3.out (some ⟨g, 0, none⟩) 0 (fun e => by cases e)
              have HA3 := Lib.hid r3
              have HOC := Lib.hid (And.intro o3 b3')
              clear r3 o3 b3'
              go_wp2_with (first
                | (at_builtin; refine wpList_append_run rfl (.tmp 53) (.tmp 56) 39 rfl rfl _ _ _ _ rfl rfl HA1.out ?_)
                | (at_builtin; refine wpList_append_run rfl (.tmp 58) (.tmp 63) 39 rfl rfl _ _ _ _ rfl rfl HA2.out ?_)
                | (at_builtin; refine wpList_append_run rfl (.tmp 65) (.tmp 68) 39 rfl rfl _ _ _ _ rfl rfl HA3.out ?_))
              exact ⟨⟨i + 1, pc + 1, pc3, P3, _, rfl, by go_num, by omega, by omega, Lib.hid ⟨HOC.out.1, HOC.out.2, HINS.out.symm, by rw [List.length_append, HO.out.2.2.2]; rfl⟩⟩, by simp [intOf]; omega⟩
    · have hiq : i = q0 := by omega
      subst hiq
      have HL := Lib.hid (show l = sortE (endsL rs) by rw [HO.out.2.2.1, List.take_of_length_le (by rw [HES.out.1]; exact Nat.le_refl _), HEQ.out])
      have HLR := Lib.hid (ownI_row HO.out.1).1
      have HWR := Lib.hid (HB1.out.trans (HO.out.2.1.mono HB1.out.size))
      have HLM := Lib.hid HO.out.2.2.2
      clear HO HEQ HES HB1
      have hf1 : ∀ r, f r = (hasL rs r != neg) := fun r => by rw [HF.out]
      have HF1 := Lib.hid hf1
      clear hf1
      obtain ⟨e0, e1, e2⟩ := ends_first rs
      have HFI := Lib.hid (And.intro (show l.getD 0 0 = 0 by rw [HL.out]; exact e1) (show l.getD (m - 1) 0 = 1114111 by rw [← HLM.out, HL.out]; exact e2))
      have hm0 : 0 < m := by rw [← HLM.out, HL.out]; exact e0
      have hm1 : m ≤ 10000 := by omega
      have HIN : Hid (∀ j, j < m → 0 ≤ l.getD j 0 ∧ l.getD j 0 ≤ 1114111) := Lib.hid fun j hj => endsL_in ((sortE_mem _ _).1 (by rw [← HL.out]; exact getD_mem' (by rw [HLM.out]; exact hj)))
      have HNE : Hid (∀ j, j + 1 < m → Near f (l.getD j 0) (l.getD (j + 1) 0)) := Lib.hid fun j hj => by
        have h1 := HIN.out j (by omega)
        have h2 := HIN.out (j + 1) hj
        have hlt := asc_lt (l := l) (by rw [HL.out]; exact sortE_asc _) j (j + 1) (by omega) (by rw [HLM.out]; exact hj)
        rcases Int.lt_or_le (l.getD j 0 + 1) (l.getD (j + 1) 0) with h | h
        · refine .inr ⟨h, fun r hr1 hr2 => ?_⟩
          rw [HF1.out, HF1.out, alike HW.out h1.1 h2.2 h (fun r' hr' => asc_gap (l := l) (by rw [HL.out]; exact sortE_asc _) (by rw [HLM.out]; exact hj) (by rw [HL.out, sortE_mem]; exact hr')) r hr1 hr2]
        · exact .inl (by omega)
      clear e0 e1 e2 hi hlt hm
      obtain ⟨W2, hW2⟩ : ∃ W2, W2 = wr := ⟨_, rfl⟩
      subst hW2
      obtain ⟨g, go, rfl, hgw, hgc⟩ := HLR.out.2 hm0
      have HGC := Lib.hid hgc
      clear hgc
      go_wp2
      go_loopw [10, 11] (fun vo vi wr => ∃ (j mo pco : Nat) (Po : Option Addr) (out : List (Int × Int)), vo = .slice Po mo pco ∧ vi = .int .i64 (j : Int) ∧ j ≤ m ∧ mo ≤ j ∧ Hid (wr.ownsRow W2.heap.size 58 2 (.slice Po mo pco) mo (cellsG out) ∧ Below W2.heap.size W2 wr ∧ (j = 0 → out = []) ∧ (0 < j → Mid f (l.getD (j - 1) 0) out))) (fun _ vi _ => m - (intOf vi).toNat)
      case atStart => exact ⟨0, 0, 0, none, [], rfl, rfl, Nat.zero_le _, Nat.le_refl _, Lib.hid ⟨nilG _ _, Below.refl _ _, fun _ => rfl, fun h => by omega⟩⟩
      case round =>
        obtain ⟨j, mo, pco, Po, out, rfl, rfl, hj, hmo, HO⟩ := hrel
        by_cases hjm : j < m
        · have c0 := (HO.out.2.1.cell (p := ⟨g, go + j, none⟩) hgw).trans (HGC.out j hjm)
          have hbin := HIN.out j hjm
          obtain ⟨b, hb⟩ : ∃ b, b = l.getD j 0 := ⟨_, rfl⟩
          rw [← hb] at c0 hbin
          have HBV := Lib.hid hb
          clear hb
          have K := Lib.hid fun r q => (rhas_any rs A n c r (wr.drewN q) (HR.out.below (HWR.out.trans ((below_drewN HO.out.2.1 q).mono HWR.out.size)) (Nat.le_refl _)) (by omega)).mono fun e w' (h : _ ∧ _) => And.intro h.1 h.2.symm
          have K0 := Lib.hid ((rhas_any rs A n c b wr (HR.out.below (HWR.out.trans (HO.out.2.1.mono HWR.out.size)) (Nat.le_refl _)) (by omega)))
          obtain ⟨hB, hhB⟩ : ∃ hB, hB = hasL rs b := ⟨_, rfl⟩
          rw [← hhB] at K0
          have HFB := Lib.hid (show f b = (hB != neg) by rw [HF1.out, hhB])
          clear hhB
          cases hfb : f b with
          | false =>
            have hBn : hB = neg := by have := HFB.out; rw [hfb] at this; simpa using this.symm
            subst hBn
            have HMID : Hid (Mid f b out) := Lib.hid (by
              rcases Nat.eq_zero_or_pos j with h0 | h0
              · subst h0
                rw [HO.out.2.2.1 rfl]
                have hb0 : b = 0 := by rw [HBV.out, HFI.out.1]
                rw [hb0]
                exact mid_first (by rw [← hb0]; exact hfb)
              · have h1 := HO.out.2.2.2 h0
                have h2 := HNE.out (j - 1) (by omega)
                rw [show j - 1 + 1 = j by omega, ← HBV.out] at h2
                exact mid_skip h1 (HIN.out (j - 1) (by omega)).1 h2 hfb)
            clear hfb
            go_wp2_with (go_at_call 48; (with_reducible refine K0.out.mono ?_); rintro e w2 ⟨rfl, rfl⟩)
            exact ⟨⟨j + 1, mo, pco, Po, out, rfl, by go_num, by omega, by omega, Lib.hid ⟨HO.out.1, HO.out.2.1, fun h => by omega, fun _ => by rw [show j + 1 - 1 = j by omega, ← HBV.out]; exact HMID.out⟩⟩, by simp [intOf]; omega⟩
          | true =>
            have hBn : ¬ hB = neg := by have h := HFB.out; rw [hfb] at h; simpa using h.symm
            have q1 : (hB == neg) = false := by simpa using hBn
            have HFBT := Lib.hid hfb
            clear hfb hBn
            rcases Nat.eq_zero_or_pos j with h0 | h0
            · have hout := HO.out.2.2.1 h0
              have hmo0 : mo = 0 := by omega
              have HMID : Hid (Mid f b (out ++ [(b, b)])) := Lib.hid (by
                have hb0 : b = 0 := by rw [HBV.out, h0, HFI.out.1]
                rw [hout, hb0]
                exact mid_first_one (by rw [← hb0]; exact HFBT.out))
              have d4 : decide (0 < mo) = false := decide_eq_false (by omega)
              clear hout h0 hmo0
              go_wp2_with (go_at_call 48; (with_reducible refine K0.out.mono ?_); rintro e w2 ⟨rfl, rfl⟩)
              go_quiet (fail)
              obtain ⟨X, hX⟩ : ∃ X, X = wr.drewN nq := ⟨_, rfl⟩
              rw [← hX]
              have hXb : Below wr.heap.size wr X := by rw [hX]; exact below_drewN (Below.refl _ _) nq
              have cX : ∀ w, Below wr.heap.size wr w → w.cell? ⟨g, go + j, none⟩ = some (.int .i64 b) := fun w h => (h.cell (p := ⟨g, go + j, none⟩) (Nat.lt_of_lt_of_le hgw HO.out.2.1.size)).trans c0
              have cX0 := cX X hXb
              obtain ⟨P', pc', w', happ, hown, hbel⟩ := app_inG (W := W2) (ownG_kept (ownG_alloc (ownG_kept HO.out.1 hXb) (.cells (cellsG [(b, b)]).toArray 58)) ((Below.refl _ _).drew)) ((rowG_made X [(b, b)]).below ((Below.refl _ _).drew) (Nat.le_refl _)) (c := 1) (fun e => by cases e) (by omega) (by simp) (((then_ HO.out.2.1 hXb).alloc (Nat.le_trans HO.out.2.1.size hXb.size) _).drew)
              have cX1 : w'.cell? ⟨g, go + j, none⟩ = some (.int .i64 b) := (hbel.cell (p := ⟨g, go + j, none⟩) hgw).trans (HGC.out j hjm |>.trans (by rw [← HBV.out]))
              have cX2 : (X.alloc (.cells (cellsG [(b, b)]).toArray 58)).drew.cell? ⟨g, go + j, none⟩ = some (.int .i64 b) := cX _ (((hXb.alloc hXb.size _)).drew)
              simp only [List.length_cons, List.length_nil, Nat.zero_add] at happ hown
              have HA := Lib.hid happ
              have HOC := Lib.hid (And.intro hown hbel)
              clear happ hown hbel hX cX
              go_wp2_with fail
              go_region_held_law (fun w' => w'.cell? ⟨g, go + j, none⟩ = some (.int .i64 b)) (first | assumption | go_keep) (refine step_append rfl (.tmp 126) (.tmp 136) 28 rfl rfl _ _ _ _ rfl rfl HA.out ?_)
              go_wp2
              exact ⟨⟨j + 1, mo + 1, pc', P', _, rfl, by go_num, by omega, by omega, Lib.hid ⟨HOC.out.1, HOC.out.2, fun h => by omega, fun _ => by rw [show j + 1 - 1 = j by omega, ← HBV.out]; exact HMID.out⟩⟩, by simp [intOf]; omega⟩
            · have hmid := HO.out.2.2.2 h0
              have hnear := HNE.out (j - 1) (by omega)
              rw [show j - 1 + 1 = j by omega, ← HBV.out] at hnear
              have hain := HIN.out (j - 1) (by omega)
              have ca := (HO.out.2.1.cell (p := ⟨g, go + (j - 1), none⟩) hgw).trans (HGC.out (j - 1) (by omega))
              obtain ⟨a, ha⟩ : ∃ a, a = l.getD (j - 1) 0 := ⟨_, rfl⟩
              rw [← ha] at hmid hnear hain ca
              clear ha
              have hw2 : IntKind.i64.wrap ((j : Int) - 1) = (j : Int) - 1 := by rw [IntKind.wrap_i64]; omega
              have b1 : (0 : Int) ≤ (j : Int) - 1 := by omega
              have b2 : (j : Int) - 1 < (m : Int) := by omega
              have b3 : ((j : Int) - 1).toNat = j - 1 := by omega
              have dj : decide (0 < j) = true := decide_eq_true h0
              have ka := K.out a
              obtain ⟨hA, hhA⟩ : ∃ hA, hA = hasL rs a := ⟨_, rfl⟩
              rw [← hhA] at ka
              have hfa : f a = (hA != neg) := by rw [HF1.out, hhA]
              have KA := Lib.hid ka
              clear hhA ka
              cases hfav : f a with
              | true =>
                obtain ⟨v, ⟨z0, z⟩, rfl, hq⟩ := hmid.2.2.2.1 hfav
                dsimp only at hq
                subst hq
                have hAn : (hA != neg) = true := by rw [← hfa, hfav]
                have hAn2 : (hA == neg) = false := by simpa [bne] using hAn
                have HMID : Hid (Mid f b (v ++ [(z0, b)])) := Lib.hid (mid_join hmid hain.1 hbin.2 hnear hfav HFBT.out)
                have hjo : (b == z + 1 || (hasL rs (z + 1) != neg)) = true := by
                  rcases hnear with h | ⟨h, hall⟩
                  · rw [h]; simp
                  · rw [← HF1.out, hall (z + 1) (by omega) (by omega), hfav, Bool.or_true]
                have KJ := Lib.hid fun q => (joined_any rs A n c z b neg (wr.drewN q) (HR.out.below (HWR.out.trans ((below_drewN HO.out.2.1 q).mono HWR.out.size)) (Nat.le_refl _)) (by omega) hain)
                have KJ2 : Hid (∀ q, Calls Try.prog 49 #[.slice A n c, .int .i64 z, .int .i64 b, .bool neg] (wr.drewN q) fun e w' => e = .returned (.bool true) ∧ w' = wr.drewN q) := Lib.hid (by rw [hjo] at KJ; exact KJ.out)
                have hmo1 : mo = v.length + 1 := by have := HO.out.1.1; rw [cellsG_length] at this; simp at this; omega
                have d4 : decide (0 < mo) = true := decide_eq_true (by omega)
                have HMO := Lib.hid hmo1
                clear hmo1 hjo KJ hfav hfa hmid hnear
                go_wp2_with (go_at_call 48; (with_reducible refine K0.out.mono ?_); rintro e w2 ⟨rfl, rfl⟩)
                go_quiet (first | (go_at_call 48; with_reducible exact Calls.quiet_of_same (KA.out _)) | (go_at_call 49; with_reducible exact Calls.quiet_of_same (KJ2.out _)))
                obtain ⟨X, hX⟩ : ∃ X, X = wr.drewN nq := ⟨_, rfl⟩
                rw [← hX]
                have hXb : Below wr.heap.size wr X := by rw [hX]; exact below_drewN (Below.refl _ _) nq
                have cX0 : X.cell? ⟨g, go + j, none⟩ = some (.int .i64 b) := (hXb.cell (p := ⟨g, go + j, none⟩) (Nat.lt_of_lt_of_le hgw HO.out.2.1.size)).trans c0
                obtain ⟨g2, rfl, hmoe, _, _, hpc, _, _, k1, kfz, kst⟩ := last_own (W := W2) (ownG_kept HO.out.1 hXb) (then_ HO.out.2.1 hXb)
                have hv : v.length = mo - 1 := by have := HMO.out; omega
                rw [hv] at k1 kfz kst
                have hw3 : IntKind.i64.wrap ((mo : Int) - 1) = (mo : Int) - 1 := by rw [IntKind.wrap_i64]; omega
                have m1 : (0 : Int) ≤ (mo : Int) - 1 := by have := HMO.out; omega
                have m2 : (mo : Int) - 1 < (mo : Int) := by omega
                have m3 : ((mo : Int) - 1).toNat = mo - 1 := by have := HMO.out; omega
                have KST := Lib.hid (kst b)
                clear kst hX hv hmoe
                go_wp2
                exact ⟨⟨j + 1, mo, pco, _, _, rfl, by go_num, by omega, by omega, Lib.hid ⟨KST.out.1, KST.out.2, fun h => by omega, fun _ => by rw [show j + 1 - 1 = j by omega, ← HBV.out]; exact HMID.out⟩⟩, by simp [intOf]; omega⟩
              | false =>
                have hAn : (hA != neg) = false := by rw [← hfa, hfav]
                have hAn2 : (hA == neg) = true := by simpa [bne] using hAn
                have HMID : Hid (Mid f b (out ++ [(b, b)])) := Lib.hid (mid_push hmid hain.1 hbin.2 hnear hfav HFBT.out)
                clear hfav hfa hmid hnear
                rcases Nat.eq_zero_or_pos mo with hmo0 | hmo0
                · have d4 : decide (0 < mo) = false := decide_eq_false (by omega)
                  clear hmo0
                  go_wp2_with (go_at_call 48; (with_reducible refine K0.out.mono ?_); rintro e w2 ⟨rfl, rfl⟩)
                  go_quiet (fail)
                  obtain ⟨X, hX⟩ : ∃ X, X = wr.drewN nq := ⟨_, rfl⟩
                  rw [← hX]
                  have hXb : Below wr.heap.size wr X := by rw [hX]; exact below_drewN (Below.refl _ _) nq
                  have cX : ∀ w, Below wr.heap.size wr w → w.cell? ⟨g, go + j, none⟩ = some (.int .i64 b) := fun w h => (h.cell (p := ⟨g, go + j, none⟩) (Nat.lt_of_lt_of_le hgw HO.out.2.1.size)).trans c0
                  have cX0 := cX X hXb
                  obtain ⟨P', pc', w', happ, hown, hbel⟩ := app_inG (W := W2) (ownG_kept (ownG_alloc (ownG_kept HO.out.1 hXb) (.cells (cellsG [(b, b)]).toArray 58)) ((Below.refl _ _).drew)) ((rowG_made X [(b, b)]).below ((Below.refl _ _).drew) (Nat.le_refl _)) (c := 1) (fun e => by cases e) (by omega) (by simp) (((then_ HO.out.2.1 hXb).alloc (Nat.le_trans HO.out.2.1.size hXb.size) _).drew)
                  have cX1 : w'.cell? ⟨g, go + j, none⟩ = some (.int .i64 b) := (hbel.cell (p := ⟨g, go + j, none⟩) hgw).trans (HGC.out j hjm |>.trans (by rw [← HBV.out]))
                  have cX2 : (X.alloc (.cells (cellsG [(b, b)]).toArray 58)).drew.cell? ⟨g, go + j, none⟩ = some (.int .i64 b) := cX _ (((hXb.alloc hXb.size _)).drew)
                  simp only [List.length_cons, List.length_nil, Nat.zero_add] at happ hown
                  have HA := Lib.hid happ
                  have HOC := Lib.hid (And.intro hown hbel)
                  clear happ hown hbel hX cX
                  go_wp2_with fail
                  go_region_held_law (fun w' => w'.cell? ⟨g, go + j, none⟩ = some (.int .i64 b)) (first | assumption | go_keep) (refine step_append rfl (.tmp 126) (.tmp 136) 28 rfl rfl _ _ _ _ rfl rfl HA.out ?_)
                  go_wp2
                  exact ⟨⟨j + 1, mo + 1, pc', P', _, rfl, by go_num, by omega, by omega, Lib.hid ⟨HOC.out.1, HOC.out.2, fun h => by omega, fun _ => by rw [show j + 1 - 1 = j by omega, ← HBV.out]; exact HMID.out⟩⟩, by simp [intOf]; omega⟩
                · have d4 : decide (0 < mo) = true := decide_eq_true hmo0
                  clear hmo0
                  go_wp2_with (go_at_call 48; (with_reducible refine K0.out.mono ?_); rintro e w2 ⟨rfl, rfl⟩)
                  go_quiet ((go_at_call 48; with_reducible exact Calls.quiet_of_same (KA.out _)))
                  obtain ⟨X, hX⟩ : ∃ X, X = wr.drewN nq := ⟨_, rfl⟩
                  rw [← hX]
                  have hXb : Below wr.heap.size wr X := by rw [hX]; exact below_drewN (Below.refl _ _) nq
                  have cX : ∀ w, Below wr.heap.size wr w → w.cell? ⟨g, go + j, none⟩ = some (.int .i64 b) := fun w h => (h.cell (p := ⟨g, go + j, none⟩) (Nat.lt_of_lt_of_le hgw HO.out.2.1.size)).trans c0
                  have cX0 := cX X hXb
                  obtain ⟨P', pc', w', happ, hown, hbel⟩ := app_inG (W := W2) (ownG_kept (ownG_alloc (ownG_kept HO.out.1 hXb) (.cells (cellsG [(b, b)]).toArray 58)) ((Below.refl _ _).drew)) ((rowG_made X [(b, b)]).below ((Below.refl _ _).drew) (Nat.le_refl _)) (c := 1) (fun e => by cases e) (by omega) (by simp) (((then_ HO.out.2.1 hXb).alloc (Nat.le_trans HO.out.2.1.size hXb.size) _).drew)
                  have cX1 : w'.cell? ⟨g, go + j, none⟩ = some (.int .i64 b) := (hbel.cell (p := ⟨g, go + j, none⟩) hgw).trans (HGC.out j hjm |>.trans (by rw [← HBV.out]))
                  have cX2 : (X.alloc (.cells (cellsG [(b, b)]).toArray 58)).drew.cell? ⟨g, go + j, none⟩ = some (.int .i64 b) := cX _ (((hXb.alloc hXb.size _)).drew)
                  simp only [List.length_cons, List.length_nil, Nat.zero_add] at happ hown
                  have HA := Lib.hid happ
                  have HOC := Lib.hid (And.intro hown hbel)
                  clear happ hown hbel hX cX
                  go_wp2_with fail
                  go_region_held_law (fun w' => w'.cell? ⟨g, go + j, none⟩ = some (.int .i64 b)) (first | assumption | go_keep) (refine step_append rfl (.tmp 126) (.tmp 136) 28 rfl rfl _ _ _ _ rfl rfl HA.out ?_)
                  go_wp2
                  exact ⟨⟨j + 1, mo + 1, pc', P', _, rfl, by go_num, by omega, by omega, Lib.hid ⟨HOC.out.1, HOC.out.2, fun h => by omega, fun _ => by rw [show j + 1 - 1 = j by omega, ← HBV.out]; exact HMID.out⟩⟩, by simp [intOf]; omega⟩
        · have hjm2 : j = m := by omega
          subst hjm2
          have HFIN := Lib.hid (show out = setOf f from mid_last (by have h := HO.out.2.2.2 hm0; rwa [HFI.out.2] at h))
          go_wp2
          go_ret
          exact ⟨Po, mo, pco, rfl, by rw [← HFIN.out]; exact row_base HO.out.1 (fun x hx => Nat.le_trans HWR.out.size (row_lt HO.out.1 hx).1), HWR.out.trans (HO.out.2.1.mono HWR.out.size)⟩
end Go.Proofs.Ytbhbdhjkicmecaa
/- The document's in, named, escaped. -/
namespace Go.Proofs.Ytbhbdhjkicmecaa
open Go Go.RowKit
set_option linter.unusedVariables false
set_option maxRecDepth 20000

set_option maxHeartbeats 1000000 in
theorem rin_any (S : ByteArray) (r : Int) (W : World) (hn : S.size ≤ 1000) :
    Calls Try.prog 40 #[.string S, .int .i64 r] W fun e w' => e = .returned (.bool (decide (r ∈ nums S))) ∧ W = w' := by
  have hnl := nums_length S
  have HNL := Lib.hid hnl
  clear hnl
  go_enter Try.func40, Try.ntmps40
  go_wp2
  go_loopw [5] (fun vi wr => ∃ j : Nat, vi = .int .i64 (j : Int) ∧ j ≤ S.size ∧ wr = W ∧ Hid (∀ i, i < j → (nums S).getD i 0 ≠ r)) (fun vi _ => S.size - (intOf vi).toNat)
  case atStart => exact ⟨0, rfl, Nat.zero_le _, rfl, Lib.hid fun i h => by omega⟩
  case round =>
    obtain ⟨j, rfl, hj, rfl, HO⟩ := hrel
    by_cases hlt : j < S.size
    · have hix := idx_at S j hlt
      have hby := nums_byte S ((nums S).getD j 0) (by
        have : j < (nums S).length := by rw [HNL.out]; exact hlt
        simp [List.getD, List.getElem?_eq_getElem this])
      obtain ⟨x, hx⟩ : ∃ x, x = (nums S).getD j 0 := ⟨_, rfl⟩
      rw [← hx] at hix hby
      have HX := Lib.hid hx
      obtain ⟨x0, x1⟩ := hby
      clear hx
      by_cases hxr : x = r
      · have HE := Lib.hid (show decide (r ∈ nums S) = true from decide_eq_true (by
          have hl : j < (nums S).length := by rw [HNL.out]; exact hlt
          rw [← hxr, HX.out]
          simp [List.getD, List.getElem?_eq_getElem hl]))
        have hxr2 : (x == r) = true := by simpa using hxr
        clear hxr
        go_wp2
        go_ret
        rw [HE.out]
        exact ⟨rfl, rfl⟩
      · have hxr2 : (x == r) = false := by simpa using hxr
        go_wp2
        refine ⟨⟨j + 1, by go_num, by omega, trivial, Lib.hid fun i hi => ?_⟩, by simp [intOf]; omega⟩
        rcases Nat.lt_or_ge i j with h | h
        · exact HO.out i h
        · rw [show i = j by omega, ← HX.out]; exact hxr
    · have hjn : j = S.size := by omega
      have HE := Lib.hid (show decide (r ∈ nums S) = false from decide_eq_false (fun h => by
        obtain ⟨i, hi, e⟩ := mem_getD h
        exact HO.out i (by rw [HNL.out] at hi; omega) e))
      subst hjn
      go_wp2
      go_ret
      rw [HE.out]
      exact ⟨rfl, rfl⟩

/-- Ranges that lie in a block just made, as a row of the call's own. -/
theorem ownG_made (w : World) (s : List (Int × Int)) (hl : s.length ≤ 1000000) : (w.alloc (.cells (cellsG s).toArray 58)).ownsRow w.heap.size 58 2 (.slice (some ⟨w.heap.size, 0, none⟩) s.length s.length) s.length (cellsG s) :=
  ⟨cellsG_length s, .inr ⟨w.heap.size, s.length, _, rfl, Nat.le_refl _, heap_alloc_new w _, Nat.le_refl _, by unfold maxLen; omega, by simp [cellsG_length], by rw [← cellsG_length s]; simp⟩⟩
theorem rnamed9_any (r : Int) (hr : r = 100 ∨ r = 119 ∨ r = 115) (W : World) :
    Calls Try.prog 41 #[.int .i64 r] W fun e w' => ∃ P q pc, e = .returned (.slice P q pc) ∧ w'.ownsRow W.heap.size 58 2 (.slice P q pc) q (cellsG (namedS r)) ∧ Below W.heap.size W w' := by
  rcases hr with rfl | rfl | rfl
  · go_enter Try.func41, Try.ntmps41
    go_wp2
    go_ret
    exact ⟨_, _, _, rfl, ownG_made W [(48, 57)] (by decide), (Below.refl _ _).alloc (Nat.le_refl _) _⟩
  · go_enter Try.func41, Try.ntmps41
    go_wp2
    go_ret
    exact ⟨_, _, _, rfl, ownG_made W [(48, 57), (65, 90), (95, 95), (97, 122)] (by decide), (Below.refl _ _).alloc (Nat.le_refl _) _⟩
  · go_enter Try.func41, Try.ntmps41
    go_wp2
    go_ret
    exact ⟨_, _, _, rfl, ownG_made W [(9, 13), (32, 32)] (by decide), (Below.refl _ _).alloc (Nat.le_refl _) _⟩
theorem namedS_wf (r : Int) : ∀ p ∈ namedS r, 0 ≤ p.1 ∧ p.1 ≤ p.2 ∧ p.2 ≤ 1114111 := by
  unfold namedS
  split
  · intro p hp; simp at hp; subst hp; decide
  · split
    · intro p hp; simp at hp; rcases hp with rfl | rfl | rfl | rfl <;> decide
    · split
      · intro p hp; simp at hp; rcases hp with rfl | rfl <;> decide
      · intro p hp; cases hp
theorem rowG_own9 {w : World} {B : Nat} {P : Option Addr} {q pc : Nat} {s : List (Int × Int)} (h : w.ownsRow B 58 2 (.slice P q pc) q (cellsG s)) : RowG w P q s := by
  obtain ⟨A', c', e, h, _⟩ := rowG_of_own h (by have := h.1; rw [cellsG_length] at this; omega)
  injection e with e1 _ _
  rw [e1]
  exact h
/-- The ranges that a letter has are few. -/
theorem namedS_len (r : Int) : (namedS r).length ≤ 4 := by
  unfold namedS
  (repeat' split) <;> simp

def escV (W w' : World) (e : Ending) (r : Int) : Prop :=
  match escL r with
  | none => e = .returned (.tuple #[.slice none 0 0, .bool false, .bool false])
  | some (s, is) => ∃ P q pc, e = .returned (.tuple #[.slice P q pc, .bool is, .bool true]) ∧ w'.ownsRow W.heap.size 58 2 (.slice P q pc) q (cellsG s)
set_option maxHeartbeats 2000000 in
theorem resc_small (r : Int) (hr : r = 100 ∨ r = 119 ∨ r = 115) (W : World) :
    Calls Try.prog 23 #[.int .i64 r] W fun e w' => escV W w' e r ∧ Below W.heap.size W w' := by
  have H1 := Lib.hid fun w => rin_any ⟨#[100, 119, 115]⟩ r w (by decide)
  have hin : decide (r ∈ nums ⟨#[100, 119, 115]⟩) = true := decide_eq_true (by show r ∈ [100, 119, 115]; simp; omega)
  have HIN := Lib.hid hin
  have HN := Lib.hid fun w => rnamed9_any r hr w
  have HV := Lib.hid (show escL r = some (namedS r, false) by unfold escL; rw [if_pos hr])
  clear hin hr
  go_enter Try.func23, Try.ntmps23
  go_wp2_with (first
    | (go_at_call 40; (with_reducible refine (H1.out _).mono ?_); rintro e w1 ⟨rfl, rfl⟩; rw [HIN.out])
    | (go_at_call 41; refine (HN.out _).mono ?_; rintro e w1 ⟨P, q, pc, rfl, ho, hb⟩; have HO := Lib.hid (And.intro ho hb); clear ho hb))
  go_ret3
  refine ⟨?_, HO.out.2⟩
  unfold escV
  rw [HV.out]
  exact ⟨_, _, _, rfl, HO.out.1⟩
set_option maxHeartbeats 2000000 in
theorem resc_big (r : Int) (hr : r = 68 ∨ r = 87 ∨ r = 83) (W : World) :
    Calls Try.prog 23 #[.int .i64 r] W fun e w' => escV W w' e r ∧ Below W.heap.size W w' := by
  have H1 := Lib.hid fun w => rin_any ⟨#[100, 119, 115]⟩ r w (by decide)
  have H2 := Lib.hid fun w => rin_any ⟨#[68, 87, 83]⟩ r w (by decide)
  have HIN := Lib.hid (show decide (r ∈ nums ⟨#[100, 119, 115]⟩) = false from decide_eq_false (by show ¬ r ∈ [100, 119, 115]; simp; omega))
  have HIN2 := Lib.hid (show decide (r ∈ nums ⟨#[68, 87, 83]⟩) = true from decide_eq_true (by show r ∈ [68, 87, 83]; simp; omega))
  have HN := Lib.hid fun w => rnamed9_any (r + 32) (by omega) w
  have HV := Lib.hid (show escL r = some (setOf fun x => !hasL (namedS (r + 32)) x, false) by unfold escL; rw [if_neg (by omega), if_pos hr])
  have hw : IntKind.i64.wrap (r + 32) = r + 32 := by rw [IntKind.wrap_i64]; omega
  clear hr
  go_enter Try.func23, Try.ntmps23
  go_wp2_with (first
    | (go_at_call 40; (with_reducible refine (H1.out _).mono ?_); rintro e w1 ⟨rfl, rfl⟩; rw [HIN.out])
    | (go_at_call 40; (with_reducible refine (H2.out _).mono ?_); rintro e w1 ⟨rfl, rfl⟩; rw [HIN2.out])
    | (go_at_call 41; refine (HN.out _).mono ?_; rintro e w1 ⟨P, q, pc, rfl, ho, hb⟩; have HM := Lib.hid (made_any (namedS (r + 32)) P q pc true w1 (rowG_own9 ho) (by have h := ho.1; rw [cellsG_length] at h; have := namedS_len (r + 32); omega) (namedS_wf _)); have HB := Lib.hid hb; clear ho hb)
    | (go_at_call 38; refine HM.out.mono ?_; rintro e w2 ⟨P2, q2, pc2, rfl, ho, hb⟩; have HO := Lib.hid (And.intro ho hb); clear ho hb))
  go_ret3
  refine ⟨?_, then_ HB.out HO.out.2⟩
  unfold escV
  rw [HV.out]
  have e : (fun x => !hasL (namedS (r + 32)) x) = (fun x => hasL (namedS (r + 32)) x != true) := by
    funext x
    cases hasL (namedS (r + 32)) x <;> rfl
  rw [e]
  exact ⟨_, _, _, rfl, row_base HO.out.1 (fun j hj => Nat.le_trans HB.out.size (row_lt HO.out.1 hj).1)⟩
set_option maxHeartbeats 2000000 in
/-- A letter for one point. -/
theorem resc_one (r d : Int) (hr : r = 110 ∧ d = 10 ∨ r = 114 ∧ d = 13 ∨ r = 116 ∧ d = 9) (W : World) :
    Calls Try.prog 23 #[.int .i64 r] W fun e w' => escV W w' e r ∧ Below W.heap.size W w' := by
  have H1 := Lib.hid fun w => rin_any ⟨#[100, 119, 115]⟩ r w (by decide)
  have H2 := Lib.hid fun w => rin_any ⟨#[68, 87, 83]⟩ r w (by decide)
  have HIN := Lib.hid (show decide (r ∈ nums ⟨#[100, 119, 115]⟩) = false from decide_eq_false (by show ¬ r ∈ [100, 119, 115]; simp; omega))
  have HIN2 := Lib.hid (show decide (r ∈ nums ⟨#[68, 87, 83]⟩) = false from decide_eq_false (by show ¬ r ∈ [68, 87, 83]; simp; omega))
  have HV := Lib.hid (show escL r = some ([(d, d)], true) by
    unfold escL
    rcases hr with ⟨rfl, rfl⟩ | ⟨rfl, rfl⟩ | ⟨rfl, rfl⟩ <;> rfl)
  rcases hr with ⟨rfl, rfl⟩ | ⟨rfl, rfl⟩ | ⟨rfl, rfl⟩
  all_goals
    go_enter Try.func23, Try.ntmps23
    go_wp2_with (first
      | (go_at_call 40; (with_reducible refine (H1.out _).mono ?_); rintro e w1 ⟨rfl, rfl⟩; rw [HIN.out])
      | (go_at_call 40; (with_reducible refine (H2.out _).mono ?_); rintro e w1 ⟨rfl, rfl⟩; rw [HIN2.out]))
    go_ret3
    refine ⟨?_, (Below.refl _ _).alloc (Nat.le_refl _) _⟩
    unfold escV
    rw [HV.out]
    exact ⟨_, _, _, rfl, ownG_made W _ (by decide)⟩
theorem sign_nums : nums ⟨#[46, 94, 36, 124, 40, 41, 91, 93, 123, 125, 42, 43, 63, 92, 45]⟩ = signL := rfl
set_option maxHeartbeats 2000000 in
theorem resc_sign (r : Int) (h1 : ¬ (r = 100 ∨ r = 119 ∨ r = 115)) (h2 : ¬ (r = 68 ∨ r = 87 ∨ r = 83)) (h3 : ¬ (r = 110 ∨ r = 114 ∨ r = 116)) (W : World) :
    Calls Try.prog 23 #[.int .i64 r] W fun e w' => escV W w' e r ∧ Below W.heap.size W w' := by
  have H1 := Lib.hid fun w => rin_any ⟨#[100, 119, 115]⟩ r w (by decide)
  have H2 := Lib.hid fun w => rin_any ⟨#[68, 87, 83]⟩ r w (by decide)
  have H3 := Lib.hid fun w => rin_any ⟨#[46, 94, 36, 124, 40, 41, 91, 93, 123, 125, 42, 43, 63, 92, 45]⟩ r w (by decide)
  have HIN := Lib.hid (show decide (r ∈ nums ⟨#[100, 119, 115]⟩) = false from decide_eq_false (by show ¬ r ∈ [100, 119, 115]; simp; omega))
  have HIN2 := Lib.hid (show decide (r ∈ nums ⟨#[68, 87, 83]⟩) = false from decide_eq_false (by show ¬ r ∈ [68, 87, 83]; simp; omega))
  have n1 : ¬ r = 110 := by omega
  have n2 : ¬ r = 114 := by omega
  have n3 : ¬ r = 116 := by omega
  rw [sign_nums] at H3
  by_cases hs : r ∈ signL
  · have HIN3 := Lib.hid (show decide (r ∈ signL) = true from decide_eq_true hs)
    have HV := Lib.hid (show escL r = some ([(r, r)], true) by
      unfold escL
      rw [if_neg h1, if_neg h2, if_neg n1, if_neg n2, if_neg n3, if_pos hs])
    clear h1 h2 h3 hs
    go_enter Try.func23, Try.ntmps23
    go_wp2_with (first
      | (go_at_call 40; (with_reducible refine (H1.out _).mono ?_); rintro e w1 ⟨rfl, rfl⟩; rw [HIN.out])
      | (go_at_call 40; (with_reducible refine (H2.out _).mono ?_); rintro e w1 ⟨rfl, rfl⟩; rw [HIN2.out])
      | (go_at_call 40; (with_reducible refine (H3.out _).mono ?_); rintro e w1 ⟨rfl, rfl⟩; rw [HIN3.out]))
    go_ret3
    refine ⟨?_, (Below.refl _ _).alloc (Nat.le_refl _) _⟩
    unfold escV
    rw [HV.out]
    exact ⟨_, _, _, rfl, ownG_made W [(r, r)] (by simp)⟩
  · have HIN3 := Lib.hid (show decide (r ∈ signL) = false from decide_eq_false hs)
    have HV := Lib.hid (show escL r = none by
      unfold escL
      rw [if_neg h1, if_neg h2, if_neg n1, if_neg n2, if_neg n3, if_neg hs])
    clear h1 h2 h3 hs
    go_enter Try.func23, Try.ntmps23
    go_wp2_with (first
      | (go_at_call 40; (with_reducible refine (H1.out _).mono ?_); rintro e w1 ⟨rfl, rfl⟩; rw [HIN.out])
      | (go_at_call 40; (with_reducible refine (H2.out _).mono ?_); rintro e w1 ⟨rfl, rfl⟩; rw [HIN2.out])
      | (go_at_call 40; (with_reducible refine (H3.out _).mono ?_); rintro e w1 ⟨rfl, rfl⟩; rw [HIN3.out]))
    go_ret3
    refine ⟨?_, Below.refl _ _⟩
    unfold escV
    rw [HV.out]
    rfl
theorem resc_any (r : Int) (W : World) :
    Calls Try.prog 23 #[.int .i64 r] W fun e w' => escV W w' e r ∧ Below W.heap.size W w' := by
  by_cases h1 : r = 100 ∨ r = 119 ∨ r = 115
  · exact resc_small r h1 W
  by_cases h2 : r = 68 ∨ r = 87 ∨ r = 83
  · exact resc_big r h2 W
  by_cases h3 : r = 110 ∨ r = 114 ∨ r = 116
  · rcases h3 with rfl | rfl | rfl
    · exact resc_one 110 10 (by omega) W
    · exact resc_one 114 13 (by omega) W
    · exact resc_one 116 9 (by omega) W
  · exact resc_sign r h1 h2 h3 W
end Go.Proofs.Ytbhbdhjkicmecaa
/- Nodes in a row that the call owns. -/
namespace Go.Proofs.Ytbhbdhjkicmecaa
open Go Go.RowKit
set_option linter.unusedVariables false
set_option maxRecDepth 20000

/-! ### Moved to another world -/
section
variable {F F' : Nat → Prop} {w w' : World}
theorem RowF.move {A : Option Addr} {n : Nat} {s : List (Int × Int)} (h : RowF F w A n s) (hs : w.heap.size ≤ w'.heap.size) (hk : ∀ b, F b → b < w.heap.size → F' b ∧ w'.heap[b]? = w.heap[b]?) : RowF F' w' A n s := by
  refine ⟨(h.keep hs fun b h1 h2 => (hk b h1 h2).2).1, fun b o hn hA => ?_⟩
  obtain ⟨b', o', hA', hlt, _⟩ := h.1.2 hn
  rw [hA] at hA'
  injection hA' with hA'
  injection hA' with e1 e2
  subst e1
  exact (hk b (h.2 b o hn hA) hlt).1
theorem RowCap.move {A : Option Addr} {n nk ck : Nat} {s : List (Int × Int)} (h : RowCap F w A n s nk ck) (hs : w.heap.size ≤ w'.heap.size) (hk : ∀ b, F b → b < w.heap.size → F' b ∧ w'.heap[b]? = w.heap[b]?) : RowCap F' w' A n s nk ck := ⟨h.1.move hs hk, h.2⟩
theorem WoodAt.move (hs : w.heap.size ≤ w'.heap.size) (hk : ∀ b, F b → b < w.heap.size → F' b ∧ w'.heap[b]? = w.heap[b]?) : ∀ {T : Wood} {b o : Nat}, WoodAt F w T b o → (T.len = 0 ∨ (F b ∧ b < w.heap.size)) → WoodAt F' w' T b o
  | .nil, _, _, _, _ => trivial
  | .cons op s mn mx k x, b, o, ⟨⟨A, D, ns, cs, nk, ck, h1, h2, h3, h4⟩, h5⟩, hb => by
    have hb : F b ∧ b < w.heap.size := by
      rcases hb with hb | hb
      · simp [Wood.len] at hb
      · exact hb
    have hh := (hk b hb.1 hb.2).2
    have hcell : ∀ j, w'.cell? ⟨b, j, none⟩ = w.cell? ⟨b, j, none⟩ := fun j => by simp only [World.cell?, hh]
    refine ⟨⟨A, D, ns, cs, nk, ck, fun j v hv => by rw [hcell]; exact h1 j v hv, h2.move hs hk, h3, fun hn => ?_⟩, WoodAt.move hs hk h5 (.inr hb)⟩
    obtain ⟨b', o', hD, hF, hlt, hw⟩ := h4 hn
    exact ⟨b', o', hD, (hk _ hF hlt).1, by omega, WoodAt.move hs hk hw (.inr ⟨hF, hlt⟩)⟩
theorem KidsAt.move {D : Option Addr} {nk : Nat} {k : Wood} (h : KidsAt F w D nk k) (hs : w.heap.size ≤ w'.heap.size) (hk : ∀ b, F b → b < w.heap.size → F' b ∧ w'.heap[b]? = w.heap[b]?) : KidsAt F' w' D nk k := by
  refine ⟨h.1, fun hn => ?_⟩
  obtain ⟨b, o, hD, hF, hlt, hw⟩ := h.2 hn
  exact ⟨b, o, hD, (hk _ hF hlt).1, by omega, hw.move hs hk (.inr ⟨hF, hlt⟩)⟩
theorem NodeIn.move {v : Value} {T : Wood} (h : NodeIn F w v T) (hs : w.heap.size ≤ w'.heap.size) (hk : ∀ b, F b → b < w.heap.size → F' b ∧ w'.heap[b]? = w.heap[b]?) : NodeIn F' w' v T := by
  obtain ⟨op, s, mn, mx, k, A, D, ns, cs, nk, ck, h1, h2, h3, h4⟩ := h
  exact ⟨op, s, mn, mx, k, A, D, ns, cs, nk, ck, h1, h2, h3.move hs hk, h4.move hs hk⟩
end

/-! ### Nodes as values -/
structure NV where
  op : Int
  A : Option Addr
  ns : Nat
  cs : Nat
  mn : Int
  mx : Int
  D : Option Addr
  nk : Nat
  ck : Nat
def NV.cells (x : NV) : List Value := nodeV x.op x.A x.ns x.cs x.mn x.mx x.D x.nk x.ck
def NV.val (x : NV) : Value := .agg #[.int .i64 x.op, .slice x.A x.ns x.cs, .int .i64 x.mn, .int .i64 x.mx, .slice x.D x.nk x.ck]
def cellsN (xs : List NV) : List Value := xs.flatMap NV.cells
theorem cellsN_length (xs : List NV) : (cellsN xs).length = xs.length * 5 := by
  induction xs with
  | nil => rfl
  | cons p s ih =>
    show (p.cells ++ cellsN s).length = _
    rw [List.length_append, ih, List.length_cons, show p.cells.length = 5 from rfl]
    omega
theorem cellsN_append (a b : List NV) : cellsN (a ++ b) = cellsN a ++ cellsN b := by simp [cellsN]
theorem cellsN_at : ∀ (xs : List NV) (j : Nat) (x : NV), xs[j]? = some x → ∀ i v, x.cells[i]? = some v → (cellsN xs)[j * 5 + i]? = some v
  | [], j, x, h, _, _, _ => by simp at h
  | p :: s, 0, x, h, i, v, hv => by
    simp only [List.getElem?_cons_zero, Option.some.injEq] at h
    subst h
    have hi : i < 5 := (List.getElem?_eq_some_iff.1 hv).1
    show (p.cells ++ cellsN s)[0 * 5 + i]? = _
    rw [Nat.zero_mul, Nat.zero_add, List.getElem?_append_left (show i < p.cells.length from hi)]
    exact hv
  | p :: s, j + 1, x, h, i, v, hv => by
    have ih := cellsN_at s j x (by simpa using h) i v hv
    show (p.cells ++ cellsN s)[(j + 1) * 5 + i]? = _
    rw [List.getElem?_append_right (by show 5 ≤ _; omega), show (j + 1) * 5 + i - p.cells.length = j * 5 + i by show _ - 5 = _; omega]
    exact ih
theorem NV.cells_one (x : NV) : ∀ u ∈ x.cells, u.oneCell' = true := by
  intro u hu
  simp only [NV.cells, nodeV, List.mem_cons, List.not_mem_nil, or_false] at hu
  rcases hu with rfl | rfl | rfl | rfl | rfl <;> rfl

/-- Values that read as a row of nodes. -/
def NodesIn (F : Nat → Prop) (w : World) : List NV → Wood → Prop
  | [], .nil => True
  | x :: xs, .cons op s mn mx k t => (x.op = op ∧ x.mn = mn ∧ x.mx = mx) ∧ RowCap F w x.A x.ns s x.nk x.ck ∧ KidsAt F w x.D x.nk k ∧ NodesIn F w xs t
  | _, _ => False
section
variable {F F' : Nat → Prop} {w w' : World}
theorem NodesIn.move (hs : w.heap.size ≤ w'.heap.size) (hk : ∀ b, F b → b < w.heap.size → F' b ∧ w'.heap[b]? = w.heap[b]?) : ∀ {xs : List NV} {T : Wood}, NodesIn F w xs T → NodesIn F' w' xs T
  | [], .nil, _ => trivial
  | x :: xs, .cons op s mn mx k t, ⟨h1, h2, h3, h4⟩ => ⟨h1, h2.move hs hk, h3.move hs hk, NodesIn.move hs hk h4⟩
  | [], .cons .., h => h.elim
  | _ :: _, .nil, h => h.elim
theorem NodesIn.len : ∀ {xs : List NV} {T : Wood}, NodesIn F w xs T → T.len = xs.length
  | [], .nil, _ => rfl
  | x :: xs, .cons op s mn mx k t, ⟨h1, h2, h3, h4⟩ => by rw [Wood.len, NodesIn.len h4, List.length_cons]
  | [], .cons .., h => h.elim
  | _ :: _, .nil, h => h.elim
theorem NodesIn.app : ∀ {xs ys : List NV} {T U : Wood}, NodesIn F w xs T → NodesIn F w ys U → NodesIn F w (xs ++ ys) (T.app U)
  | [], ys, .nil, U, _, h => h
  | x :: xs, ys, .cons op s mn mx k t, U, ⟨h1, h2, h3, h4⟩, h => ⟨h1, h2, h3, NodesIn.app h4 h⟩
  | [], _, .cons .., _, h, _ => h.elim
  | _ :: _, _, .nil, _, h, _ => h.elim
theorem NodesIn.one {x : NV} {T : Wood} (h : NodesIn F w [x] T) : NodeIn F w x.val T := by
  match T, h with
  | .cons op s mn mx k .nil, ⟨⟨h1, h2, h3⟩, h4, h5, _⟩ =>
    subst h1; subst h2; subst h3
    exact ⟨_, s, _, _, k, x.A, x.D, x.ns, x.cs, x.nk, x.ck, rfl, rfl, h4, h5⟩
  | .cons _ _ _ _ _ (.cons ..), ⟨_, _, _, h⟩ => exact h.elim
theorem NodeIn.one {v : Value} {T : Wood} (h : NodeIn F w v T) : ∃ x : NV, v = x.val ∧ NodesIn F w [x] T := by
  obtain ⟨op, s, mn, mx, k, A, D, ns, cs, nk, ck, rfl, rfl, h3, h4⟩ := h
  exact ⟨⟨op, A, ns, cs, mn, mx, D, nk, ck⟩, rfl, ⟨rfl, rfl, rfl⟩, h3, h4, trivial⟩
theorem NodeIn.len {v : Value} {T : Wood} (h : NodeIn F w v T) : T.len = 1 := by
  obtain ⟨op, s, mn, mx, k, A, D, ns, cs, nk, ck, rfl, rfl, h3, h4⟩ := h
  rfl
theorem NodesIn.wood : ∀ {xs : List NV} {T : Wood} {b o : Nat}, NodesIn F w xs T → (∀ j x, xs[j]? = some x → ∀ i v, x.cells[i]? = some v → w.cell? ⟨b, o + j * 5 + i, none⟩ = some v) → WoodAt F w T b o
  | [], .nil, _, _, _, _ => trivial
  | x :: xs, .cons op s mn mx k t, b, o, ⟨⟨h1, h2, h3⟩, h4, h5, h6⟩, hc => by
    subst h1; subst h2; subst h3
    refine ⟨⟨x.A, x.D, x.ns, x.cs, x.nk, x.ck, fun i v hv => ?_, h4, h5⟩, NodesIn.wood h6 fun j y hy i v hv => ?_⟩
    · have := hc 0 x rfl i v hv
      rwa [Nat.zero_mul, Nat.add_zero] at this
    · have := hc (j + 1) y (by simpa using hy) i v hv
      rwa [show o + (j + 1) * 5 + i = o + 5 + j * 5 + i by omega] at this
  | [], .cons .., _, _, h, _ => h.elim
  | _ :: _, .nil, _, _, h, _ => h.elim
end

/-- Made since B, and not the row's own block. -/
def Fr (B : Nat) (V : Value) (b : Nat) : Prop := B ≤ b ∧ V.ownBlock ≠ some b
theorem info_node : (Try.prog.info? 31).map (fun i => (i.zero, i.size, i.bytes)) = some (some (.agg #[.int .i64 0, .slice none 0 0, .int .i64 0, .int .i64 0, .slice none 0 0]), 5, 72) := by kernel_rfl
theorem row_cellsN {w : World} {B : Nat} {P : Option Addr} {q pc : Nat} {xs : List NV} (h : w.ownsRow B 31 5 (.slice P q pc) q (cellsN xs)) (hq : 0 < q) : ∃ b, P = some ⟨b, 0, none⟩ ∧ B ≤ b ∧ b < w.heap.size ∧ q = xs.length ∧ q ≤ pc ∧ pc ≤ maxLen ∧ ∀ j x, xs[j]? = some x → ∀ i v, x.cells[i]? = some v → w.cell? ⟨b, 0 + j * 5 + i, none⟩ = some v := by
  have hl := h.1
  rw [cellsN_length] at hl
  rcases h.2 with ⟨e, h0⟩ | ⟨g, cap, cur, e, hB, hg, hnc, hcm, hcs, ht⟩
  · omega
  · injection e with e1 _ e3
    subst e1; subst e3
    refine ⟨g, rfl, hB, (Array.getElem?_eq_some_iff.1 hg).1, by omega, hnc, hcm, fun j x hx i v hv => ?_⟩
    have hj : j < xs.length := (List.getElem?_eq_some_iff.1 hx).1
    have hi : i < 5 := (List.getElem?_eq_some_iff.1 hv).1
    have := cellsN_at xs j x hx i v hv
    rw [cell_of_row w g (0 + j * 5 + i) cur 31 (0, 0) hg, ← this, ← ht, List.getElem?_take_of_lt (by omega), Array.getElem?_toList, Nat.zero_add]
/-- A node behind those of a row. -/
theorem push_node {w : World} {B : Nat} {P : Option Addr} {q pc : Nat} {xs : List NV} {T n : Wood} {x : NV} (h : w.ownsRow B 31 5 (.slice P q pc) q (cellsN xs)) (hT : NodesIn (Fr B (.slice P q pc)) w xs T) (hx : NodesIn (Fr B (.slice P q pc)) w [x] n) (hq : q ≤ 100000) (hb : B ≤ w.heap.size) :
    ∃ P' pc' w', (Builtin.append_ #[29, 29] 29 #[.slice P q pc, .slice (some ⟨w.heap.size, 0, none⟩) 1 1]).run Try.prog (w.alloc (.cells x.cells.toArray 31)) = .ok (.slice P' (q + 1) pc') w' ∧
      w'.ownsRow B 31 5 (.slice P' (q + 1) pc') (q + 1) (cellsN (xs ++ [x])) ∧ NodesIn (Fr B (.slice P' (q + 1) pc')) w' (xs ++ [x]) (T.app n) ∧ Below B w w' := by
  obtain ⟨i0, hi, hz0, hz1, hz2⟩ := info_parts info_node
  obtain ⟨W, hW⟩ : ∃ W, W = w.alloc (.cells x.cells.toArray 31) := ⟨_, rfl⟩
  have hws : W.heap.size = w.heap.size + 1 := by rw [hW]; simp
  have hold : ∀ k, k < w.heap.size → W.heap[k]? = w.heap[k]? := fun k hk => by rw [hW]; exact Below.heap_alloc w _ k hk
  have hown : W.ownsRow B 31 5 (.slice P q pc) q (cellsN xs) := row_keep h fun k hk _ => hold k hk
  have hcells : ∀ j u, x.cells[j]? = some u → W.cell? ((⟨w.heap.size, 0, none⟩ : Addr).add j) = some u := by
    intro j u hu
    rw [show (⟨w.heap.size, 0, none⟩ : Addr).add j = ⟨w.heap.size, 0 + j, none⟩ by unfold Addr.add; split <;> simp_all, hW, cell_of_row _ w.heap.size (0 + j) _ 31 (0, 0) (heap_alloc_new w _), Nat.zero_add]
    simpa using hu
  obtain ⟨V', w', h1, h2, h3, _, h4⟩ := run_append_own_at (P := Try.prog) W B 29 29 31 i0 _ 5 72 Try.underlying29 hi hz0 hz1 hz2 rfl (by decide) _ q _ hown ⟨w.heap.size, 0, none⟩ 1 1 x.cells rfl hcells x.cells_one (by unfold maxLen; omega) (by omega) (by omega)
  have hbW : Below B w W := by rw [hW]; exact (Below.refl _ _).alloc hb _
  have hb' : Below B w w' := hbW.grown h3 (by omega) (by intro k hk; exact (row_lt hown hk).1)
  have key : ∀ b, Fr B (.slice P q pc) b → b < w.heap.size → Fr B V' b ∧ w'.heap[b]? = w.heap[b]? := by
    intro b hF hlt
    refine ⟨⟨hF.1, fun e => ?_⟩, (h3.block b (by omega) fun e => hF.2 e.symm).trans (hold b hlt)⟩
    rcases h4 with h4 | h4
    · exact hF.2 (h4 ▸ e)
    · rw [h4] at e
      injection e with e
      omega
  have hsz : w.heap.size ≤ w'.heap.size := Nat.le_trans (by omega) h3.size
  have hN : NodesIn (Fr B V') w' (xs ++ [x]) (T.app n) := (hT.move hsz key).app (hx.move hsz key)
  have e : cellsN xs ++ x.cells = cellsN (xs ++ [x]) := by rw [cellsN_append]; simp [cellsN]
  rw [e] at h2
  rcases h2.2 with ⟨rfl, h0⟩ | ⟨b, cap, cu, rfl, _⟩
  · omega
  · exact ⟨_, _, w', by rw [← hW]; exact h1, h2, hN, hb'⟩
theorem nilN (w : World) (B : Nat) : w.ownsRow B 31 5 (.slice none 0 0) 0 (cellsN []) := World.ownsRow_nil _ _ _ _

theorem oneN_one {op : Int} {T : Wood} (h : T.len = 1) : oneN op T = T := by
  obtain ⟨o, s, x, z, k, rfl⟩ := Wood.one_of_len h
  rfl
theorem oneN_more {op : Int} {T : Wood} (h : 2 ≤ T.len) : oneN op T = .cons op [] 0 0 T .nil := by
  match T, h with
  | .cons o s x z k (.cons ..), _ => rfl
  | .cons o s x z k .nil, h => simp [Wood.len] at h
  | .nil, h => simp [Wood.len] at h
theorem oneN_len (op : Int) (T : Wood) : (oneN op T).len = 1 := by
  match T with
  | .nil => rfl
  | .cons o s x z k .nil => rfl
  | .cons o s x z k (.cons ..) => rfl
theorem rowF_nil (F : Nat → Prop) (w : World) : RowF F w none 0 [] := ⟨RowG.nil_, fun _ _ h => absurd h (by omega)⟩
theorem kids_nil (F : Nat → Prop) (w : World) : KidsAt F w none 0 .nil := ⟨rfl, fun h => absurd h (by omega)⟩
/-- A node without ranges and kids. -/
theorem node_leaf (F : Nat → Prop) (w : World) (op : Int) : NodeIn F w (.agg #[.int .i64 op, .slice none 0 0, .int .i64 0, .int .i64 0, .slice none 0 0]) (leaf op []) :=
  ⟨op, [], 0, 0, .nil, none, none, 0, 0, 0, 0, rfl, rfl, ⟨rowF_nil F w, Nat.le_refl 0⟩, kids_nil F w⟩
/-- The cells of a block of one node. -/
theorem box_facts {w : World} {r : Nat} {v0 v1 v2 v3 v4 : Value} (h : w.heap[r]? = some (.cells #[v0, v1, v2, v3, v4] 31 (0, 0))) :
    w.cell? ⟨r, 0, none⟩ = some v0 ∧ w.cell? ⟨r, 1, none⟩ = some v1 ∧ w.cell? ⟨r, 2, none⟩ = some v2 ∧ w.cell? ⟨r, 3, none⟩ = some v3 ∧ w.cell? ⟨r, 4, none⟩ = some v4 ∧ ∀ j, w.frozen? ⟨r, j, none⟩ = false :=
  ⟨cell_of_row w r 0 _ _ (0, 0) h, cell_of_row w r 1 _ _ (0, 0) h, cell_of_row w r 2 _ _ (0, 0) h, cell_of_row w r 3 _ _ (0, 0) h, cell_of_row w r 4 _ _ (0, 0) h, fun j => by simp [World.frozen?, h]⟩
/-- A node is stored there. -/
def put5 (w : World) (r : Nat) (a b c d e : Value) : World := ((((w.setCell ⟨r, 0, none⟩ a).setCell ⟨r, 1, none⟩ b).setCell ⟨r, 2, none⟩ c).setCell ⟨r, 3, none⟩ d).setCell ⟨r, 4, none⟩ e
theorem put5_heap {w : World} {r : Nat} {v0 v1 v2 v3 v4 : Value} (h : w.heap[r]? = some (.cells #[v0, v1, v2, v3, v4] 31 (0, 0))) (a b c d e : Value) : (put5 w r a b c d e).heap[r]? = some (.cells #[a, b, c, d, e] 31 (0, 0)) :=
  heap_setCell_same _ r 4 _ _ _ (heap_setCell_same _ r 3 _ _ _ (heap_setCell_same _ r 2 _ _ _ (heap_setCell_same _ r 1 _ _ _ (heap_setCell_same _ r 0 _ _ _ h))))
theorem put5_below {B : Nat} (w : World) {r : Nat} (hr : B ≤ r) (a b c d e : Value) : Below B w (put5 w r a b c d e) :=
  (((((Below.refl B w).setCell (p := ⟨r, 0, none⟩) hr a).setCell (p := ⟨r, 1, none⟩) hr b).setCell (p := ⟨r, 2, none⟩) hr c).setCell (p := ⟨r, 3, none⟩) hr d).setCell (p := ⟨r, 4, none⟩) hr e
theorem put5_size (w : World) (r : Nat) (a b c d e : Value) : (put5 w r a b c d e).heap.size = w.heap.size := by simp [put5]
theorem put5_other (w : World) {r k : Nat} (hk : k ≠ r) (a b c d e : Value) : (put5 w r a b c d e).heap[k]? = w.heap[k]? :=
  ((((Below.heap_setCell _ _ _ _ hk).trans (Below.heap_setCell _ _ _ _ hk)).trans (Below.heap_setCell _ _ _ _ hk)).trans (Below.heap_setCell _ _ _ _ hk)).trans (Below.heap_setCell _ _ _ _ hk)
theorem rowF_own {w : World} {B : Nat} {P : Option Addr} {q pc : Nat} {s : List (Int × Int)} (h : w.ownsRow B 58 2 (.slice P q pc) q (cellsG s)) : RowF (fun b => B ≤ b) w P q s := by
  refine ⟨rowG_own9 h, fun b o hq hP => ?_⟩
  subst hP
  rcases h.2 with ⟨e, h0⟩ | ⟨g, cap, cur, e, hB, _⟩
  · injection e with e1 _ _; cases e1
  · injection e with e1 _ _
    injection e1 with e1
    injection e1 with e1 _ _
    subst e1
    exact hB

theorem RowF.below {F : Nat → Prop} {w w' : World} {A : Option Addr} {n : Nat} {s : List (Int × Int)} (h : RowF F w A n s) (hb : Below w.heap.size w w') : RowF F w' A n s := h.keep hb.size fun b _ hlt => hb.block b hlt
theorem put5_is (w : World) (r : Nat) (a b c d e : Value) : ((((w.setCell ⟨r, 0, none⟩ a).setCell ⟨r, 1, none⟩ b).setCell ⟨r, 2, none⟩ c).setCell ⟨r, 3, none⟩ d).setCell ⟨r, 4, none⟩ e = put5 w r a b c d e := rfl
end Go.Proofs.Ytbhbdhjkicmecaa
