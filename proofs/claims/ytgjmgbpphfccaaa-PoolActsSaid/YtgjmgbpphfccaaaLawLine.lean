/- PoolLine: the walk. -/
import Derived.Test.YtgjmgbpphfccaaaAwake6
namespace Go.Proofs.Ytgjmgbpphfccaaa
open Go Go.RowKit
set_option linter.unusedVariables false

theorem lawLine_many (a : Int) (A : Option Addr) (n c : Nat) (w : World) (hl : 60 < n) (hn : n ≤ maxLen) :
    Calls Try.prog 6 #[.int .i64 a, .slice A n c] w fun e w' => e = .returned (.bool true) ∧ Below w.heap.size w w' := by
  unfold maxLen at hn
  have hd : decide ((60 : Int) < (n : Int)) = true := by simp; omega
  go_enter Try.func6, Try.ntmps6
  go_wp2_with fail
  refine (awake6_any _).mono ?_; rintro e w1 ⟨rfl, hbel⟩
  go_wp2_with fail
  refine (awake6_any _).mono ?_; rintro e w2 ⟨rfl, hbel2⟩
  go_wp2_with fail
  go_ret
  exact ⟨rfl, hbel.trans (Below.mono hbel2 hbel.size)⟩

theorem good_take1 {n size M : Nat} {s : St} (h : Good n size M s) (hM : 1 ≤ M) : Good n size M (takeS s) := by
  refine { good_take h with low := fun x hx => ?_ }
  obtain ⟨os, hs, ln⟩ := s
  rcases ln with _ | ⟨i, r⟩
  · exact h.low x hx
  · simp only [takeS] at hx
    rcases List.mem_or_eq_of_mem_set hx with h1 | h1
    · exact h.low x h1
    · omega
/-- The row lies outside the pool's blocks. -/
def Out (F : Nat → Prop) (V : Value) : Prop := ∀ k, V.ownBlock = some k → ¬ F k
theorem Out.step {F F' : Nat → Prop} {V : Value} {w w' : World} {B n : Nat} {e : TypeId} {xs : List Value} (h : Out F V) (hs : Step F F' w w') (ho : w.ownsRow B e 1 V n xs) : Out F' V := fun k hk hF => by
  rcases hs.2 k hF with h1 | h1
  · exact h k hk h1
  · have := (row_lt ho hk).2
    omega
theorem PoolS.grown {w w' : World} {B g size : Nat} {F : Nat → Prop} {s : St} {V : Value} (h : PoolS w B F g size s) (hg : w.grownBy w' V.ownBlock) (ho : Out F V) : PoolS w' B F g size s := by
  obtain ⟨gb, FV, Vs, hp⟩ := h
  exact ⟨gb, FV, Vs, hp.keep (fun k hk => hg.block k (hp.low k hk).2 (fun e => ho k e.symm hk)) hg.size⟩
theorem Out.pushed {w : World} {B g size : Nat} {F : Nat → Prop} {s : St} {V V' : Value} (h : PoolS w B F g size s) (ho : Out F V) (hat : ∀ k, V'.ownBlock = some k → V.ownBlock = some k ∨ w.heap.size ≤ k) : Out F V' := fun k hk hF => by
  rcases hat k hk with h1 | h1
  · exact ho k h1 hF
  · have := (h.low hF).2
    omega
theorem ints_get (l : List Nat) (i : Nat) (h : i < l.length) : (ints l).getD i 0 = ((l.getD i 0 : Nat) : Int) := by
  simp [ints, List.getD, List.getElem?_eq_getElem h]

set_option maxHeartbeats 4000000 in
set_option maxRecDepth 10000 in
theorem lawLine_short (a : Int) (A : Option Addr) (n c : Nat) (xs : List Int) (W : World) (hn : n ≤ 60) (hr : RowI .u8 W A n xs) (hx : ∀ c ∈ xs, 0 ≤ c ∧ c < 256) (ha : -9223372036854775808 ≤ a ∧ a ≤ 9223372036854775807) :
    Calls Try.prog 6 #[.int .i64 a, .slice A n c] W fun e w' => e = .returned (.bool true) ∧ Below W.heap.size W w' := by
  have hd : decide ((60 : Int) < (n : Int)) = false := by simp; omega
  obtain ⟨t, ht⟩ : ∃ t, a.tmod 20 = t := ⟨_, rfl⟩
  have ht1 : -20 < t := by have := Int.lt_tmod_of_pos a (show (0 : Int) < 20 by decide); omega
  have ht2 : t < 20 := by have := Int.tmod_lt_of_pos a (show (0 : Int) < 20 by decide); omega
  obtain ⟨k, hk⟩ : ∃ k : Nat, 1 + t % 20 = (k : Int) := Int.eq_ofNat_of_zero_le (by omega)
  have hk1 : 1 ≤ k ∧ k ≤ 20 := by omega
  have HR := Lib.hid hr
  have HX := Lib.hid hx
  have hnew : ∀ w, Calls Try.prog 9 #[.int .i64 (k : Int), .int .i64 1] w fun e w' => ∃ F g, e = .returned (.tuple #[.pointer (some ⟨g, 0, none⟩), .int .i64 0]) ∧ PoolS w' w.heap.size F g 1 ⟨List.replicate k [], List.replicate k 0, List.range k⟩ ∧ Below w.heap.size w w' := fun w => newAny k 1 (by omega) (by decide) w
  have HNEW := Lib.hid hnew
  have G0 := Lib.hid ((good_new k 1).more (show 0 ≤ 1 by omega))
  clear hr hx hnew
  go_enter Try.func6, Try.ntmps6
  go_wp2_with fail
  refine (awake6_any _).mono ?_; rintro e w1 ⟨rfl, hb1⟩
  go_wp2_with fail
  refine (HNEW.out _).mono ?_; rintro e w2 ⟨F2, g, rfl, hp2, hb2⟩
  have HT := Lib.hid ht
  have HK := Lib.hid hk
  clear ht hk
  have hWB := hb1.size
  have hb02 : Below W.heap.size W w2 := hb1.trans (Below.mono hb2 hWB)
  obtain ⟨B, hB⟩ : ∃ B, B = w1.heap.size := ⟨_, rfl⟩
  rw [← hB] at hp2 hWB
  clear hB hb1 hb2
  have HP2 := Lib.hid hp2; clear hp2
  have HB2 := Lib.hid hb02; clear hb02
  go_wp2_with fail
  go_loopw [8] (fun v8 wr => ∃ (i : Nat) (F : Nat → Prop) (s : St), i ≤ k ∧ v8 = .int .i64 (i : Int) ∧ Hid (PoolS wr B F g 1 s) ∧ Hid (Good k 1 1 s) ∧ Hid (s.ln = (List.range k).drop i) ∧ Hid (Below W.heap.size W wr)) (fun v8 _ => k - (intOf v8).toNat)
  case atStart => exact ⟨0, F2, _, by omega, rfl, HP2, G0, Lib.hid rfl, HB2⟩
  case round =>
    obtain ⟨i, F, s, hi, rfl, HP, HG, HL, HB⟩ := hrel
    clear HP2 HB2 G0
    by_cases hlt : i < k
    · have hln : s.ln = i :: (List.range k).drop (i + 1) := by
        rw [HL.out, List.drop_eq_getElem_cons (by simpa using hlt)]
        simp
      have ht := takeAny HP.out HG.out (by omega)
      rw [show takeX s = (i : Int) by simp [takeX, hln], show takeE s = 0 by simp [takeE, hln]] at ht
      have HG' := Lib.hid (good_take1 HG.out (by omega))
      have HL' : Hid ((takeS s).ln = (List.range k).drop (i + 1)) := Lib.hid (by simp [takeS, hln])
      have HTK := Lib.hid ht
      clear hln ht
      go_wp2_with fail
      refine HTK.out.mono ?_; rintro e w3 ⟨rfl, F3, hp3, hs3⟩
      have hb3 : Below W.heap.size W w3 := HB.out.trans (Below.mono (hs3.below HP.out) hWB)
      have HP3 := Lib.hid hp3; clear hp3 hs3
      have HB3 := Lib.hid hb3; clear hb3
      go_wp2_with fail
      refine ⟨⟨i + 1, F3, takeS s, by omega, by go_num, HP3, HG', HL', HB3⟩, by simp [intOf]; omega⟩
    · have HLN : Hid (s.ln = []) := Lib.hid (by rw [HL.out]; simp; omega)
      clear HL
      go_wp2_with fail
      clear hi hlt
      go_loopw [11, 12] (fun v11 v12 wr => ∃ (i : Nat) (F : Nat → Prop) (s : St) (P : Option Addr) (m pc : Nat), i ≤ n ∧ v12 = .int .i64 (i : Int) ∧ v11 = .slice P m pc ∧ m ≤ 64 ∧ Hid (PoolS wr B F g 1 s) ∧ Hid (Good k 1 1 s) ∧ Hid (s.ln.length = m) ∧
        Hid (wr.ownsRow B 3 1 (.slice P m pc) m (iv s.ln)) ∧ Hid (Out F (.slice P m pc)) ∧ Hid (Below W.heap.size W wr)) (fun _ v12 _ => n - (intOf v12).toNat)
      case atStart => exact ⟨0, F, s, none, 0, 0, by omega, rfl, rfl, by omega, HP, HG, Lib.hid (by rw [HLN.out]; rfl), Lib.hid (by rw [HLN.out]; exact World.ownsRow_nil _ _ _ _), Lib.hid (fun k h => by cases h), HB⟩
      case round =>
        clear HP HG HLN HB
        obtain ⟨i, F, s, P, m, pc, hi, rfl, rfl, hm64, HP, HG, HM, HO, HU, HB⟩ := hrel
        by_cases hlt : i < n
        · obtain ⟨b, o, rfl, hbl, hc⟩ := HR.out.2 (by omega)
          have hcell : wr.cell? ⟨b, o + i, none⟩ = some (.int .u8 (xs.getD i 0)) := (HB.out.cell (p := ⟨b, o + i, none⟩) hbl).trans (hc i hlt)
          have hv : 0 ≤ xs.getD i 0 ∧ xs.getD i 0 < 256 := by
            have h1 : i < xs.length := by rw [HR.out.1]; exact hlt
            rw [List.getD, List.getElem?_eq_getElem h1]
            exact HX.out _ (List.getElem_mem h1)
          obtain ⟨v, hvv⟩ : ∃ v, v = xs.getD i 0 := ⟨_, rfl⟩
          rw [← hvv] at hcell hv
          obtain ⟨hv0, hv1⟩ := hv
          clear hc hvv
          obtain ⟨x, hx⟩ : ∃ x : Nat, v % (k : Int) = (x : Int) := Int.eq_ofNat_of_zero_le (Int.emod_nonneg _ (by omega))
          have hxk : x < k := by have := Int.emod_lt_of_pos v (show (0 : Int) < k by omega); omega
          have hhn := HG.out.hn
          have HDR := Lib.hid (dropAny HP.out HG.out (by omega) (by omega) (x : Int))
          have HGD := Lib.hid (good_drop HG.out (x : Int))
          by_cases h0 : heldL s.hs (x : Int) = 0
          · have HDR' : Hid (Calls Try.prog 20 #[.pointer (some ⟨g, 0, none⟩), .int .i64 (x : Int)] wr fun e w' => e = .returned (.int .i64 2) ∧ ∃ F', PoolS w' B F' g 1 s ∧ Step F F' wr w') := Lib.hid (by
              have := HDR.out
              rw [show turnE s (x : Int) = 2 by simp [turnE, h0], show dropS s (x : Int) = s by simp [dropS, h0]] at this
              exact this)
            clear h0 HDR HGD hhn
            go_wp2_with fail
            refine HDR'.out.mono ?_; rintro e w3 ⟨rfl, F3, hp3, hs3⟩
            have hb3 : Below W.heap.size W w3 := HB.out.trans (Below.mono (hs3.below HP.out) hWB)
            have HO3 := Lib.hid (row_moved HO.out hs3.1 HU.out)
            have HU3 := Lib.hid (HU.out.step hs3 HO.out)
            have HP3 := Lib.hid hp3; clear hp3 hs3
            have HB3 := Lib.hid hb3; clear hb3 hx
            go_wp2_with fail
            refine ⟨⟨i + 1, F3, s, P, m, pc, by omega, by go_num, rfl, hm64, HP3, HG, HM, HO3, HU3, HB3⟩, by simp [intOf]; omega⟩
          · have h1 : heldL s.hs (x : Int) = 1 := by have := HG.out.held (x : Int); omega
            have HDR' : Hid (Calls Try.prog 20 #[.pointer (some ⟨g, 0, none⟩), .int .i64 (x : Int)] wr fun e w' => e = .returned (.int .i64 0) ∧ ∃ F', PoolS w' B F' g 1 (dropS s (x : Int)) ∧ Step F F' wr w') := Lib.hid (by
              have := HDR.out
              rw [show turnE s (x : Int) = 0 by simp [turnE, h1]] at this
              exact this)
            have hdl : (dropS s (x : Int)).ln = s.ln ++ [x] := by simp [dropS, h1]
            have hl2 : (dropS s (x : Int)).ln.length = m + 1 := by rw [hdl]; simp [HM.out]
            have hm1 : m + 1 ≤ 64 := by have := HGD.out.line; omega
            have HDL := Lib.hid hdl
            have HL2 := Lib.hid hl2
            clear h0 h1 HDR hhn hdl hl2
            go_wp2_with fail
            refine HDR'.out.mono ?_; rintro e w3 ⟨rfl, F3, hp3, hs3⟩
            have hb3 : Below W.heap.size W w3 := HB.out.trans (Below.mono (hs3.below HP.out) hWB)
            have ho3 := row_moved HO.out hs3.1 HU.out
            have hu3 := HU.out.step hs3 HO.out
            obtain ⟨v4, w4, happ, hown4, hgr4, hat4⟩ := push_at 41 3 (.int .i64 0) 8 Try.underlying41 info_int rfl w3 B (.slice P m pc) m _ ho3 (.int .i64 (x : Int)) rfl (by omega) (by unfold maxLen; omega) (by have := hp3.low hp3.fg; omega)
            have hp4 := hp3.grown hgr4 hu3
            have hu4 := Out.pushed hp3 hu3 hat4
            have hb4 : Below W.heap.size W w4 := hb3.grown hgr4 hb3.size (fun j hj => by have := (row_lt ho3 hj).1; omega)
            obtain ⟨P4, c4, rfl, _⟩ := own_cells hown4
            have HO4 : Hid (w4.ownsRow B 3 1 (.slice P4 (m + 1) c4) (m + 1) (iv (dropS s (x : Int)).ln)) := Lib.hid (by rw [HDL.out, iv_append]; simpa [iv, ints] using hown4)
            have HAPP := Lib.hid happ
            have HP4 := Lib.hid hp4
            have HU4 := Lib.hid hu4
            have HB4 := Lib.hid hb4
            clear happ hp4 hu4 hb4 hown4 hgr4 hat4 hu3 ho3 hb3 hs3 hp3
            go_wp2_with (at_builtin; refine wpList_append_run rfl _ _ 41 rfl rfl _ _ _ _ rfl rfl HAPP.out ?_)
            refine ⟨⟨i + 1, F3, dropS s (x : Int), P4, m + 1, c4, by omega, by go_num, rfl, hm1, HP4, HGD, HL2, HO4, HU4, HB4⟩, by simp [intOf]; omega⟩
        · have HL0 := HM.out
          obtain ⟨L, hL⟩ : ∃ L, L = s.ln := ⟨_, rfl⟩
          rw [← hL] at HO HL0
          have HLL : Hid (s.ln = L.drop 0) := Lib.hid (by rw [hL]; rfl)
          have HLM := Lib.hid HL0
          clear hL HL0 HM
          go_wp2_with fail
          clear hlt hi
          go_loopw [14] (fun v14 wr => ∃ (i : Nat) (F : Nat → Prop) (s : St), i ≤ m ∧ v14 = .int .i64 (i : Int) ∧ Hid (PoolS wr B F g 1 s) ∧ Hid (Good k 1 1 s) ∧ Hid (s.ln = L.drop i) ∧
            Hid (wr.ownsRow B 3 1 (.slice P m pc) m (iv L)) ∧ Hid (Out F (.slice P m pc)) ∧ Hid (Below W.heap.size W wr)) (fun v14 _ => m - (intOf v14).toNat)
          case atStart => exact ⟨0, F, s, by omega, rfl, HP, HG, HLL, HO, HU, HB⟩
          case round =>
            clear HP HG HLL HO HU HB
            obtain ⟨i, F, s, hi, rfl, HP, HG, HL, HO, HU, HB⟩ := hrel
            by_cases hlt : i < m
            · obtain ⟨y, hy⟩ : ∃ y, L[i]? = some y := ⟨_, List.getElem?_eq_getElem (by rw [HLM.out]; exact hlt)⟩
              have hln : s.ln = y :: L.drop (i + 1) := by
                obtain ⟨h1, h2⟩ := List.getElem?_eq_some_iff.1 hy
                rw [HL.out, List.drop_eq_getElem_cons h1, h2]
              have ht := takeAny HP.out HG.out (by omega)
              rw [show takeX s = (y : Int) by simp [takeX, hln], show takeE s = 0 by simp [takeE, hln]] at ht
              have HG' := Lib.hid (good_take1 HG.out (by omega))
              have HL' : Hid ((takeS s).ln = L.drop (i + 1)) := Lib.hid (by simp [takeS, hln])
              have HTK := Lib.hid ht
              have HY := Lib.hid hy
              clear hln ht hy
              go_wp2_with fail
              refine HTK.out.mono ?_; rintro e w3 ⟨rfl, F3, hp3, hs3⟩
              have hb3 : Below W.heap.size W w3 := HB.out.trans (Below.mono (hs3.below HP.out) hWB)
              have ho3 := row_moved HO.out hs3.1 HU.out
              have HU3 := Lib.hid (HU.out.step hs3 HO.out)
              obtain ⟨A', c', hA', _, _, hA0, hA1⟩ := own_cells ho3
              injection hA' with e1 _ e3
              subst e1; subst e3
              have hcell : ∃ bb, P = some ⟨bb, 0, none⟩ ∧ w3.cell? ⟨bb, i, none⟩ = some (.int .i64 (y : Int)) := by
                rcases P with _ | p
                · have := (hA0 rfl).1; omega
                · obtain ⟨bb, rfl, _, _, hcc, _⟩ := hA1 p rfl
                  exact ⟨bb, rfl, hcc i _ (by simp [iv, ints, HY.out])⟩
              obtain ⟨bb, rfl, hce⟩ := hcell
              have HO3 := Lib.hid ho3
              have HP3 := Lib.hid hp3
              have HB3 := Lib.hid hb3
              clear hp3 hs3 hb3 ho3 hA0 hA1
              go_wp2_with fail
              refine ⟨⟨i + 1, F3, takeS s, by omega, by go_num, HP3, HG', HL', HO3, HU3, HB3⟩, by simp [intOf]; omega⟩
            · have hln : s.ln = [] := by rw [HL.out]; exact List.drop_of_length_le (by rw [HLM.out]; omega)
              have ht := takeAny HP.out HG.out (by omega)
              rw [show takeX s = 0 by simp [takeX, hln], show takeE s = 19 by simp [takeE, hln]] at ht
              have HTK := Lib.hid ht
              clear hln ht
              go_wp2_with fail
              refine HTK.out.mono ?_; rintro e w3 ⟨rfl, F3, hp3, hs3⟩
              have hb3 : Below W.heap.size W w3 := HB.out.trans (Below.mono (hs3.below HP.out) hWB)
              have HB3 := Lib.hid hb3
              clear hp3 hs3 hb3
              go_wp2_with fail
              go_ret
              exact ⟨rfl, HB3.out⟩

theorem lawLine (a : Int) (A : Option Addr) (n c : Nat) (xs : List Int) (W : World) (h0 : (Lit.int .i64 a).wf = true)
    (h1 : (A = none ∧ n = 0 ∧ c = 0 ∧ xs = []) ∨
      ∃ x, A = some x ∧ n ≤ c ∧ c ≤ maxLen ∧ xs.length = c ∧ (∀ i, i < xs.length → W.cell? (x.add i) = some (.int .u8 (xs.getD i 0))) ∧ ∀ n ∈ xs, (Lit.int .u8 n).wf = true) :
    Calls Try.prog 6 #[.int .i64 a, .slice A n c] W fun e w' => e = .returned (.bool true) ∧ Below W.heap.size W w' := by
  obtain ⟨hr1, hc1, hm1, hn1, hw1⟩ := rowI_of_row h1
  have hb : -9223372036854775808 ≤ a ∧ a ≤ 9223372036854775807 := by
    simp [Lit.wf, IntKind.min, IntKind.max, IntKind.signed, IntKind.bits] at h0
    omega
  by_cases hl : 60 < n
  · exact lawLine_many a A n c W hl (Nat.le_trans hc1 hm1)
  · exact lawLine_short a A n c _ W (by omega) hr1 (fun x hx => byte_of_wf (hw1 x hx)) hb
end Go.Proofs.Ytgjmgbpphfccaaa
