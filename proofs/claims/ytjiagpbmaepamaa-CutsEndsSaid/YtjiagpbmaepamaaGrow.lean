/- slices.Grow of nil, and slices.Concat of any list of slices of octets; cuts.Join. -/
import Derived.Test.YtjiagpbmaepamaaOwn
import Derived.Test.YtjiagpbmaepamaaCutS
import Derived.Test.YtjiagpbmaepamaaClone
import Derived.Lib.AppendZerosOnto
namespace Go.Proofs.Ytjiagpbmaepamaa
open Go Go.RowKit
set_option linter.unusedVariables false

theorem grow_none (w : World) :
    Calls Try.prog 21 #[.slice none 0 0, .int .i64 0] w fun e w' => e = .returned (.slice none 0 0) ∧ w = w' := by
  go_enter Try.func21, Try.ntmps21
  go_wp2
  go_ret
  exact ⟨rfl, rfl⟩

set_option maxHeartbeats 1000000 in
theorem grow_some (w : World) (N : Nat) (h0 : 0 < N) (hN : N ≤ 1000000) :
    Calls Try.prog 21 #[.slice none 0 0, .int .i64 (N : Int)] w fun e w' => ∃ v, e = .returned v ∧ w'.ownsRow w.heap.size 5 1 v 0 (([] : List Int).map (Value.int .u8)) ∧ Below w.heap.size w w' := by
  obtain ⟨i0, hi, hz0, hz1, hz2⟩ := info_parts info_u8
  have hcapn : Builtin.nextslicecap N 0 = N := by
    unfold Builtin.nextslicecap
    simp [h0]
  have h := Lib.run_append_grow_zeros (P := Try.prog) w 22 3 22 5 i0 (.int .u8 0) .i64 .i64 Try.underlying22 Try.underlying3 hi hz0 none 0 0 [] (run_firstCells_none w.drew i0.size 0 0 0) N h0 (by rw [hz1]; decide) (by omega) (by omega) (by rw [hz2]; omega) (by rw [hz2, Nat.zero_add, hcapn]; omega)
  have hG := grownCap_ge w N 0 5
  have hG2 := grownCap_le_maxLen w N 0 5 (by unfold maxLen; omega)
  rw [Nat.zero_add] at h
  obtain ⟨G, hGe⟩ : ∃ G, G = grownCap w N 0 5 := ⟨_, rfl⟩
  rw [← hGe] at h hG hG2
  obtain ⟨cur, hcur⟩ : ∃ cur, cur = (([] : List Value).toArray ++ Builtin.zeroCells (Value.int IntKind.u8 0).cells N ++ Builtin.zeroCells (Value.int IntKind.u8 0).cells (G - N)) := ⟨_, rfl⟩
  have hcs : cur.size = G * 1 := by
    rw [hcur]
    simp [size_zeroCells, Value.cells]
    omega
  rw [← hcur] at h
  clear hcur hGe hcapn
  have H := Lib.hid h; clear h
  have hG63 : G ≤ 9223372036854775807 := by unfold maxLen at hG2; omega
  have hgt : decide ((0 : Int) < (N : Int)) = true := by simp; omega
  have hlt : decide ((N : Int) < (0 : Int)) = false := by simp
  go_enter Try.func21, Try.ntmps21
  go_wp2_with (at_builtin; refine Lib.wpList_append_run _ rfl _ _ 22 3 rfl _ _ rfl rfl _ _ H.out ?_)
  go_ret
  refine ⟨_, rfl, ?_, by go_grown⟩
  exact World.ownsRow_made w.drew cur G (Nat.le_refl _) hG2 hcs

theorem grow_any (w : World) (N : Nat) (hN : N ≤ 1000000) :
    Calls Try.prog 21 #[.slice none 0 0, .int .i64 (N : Int)] w fun e w' => ∃ v, e = .returned v ∧ w'.ownsRow w.heap.size 5 1 v 0 (([] : List Int).map (Value.int .u8)) ∧ Below w.heap.size w w' := by
  rcases Nat.eq_zero_or_pos N with h | h
  · subst h
    exact (grow_none w).mono fun e w' ⟨he, hw⟩ => ⟨_, he, World.ownsRow_nil _ _ _ _, by rw [← hw]; exact Below.refl _ _⟩
  · exact grow_some w N h hN

theorem flat_take (ps : List (List Int)) (j : Nat) (h : j < ps.length) : (ps.take (j + 1)).flatten = (ps.take j).flatten ++ ps.getD j [] := by
  rw [List.take_add_one, List.flatten_append]
  simp [List.getD, List.getElem?_eq_getElem h]
theorem flat_len (ps : List (List Int)) (j : Nat) : (ps.take j).flatten.length ≤ ps.flatten.length := by
  conv => rhs; rw [← List.take_append_drop j ps, List.flatten_append, List.length_append]
  omega

set_option maxHeartbeats 2000000 in
theorem concat_any (ps : List (List Int)) (A : Option Addr) (n c : Nat) (W : World) (hr : RowB W A n ps) (hn : n ≤ 1000) (ht : ps.flatten.length ≤ 1000000) :
    Calls Try.prog 19 #[.slice A n c] W fun e w' => ∃ v, e = .returned v ∧ w'.ownsRow W.heap.size 5 1 v ps.flatten.length (ps.flatten.map (.int .u8)) ∧ Below W.heap.size W w' := by
  have hl := hr.1
  have HR := Lib.hid hr; clear hr
  have HL := Lib.hid hl; clear hl
  obtain ⟨T, hT⟩ : ∃ T, T = ps.flatten.length := ⟨_, rfl⟩
  rw [← hT] at ht ⊢
  have HT := Lib.hid hT; clear hT
  go_enter Try.func19, Try.ntmps19
  go_wp2_with fail
  go_loopw [3, 11] (fun vs vi wr => ∃ (q N : Nat), q ≤ n ∧ vi = .int .i64 (q : Int) ∧ vs = .int .i64 (N : Int) ∧ N ≤ T ∧ Hid (N = (ps.take q).flatten.length) ∧ W = wr) (fun _ vi _ => n - (intOf vi).toNat)
  case atStart => exact ⟨0, 0, by omega, rfl, rfl, by omega, Lib.hid rfl, rfl⟩
  case round =>
    obtain ⟨q, N, hq, rfl, rfl, hNT, HN, rfl⟩ := hrel
    by_cases hlt : q < n
    · obtain ⟨b, o, rfl, hbl, hc⟩ := HR.out.2 (by omega)
      obtain ⟨D, d, hcell, _, _⟩ := hc q hlt
      have hft := flat_take ps q (by rw [HL.out]; exact hlt)
      have hfl := flat_len ps (q + 1)
      rw [hft, List.length_append, ← HN.out, ← HT.out] at hfl
      obtain ⟨L, hL⟩ : ∃ L, L = (ps.getD q []).length := ⟨_, rfl⟩
      rw [← hL] at hcell hfl
      have hN2 : N + L = (ps.take (q + 1)).flatten.length := by rw [hft, List.length_append, ← HN.out, ← hL]
      have HN2 := Lib.hid hN2; clear hN2 hft hL
      clear hc
      have hltd : decide ((N : Int) + (L : Int) < 0) = false := by simp; omega
      go_wp2
      refine ⟨⟨q + 1, N + L, by omega, by go_num, by go_num, hfl, HN2, by trivial⟩, by simp [intOf]; omega⟩
    · have hqn : q = n := by omega
      have hNT2 : N = T := by
        rw [HN.out, HT.out, List.take_of_length_le (by rw [HL.out]; omega)]
      subst hqn
      clear hlt
      have hg := grow_any W N (by omega)
      have HG := Lib.hid hg; clear hg
      subst hNT2
      go_wp2_with fail
      refine HG.out.mono ?_; rintro e w1 ⟨v, rfl, hown1, hb1⟩
      obtain ⟨A1, c1, rfl, _, _, _, _⟩ := own_cells hown1
      have HO1 := Lib.hid hown1; clear hown1
      go_wp2_with fail
      go_loopw [6, 27] (fun vs vi wr => ∃ (j N' : Nat) (P : Option Addr) (pc : Nat), j ≤ q ∧ vi = .int .i64 (j : Int) ∧ vs = .slice P N' pc ∧ N' ≤ N ∧ Hid (N' = (ps.take j).flatten.length) ∧ Hid (wr.ownsRow W.heap.size 5 1 (.slice P N' pc) N' ((ps.take j).flatten.map (.int .u8))) ∧ Below W.heap.size W wr) (fun _ vi _ => q - (intOf vi).toNat)
      case atStart => exact ⟨0, 0, A1, c1, by omega, rfl, rfl, by omega, Lib.hid rfl, HO1, hb1⟩
      case round =>
        obtain ⟨j, N', P, pc, hj, rfl, rfl, hN', HN', HO, hb⟩ := hrel
        by_cases hlt : j < q
        · obtain ⟨b, o, rfl, hbl, hc⟩ := (HR.out.below hb (Nat.le_refl _)).2 (by omega)
          obtain ⟨D, d, hcell, hri, hnil⟩ := hc j hlt
          have hft := flat_take ps j (by rw [HL.out]; exact hlt)
          have hfl := flat_len ps (j + 1)
          rw [hft, List.length_append, ← HN'.out, ← HT.out] at hfl
          obtain ⟨v', w', happ, hown, hgrow⟩ := app_run .u8 22 5 1 Try.underlying22 info_u8 wr W.heap.size _ N' _ HO.out D _ d _ hri hnil (by omega) (by unfold maxLen; omega) hb.size
          have hb3 : Below W.heap.size W w' := hb.grown hgrow hb.size (by intro k hk; exact (HO.out.lt k hk).1)
          rw [← hft] at hown
          obtain ⟨L, hL⟩ : ∃ L, L = (ps.getD j []).length := ⟨_, rfl⟩
          rw [← hL] at hcell hfl happ hown
          have hN2 : N' + L = (ps.take (j + 1)).flatten.length := by rw [hft, List.length_append, ← HN'.out, ← hL]
          obtain ⟨P', pc', rfl, _, _, _, _⟩ := own_cells hown
          have HN2 := Lib.hid hN2; clear hN2 hft hL
          have HA := Lib.hid happ; clear happ
          have HO2 := Lib.hid hown; clear hown
          clear hc hri hnil hgrow
          go_wp2_with (at_builtin; refine wpList_append_run rfl _ _ 22 rfl rfl _ _ _ _ rfl rfl HA.out ?_)
          refine ⟨⟨j + 1, N' + L, P', pc', by omega, by go_num, rfl, hfl, HN2, HO2, hb3⟩, by simp [intOf]; omega⟩
        · have hjn : j = q := by omega
          subst hjn
          clear hlt
          go_wp2_with fail
          go_ret
          have h1 := HO.out
          have h2 := HN'.out
          rw [List.take_of_length_le (by rw [HL.out]; omega)] at h1 h2
          rw [← HT.out] at h2
          subst h2
          exact ⟨_, rfl, h1, hb⟩

theorem cjoin_any (ps : List (List Int)) (A : Option Addr) (n c : Nat) (W : World) (hr : RowB W A n ps) (hn : n ≤ 1000) (ht : ps.flatten.length ≤ 1000000) :
    Calls Try.prog 11 #[.slice A n c] W fun e w' => ∃ v, e = .returned v ∧ w'.ownsRow W.heap.size 5 1 v ps.flatten.length (ps.flatten.map (.int .u8)) ∧ Below W.heap.size W w' := by
  have hc := concat_any ps A n c W hr hn ht
  have HC := Lib.hid hc; clear hc hr
  go_enter Try.func11, Try.ntmps11
  go_wp2_with fail
  refine HC.out.mono ?_; rintro e w' ⟨v, rfl, h1, h2⟩
  go_wp2_with fail
  go_ret
  exact ⟨_, rfl, h1, h2⟩
end Go.Proofs.Ytjiagpbmaepamaa
