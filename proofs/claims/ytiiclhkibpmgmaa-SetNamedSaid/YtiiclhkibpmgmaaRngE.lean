/- The document's Ends: some whole numbers, in a row that is new. -/
import Derived.Test.YtiiclhkibpmgmaaRngM
import Derived.Test.YtiiclhkibpmgmaaOwnR
import Derived.BigRegion
namespace Go.Proofs.Ytiiclhkibpmgmaa
open Go Go.RowKit
set_option linter.unusedVariables false

theorem info_int : (Try.prog.info? 3).map (fun i => (i.zero, i.size, i.bytes)) = some (some (.int .i64 0), 1, 8) := by kernel_rfl
/-- append of one whole number to a row of the call's own, and where the row lies then. -/
theorem pushI_at {W w : World} {P : Option Addr} {q pc : Nat} {xs : List Int} (hown : w.ownsRow W.heap.size 3 1 (.slice P q pc) q (xs.map (.int .i64))) (hq : q ≤ 100000) (hb : Below W.heap.size W w) (x : Int) :
    ∃ P' pc' w', (Builtin.append_ #[27, 27] 27 #[.slice P q pc, .slice (some ⟨w.heap.size, 0, none⟩) 1 1]).run Try.prog (w.alloc (.cells #[.int .i64 x] 3)) = .ok (.slice P' (q + 1) pc') w' ∧
      w'.ownsRow W.heap.size 3 1 (.slice P' (q + 1) pc') (q + 1) ((xs ++ [x]).map (.int .i64)) ∧ Below W.heap.size W w' ∧
      ∀ g, g < w.heap.size → (Value.slice P q pc).ownBlock ≠ some g → (Value.slice P' (q + 1) pc').ownBlock ≠ some g ∧ w'.heap[g]? = w.heap[g]? := by
  obtain ⟨i0, hi, hz0, hz1, hz2⟩ := info_parts info_int
  have hb1 := hb.alloc hb.size (.cells #[.int .i64 x] 3)
  obtain ⟨V', w', h1, h2, h3, _, h4⟩ := run_append_own_at (P := Try.prog) (w.alloc (.cells #[.int .i64 x] 3)) W.heap.size 27 27 3 i0 (.int .i64 0) 1 8 Try.underlying27 hi hz0 hz1 hz2 rfl (by decide) _ q _ (own_alloc hown _) ⟨w.heap.size, 0, none⟩ 1 1 [.int .i64 x] rfl
    (by
      intro j u hu
      rcases j with _ | j
      · injection hu with hu
        subst hu
        rw [show (⟨w.heap.size, 0, none⟩ : Addr).add 0 = ⟨w.heap.size, 0, none⟩ by rfl, cell_of_row (w.alloc (.cells #[.int .i64 x] 3)) w.heap.size 0 #[.int .i64 x] 3 (0, 0) (heap_alloc_new w _)]
        rfl
      · simp at hu) (by simp [Value.oneCell']) (by unfold maxLen; omega) (by omega) hb1.size
  have hb' : Below W.heap.size W w' := hb1.grown h3 hb1.size (by intro k hk; exact (row_lt hown hk).1)
  have hz : (w.alloc (.cells #[.int .i64 x] 3)).heap.size = w.heap.size + 1 := by simp
  have key : ∀ g, g < w.heap.size → (Value.slice P q pc).ownBlock ≠ some g → V'.ownBlock ≠ some g ∧ w'.heap[g]? = w.heap[g]? := by
    intro g hg hne
    refine ⟨fun e => ?_, ?_⟩
    · rcases h4 with h4 | h4
      · exact hne (h4 ▸ e)
      · rw [h4] at e
        injection e with e
        omega
    · rw [h3.block g (by omega) fun e => hne e.symm]
      exact Below.heap_alloc w _ g hg
  rw [show xs.map (Value.int .i64) ++ [.int .i64 x] = (xs ++ [x]).map (.int .i64) by simp] at h2
  rcases h2.2 with ⟨rfl, h0⟩ | ⟨g, cap, cur, rfl, _⟩
  · omega
  · exact ⟨_, _, w', h1, h2, hb', key⟩

set_option maxHeartbeats 4000000 in
theorem rends_any (s : List (Int × Int)) (A : Option Addr) (n c : Nat) (W : World) (hr : RowG W A n s) (hn : n ≤ 1000) :
    Calls Try.prog 13 #[.slice A n c] W fun e w' => ∃ (P : Option Addr) (q pc : Nat) (xs : List Int), e = .returned (.slice P q pc) ∧ w'.ownsRow W.heap.size 3 1 (.slice P q pc) q (xs.map (.int .i64)) ∧ Below W.heap.size W w' ∧ q ≤ 2 + 6 * n := by
  have HR := Lib.hid hr; clear hr
  go_enter Try.func13, Try.ntmps13
  go_wp2
  go_loopw [3, 4] (fun vo vi wr => ∃ (k q pc : Nat) (P : Option Addr) (xs : List Int), vo = .slice P q pc ∧ vi = .int .i64 (k : Int) ∧ k ≤ n ∧ q ≤ 2 + 6 * k ∧ Hid (wr.ownsRow W.heap.size 3 1 (.slice P q pc) q (xs.map (.int .i64)) ∧ Below W.heap.size W wr)) (fun _ vi _ => n - (intOf vi).toNat)
  case atStart =>
    exact ⟨0, 2, 2, _, [0, 1114111], rfl, rfl, Nat.zero_le _, by omega, Lib.hid ⟨⟨rfl, .inr ⟨W.heap.size, 2, _, rfl, Nat.le_refl _, heap_alloc_new W _, Nat.le_refl _, by unfold maxLen; omega, rfl, rfl⟩⟩, (Below.refl _ _).alloc (Nat.le_refl _) _⟩⟩
  case round =>
    obtain ⟨k, q, pc, P, xs, rfl, rfl, hk, hq, HO⟩ := hrel
    by_cases hlt : k < n
    · obtain ⟨b, o, rfl, hbw, hc⟩ := HR.out.2 (by omega)
      obtain ⟨c0, c1⟩ := hc k hlt
      have d0 := (HO.out.2.cell (p := ⟨b, o + k * 2, none⟩) hbw).trans c0
      have d1 := (HO.out.2.cell (p := ⟨b, o + k * 2 + 1, none⟩) hbw).trans c1
      obtain ⟨p, hp⟩ : ∃ p, p = s.getD k (0, 0) := ⟨_, rfl⟩
      rw [← hp] at d0 d1
      obtain ⟨x, y⟩ := p
      clear hc c0 c1 hp
      dsimp only at d0 d1
      go_wp2
      go_region
      obtain ⟨W1, hW1⟩ : ∃ W1, W1 = (wr.alloc (.cells #[.int .i64 x, .int .i64 y] 3)).drew := ⟨_, rfl⟩
      rw [← hW1]
      obtain ⟨g, hg⟩ : ∃ g, g = wr.heap.size := ⟨_, rfl⟩
      rw [← hg]
      have hb1 : Below wr.heap.size wr W1 := by rw [hW1]; exact ((Below.refl _ _).alloc (Nat.le_refl _) _).drew
      have hblk : W1.heap[g]? = some (.cells #[.int .i64 x, .int .i64 y] 3 (0, 0)) := by rw [hW1, hg]; exact heap_alloc_new wr _
      have hne : (Value.slice P q pc).ownBlock ≠ some g := fun e => by have := (row_lt HO.out.1 e).2; omega
      have HO1 := Lib.hid (And.intro (own_kept HO.out.1 hb1) (And.intro (HO.out.2.trans (Below.mono hb1 HO.out.2.size)) (And.intro hblk hne)))
      clear hW1 hg hb1 hblk hne d0 d1
      go_wp2
      go_loopw [3, 6] (fun vo vt wt => ∃ (t q2 pc2 : Nat) (P2 : Option Addr) (xs2 : List Int), vo = .slice P2 q2 pc2 ∧ vt = .int .i64 (t : Int) ∧ t ≤ 2 ∧ q2 ≤ 2 + 6 * k + 3 * t ∧ Hid (wt.ownsRow W.heap.size 3 1 (.slice P2 q2 pc2) q2 (xs2.map (.int .i64)) ∧ Below W.heap.size W wt ∧ wt.heap[g]? = some (.cells #[.int .i64 x, .int .i64 y] 3 (0, 0)) ∧ (Value.slice P2 q2 pc2).ownBlock ≠ some g)) (fun _ vt _ => 2 - (intOf vt).toNat)
      case atStart => exact ⟨0, q, pc, P, xs, rfl, rfl, by omega, by omega, HO1⟩
      case round =>
        obtain ⟨t, q2, pc2, P2, xs2, rfl, rfl, ht, hq2, H2⟩ := hrel
        by_cases htl : t < 2
        · obtain ⟨z, hz⟩ : ∃ z, (#[.int .i64 x, .int .i64 y] : Array Value)[t]? = some (.int .i64 z) := by
            rcases (show t = 0 ∨ t = 1 by omega) with rfl | rfl
            · exact ⟨x, rfl⟩
            · exact ⟨y, rfl⟩
          have HZ := Lib.hid hz
          clear hz
          have d3 : (t : Int) < 2 := by omega
          go_wp2
          go_loopw [3, 7] (fun vo vd wd => ∃ (j q3 pc3 : Nat) (P3 : Option Addr) (xs3 : List Int), vo = .slice P3 q3 pc3 ∧ vd = .int .i64 ((j : Int) - 1) ∧ j ≤ 3 ∧ q3 ≤ 2 + 6 * k + 3 * t + j ∧ Hid (wd.ownsRow W.heap.size 3 1 (.slice P3 q3 pc3) q3 (xs3.map (.int .i64)) ∧ Below W.heap.size W wd ∧ wd.heap[g]? = some (.cells #[.int .i64 x, .int .i64 y] 3 (0, 0)) ∧ (Value.slice P3 q3 pc3).ownBlock ≠ some g)) (fun _ vd _ => 3 - (intOf vd + 1).toNat)
          case atStart => exact ⟨0, q2, pc2, P2, xs2, rfl, rfl, by omega, by omega, H2⟩
          case round =>
            obtain ⟨j, q3, pc3, P3, xs3, rfl, rfl, hj, hq3, H3⟩ := hrel
            obtain ⟨d, hd⟩ : ∃ d : Int, d = (j : Int) - 1 := ⟨_, rfl⟩
            rw [← hd]
            by_cases hjl : j < 3
            · have hd1 : d ≤ 1 := by omega
              have hd0 : -1 ≤ d := by omega
              have HD := Lib.hid hd
              clear hd
              have cz := (cell_of_row _ g t _ _ (0, 0) H3.out.2.2.1).trans HZ.out
              have w1 : ∀ v : Int, -10 ≤ v → v ≤ 10000000 → IntKind.i64.wrap v = v := fun v h1 h2 => by rw [IntKind.wrap_i64]; omega
              rcases (show z < -2 ∨ (-2 ≤ z ∧ z ≤ 1114113) ∨ 1114113 < z by omega) with hz | ⟨hz1, hz2⟩ | hz
              · have n1 : ¬ (0 ≤ -2 + d) := by omega
                clear w1
                go_wp2
                exact ⟨⟨j + 1, q3, pc3, P3, xs3, rfl, by congr 1; have := HD.out; omega, by omega, by omega, H3⟩, by simp [intOf]; have := HD.out; omega⟩
              · have n1 : ¬ z < -2 := by omega
                have n2 : ¬ 1114113 < z := by omega
                by_cases hv0 : 0 ≤ z + d
                · by_cases hv1 : z + d ≤ 1114111
                  · obtain ⟨P4, pc4, w4, happ, ho4, hb4, hk4⟩ := pushI_at H3.out.1 (by omega) H3.out.2.1 (z + d)
                    have hgl := (Array.getElem?_eq_some_iff.1 H3.out.2.2.1).1
                    have H4 := Lib.hid (And.intro ho4 (And.intro hb4 (And.intro ((hk4 g hgl H3.out.2.2.2).2.trans H3.out.2.2.1) (hk4 g hgl H3.out.2.2.2).1)))
                    have HA := Lib.hid happ
                    clear happ ho4 hb4 hk4 hgl w1
                    go_wp2_with (at_builtin; refine wpList_append_run rfl _ _ 27 rfl rfl _ _ _ _ rfl rfl HA.out ?_)
                    exact ⟨⟨j + 1, q3 + 1, pc4, P4, xs3 ++ [z + d], rfl, by congr 1; have := HD.out; omega, by omega, by omega, H4⟩, by simp [intOf]; have := HD.out; omega⟩
                  · clear w1
                    go_wp2
                    exact ⟨⟨j + 1, q3, pc3, P3, xs3, rfl, by congr 1; have := HD.out; omega, by omega, by omega, H3⟩, by simp [intOf]; have := HD.out; omega⟩
                · clear w1
                  go_wp2
                  exact ⟨⟨j + 1, q3, pc3, P3, xs3, rfl, by congr 1; have := HD.out; omega, by omega, by omega, H3⟩, by simp [intOf]; have := HD.out; omega⟩
              · have n1 : ¬ z < -2 := by omega
                have n2 : ¬ (1114113 + d ≤ 1114111) := by omega
                have n3 : 0 ≤ 1114113 + d := by omega
                clear w1
                go_wp2
                exact ⟨⟨j + 1, q3, pc3, P3, xs3, rfl, by congr 1; have := HD.out; omega, by omega, by omega, H3⟩, by simp [intOf]; have := HD.out; omega⟩
            · have hj3 : j = 3 := by omega
              subst hj3
              have hd2 : d = 2 := by omega
              subst hd2
              go_wp2
              exact ⟨⟨t + 1, q3, pc3, P3, xs3, rfl, by go_num, by omega, by omega, H3⟩, by simp [intOf]; omega⟩
        · have ht2 : t = 2 := by omega
          subst ht2
          go_wp2
          exact ⟨⟨k + 1, q2, pc2, P2, xs2, rfl, by go_num, by omega, by omega, Lib.hid ⟨H2.out.1, H2.out.2.1⟩⟩, by simp [intOf]; omega⟩
    · go_wp2
      go_ret
      exact ⟨P, q, pc, xs, rfl, HO.out.1, HO.out.2, by omega⟩
end Go.Proofs.Ytiiclhkibpmgmaa
