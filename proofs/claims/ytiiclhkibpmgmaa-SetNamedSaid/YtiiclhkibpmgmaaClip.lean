/- The program's clip. -/
import Derived.Test.YtiiclhkibpmgmaaSetK
import Derived.Lib.MinMax
namespace Go.Proofs.Ytiiclhkibpmgmaa
open Go Go.RowKit
set_option linter.unusedVariables false

set_option maxHeartbeats 1000000 in
theorem clip_any (s : List (Int × Int)) (A : Option Addr) (n c : Nat) (W : World) (hin : RowG W A n s) (hn : n ≤ 2000000) :
    Calls Try.prog 23 #[.slice A n c] W fun e w' => ∃ P q pc, e = .returned (.slice P q pc) ∧ w'.ownsRow W.heap.size 39 2 (.slice P q pc) q (cellsG (clipL s)) ∧ Below W.heap.size W w' := by
  have HR := Lib.hid hin; clear hin
  go_enter Try.func23, Try.ntmps23
  go_wp2
  go_loopw [3, 9] (fun vo vi wr => ∃ (k q pc : Nat) (P : Option Addr), vo = .slice P q pc ∧ vi = .int .i64 (k : Int) ∧ k ≤ n ∧ q ≤ k ∧ Hid (wr.ownsRow W.heap.size 39 2 (.slice P q pc) q (cellsG (clipL (s.take k))) ∧ Below W.heap.size W wr)) (fun _ vi _ => n - (intOf vi).toNat)
  case atStart =>
    exact ⟨0, 0, 0, none, rfl, rfl, Nat.zero_le _, Nat.le_refl _, Lib.hid ⟨nilG W _, Below.refl _ _⟩⟩
  case round =>
    obtain ⟨k, q, pc, P, rfl, rfl, hk, hq, HO⟩ := hrel
    by_cases hlt : k < n
    · obtain ⟨b, o, rfl, hbw, hc⟩ := HR.out.2 (by omega)
      obtain ⟨c0, c1⟩ := hc k hlt
      have d0 := (HO.out.2.cell (p := ⟨b, o + k * 2, none⟩) hbw).trans c0
      have d1 := (HO.out.2.cell (p := ⟨b, o + k * 2 + 1, none⟩) hbw).trans c1
      have hts := take_snoc (t := s) (k := k) (by have := HR.out.1; omega)
      obtain ⟨p, hp⟩ : ∃ p, p = s.getD k (0, 0) := ⟨_, rfl⟩
      rw [← hp] at d0 d1 hts
      obtain ⟨x, y⟩ := p
      have hcs := clipL_snoc (s.take k) (x, y)
      rw [← hts] at hcs
      clear hc c0 c1 hp hts
      dsimp only at d0 d1 hcs
      by_cases hxy : max x 0 ≤ min y 1114111
      · rw [if_pos hxy] at hcs
        have hb1 : Below wr.heap.size wr ((wr.alloc (.cells #[.int .i64 x, .int .i64 y] 39)).alloc (.cells #[.int .i64 (max x 0), .int .i64 (min y 1114111)] 39)) := ((Below.refl _ _).alloc (Nat.le_refl _) _).alloc (by simp) _
        obtain ⟨P', pc', w', happ, hown, hbel⟩ := push_rngs (ownG_kept HO.out.1 hb1) [(max x 0, min y 1114111)] (by omega) (by simp) (then_ HO.out.2 hb1)
        rw [show ((wr.alloc (.cells #[.int .i64 x, .int .i64 y] 39)).alloc (.cells #[.int .i64 (max x 0), .int .i64 (min y 1114111)] 39)).heap.size = wr.heap.size + 1 + 1 by simp] at happ
        rw [← hcs] at hown
        have HA := Lib.hid happ
        have H2 := Lib.hid (And.intro hown hbel)
        clear happ hown hbel hb1 hcs
        go_wp2_with (at_builtin; refine wpList_append_run rfl _ _ 22 rfl rfl _ _ _ _ rfl rfl HA.out ?_)
        exact ⟨⟨k + 1, q + 1, pc', P', rfl, by go_num, by omega, by omega, H2⟩, by simp [intOf]; omega⟩
      · rw [if_neg hxy, List.append_nil] at hcs
        have H2 := Lib.hid (And.intro (hcs ▸ ownG_kept HO.out.1 (((Below.refl _ wr).alloc (Nat.le_refl _) (.cells #[.int .i64 x, .int .i64 y] 39)).alloc (by simp) (.cells #[.int .i64 (max x 0), .int .i64 (min y 1114111)] 39))) (HO.out.2.trans (Below.mono (((Below.refl _ wr).alloc (Nat.le_refl _) (.cells #[.int .i64 x, .int .i64 y] 39)).alloc (by simp) (.cells #[.int .i64 (max x 0), .int .i64 (min y 1114111)] 39)) HO.out.2.size)))
        clear hcs
        go_wp2
        exact ⟨⟨k + 1, q, pc, P, rfl, by go_num, by omega, by omega, H2⟩, by simp [intOf]; omega⟩
    · have hkn : k = n := by omega
      subst hkn
      have hts : s.take k = s := List.take_of_length_le (by have := HR.out.1; omega)
      go_wp2
      go_ret
      rw [hts] at HO
      exact ⟨P, q, pc, rfl, HO.out.1, HO.out.2⟩
end Go.Proofs.Ytiiclhkibpmgmaa
