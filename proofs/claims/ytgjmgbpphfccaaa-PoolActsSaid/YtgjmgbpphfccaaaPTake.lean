/- Take: the first one of the line. -/
import Derived.Test.YtgjmgbpphfccaaaPApp
namespace Go.Proofs.Ytgjmgbpphfccaaa
open Go Go.RowKit
set_option linter.unusedVariables false

section
variable {w : World} {B g gb size : Nat} {F : Nat → Prop} {FV : Value} {Vs : List Value} {os : List (List Int)} {hs ln : List Nat}
theorem take_no (h : PoolC w B F g gb FV Vs size os hs []) :
    Calls Try.prog 11 #[.pointer (some ⟨g, 0, none⟩)] w fun e w' => e = .returned (.tuple #[.int .i64 0, .int .i64 19]) ∧ w = w' := by
  obtain ⟨A, c, rfl, _⟩ := h.lineAt
  have c2 := h.c2
  clear h
  simp only [List.length_nil] at c2
  go_enter Try.func11, Try.ntmps11
  go_wp2_with fail
  go_ret2
  exact ⟨rfl, rfl⟩
set_option maxHeartbeats 1000000 in
theorem take_yes {i : Nat} {rest : List Nat} (h : PoolC w B F g gb FV Vs size os hs (i :: rest)) (hi : i < hs.length) (hn : hs.length ≤ 64) (hr : rest.length ≤ 64) :
    Calls Try.prog 11 #[.pointer (some ⟨g, 0, none⟩)] w fun e w' => e = .returned (.tuple #[.int .i64 (i : Int), .int .i64 0]) ∧ ∃ F' FV', PoolC w' B F' g gb FV' Vs size os (hs.set i 1) rest ∧ Step F F' w w' := by
  have c2 := h.c2
  have hfree := h.free
  have HDEL := Lib.hid (del_any (x := (i : Int)) (xs := ints rest) (by rw [ints_length]; exact hfree) (by rw [ints_length]; omega))
  obtain ⟨A, c, hFV, h1, h2, h3, h4⟩ := own_cells hfree
  rcases A with _ | a
  · have := (h3 rfl).1
    simp at this
  · obtain ⟨bf, rfl, _, hlt, hcell, hfz⟩ := h4 a rfl
    have hc0 : w.cell? ⟨bf, 0, none⟩ = some (.int .i64 (i : Int)) := hcell 0 _ rfl
    have hstep : ∀ w1 V', w1.ownsRow 0 3 1 V' rest.length (iv rest) → w.grownBy w1 FV.ownBlock → V'.ownBlock = FV.ownBlock →
        w1.cell? ⟨g, 2, none⟩ = some FV ∧ w1.frozen? ⟨g, 2, none⟩ = false ∧ (w1.setCell ⟨g, 2, none⟩ V').cell? ⟨g, 1, none⟩ = some (.slice (some ⟨gb, 0, none⟩) hs.length hs.length) ∧
        (w1.setCell ⟨g, 2, none⟩ V').cell? ⟨gb, i * 2 + 1, none⟩ = some (.int .i64 (hs.getD i 0 : Int)) ∧ (w1.setCell ⟨g, 2, none⟩ V').frozen? ⟨gb, i * 2 + 1, none⟩ = false ∧
        Hid (∃ F' FV', PoolC ((w1.setCell ⟨g, 2, none⟩ V').setCell ⟨gb, i * 2 + 1, none⟩ (.int .i64 1)) B F' g gb FV' Vs size os (hs.set i 1) rest ∧ Step F F' w ((w1.setCell ⟨g, 2, none⟩ V').setCell ⟨gb, i * 2 + 1, none⟩ (.int .i64 1))) := by
      intro w1 V' ho hg hat
      have hg1 : w1.heap[g]? = _ := (hg.block g h.lt (fun e => h.free_ne.1 e.symm)).trans h.blk
      have hp := h.setF V' rest hg ho (fun k hk => .inl (by rw [← hat]; exact hk))
      refine ⟨cell_of_row w1 g 2 _ _ (0, 0) hg1, by simp [World.frozen?, hg1], hp.c1, hp.cH hi, hp.fzb _, Lib.hid ⟨_, V', hp.setH i 1, ?_, fun k hk => ?_⟩⟩
      · exact (((Moved.refl F w).grown hg (fun k hk => .inl (h.ff k hk))).setCell (p := ⟨g, 2, none⟩) (.inl h.fg) _).setCell (p := ⟨gb, i * 2 + 1, none⟩) (.inl h.fb) _
      · rcases hk with hk | hk
        · exact .inl hk
        · exact .inr hk.1
    have HST := Lib.hid hstep
    rw [ints_length] at HDEL
    obtain ⟨m, hm⟩ : ∃ m, m = rest.length := ⟨_, rfl⟩
    have hlen : (i :: rest).length = m + 1 := by simp [hm]
    rw [hlen] at hFV h1
    rw [← hm] at HDEL hr
    clear h hfree hcell h4 h3 hfz hstep hlen
    have HMM := Lib.hid hm; clear hm
    subst hFV
    unfold maxLen at h2
    go_enter Try.func11, Try.ntmps11
    go_wp2_with fail
    refine HDEL.out.mono ?_; rintro e w1 ⟨V', rfl, ho, hg, hat⟩
    rw [HMM.out] at ho
    obtain ⟨k1, k2, k3, k4, k5, hfin⟩ := HST.out w1 V' ho hg hat
    obtain ⟨A', c', rfl, _⟩ := own_cells ho
    clear ho hg hat
    go_wp2_with fail
    go_ret2
    exact ⟨rfl, hfin.out⟩
end
end Go.Proofs.Ytgjmgbpphfccaaa
