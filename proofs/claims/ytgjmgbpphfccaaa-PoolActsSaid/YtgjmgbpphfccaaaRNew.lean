/- The document's pool: New. -/
import Derived.Test.YtgjmgbpphfccaaaRNewA
namespace Go.Proofs.Ytgjmgbpphfccaaa
open Go Go.RowKit
set_option linter.unusedVariables false

set_option maxHeartbeats 4000000 in
theorem rnew_any (n size : Nat) (hn : n ≤ 64) (w : World) :
    Calls Try.prog 10 #[.int .i64 (n : Int), .int .i64 (size : Int)] w fun e w' => ∃ g, e = .returned (.pointer (some ⟨g, 0, none⟩)) ∧ RefS w' w.heap.size (fun k => w.heap.size ≤ k ∧ k < w'.heap.size) g size ⟨List.replicate n [], List.replicate n 0, List.range n⟩ ∧ Below w.heap.size w w' := by
  obtain ⟨W1, hW1⟩ : ∃ W1, W1 = w.alloc (.cells #[.slice none 0 0, .slice none 0 0, .slice none 0 0, .int .i64 (size : Int)] 44) := ⟨_, rfl⟩
  have hb1 : Below w.heap.size w W1 := by rw [hW1]; exact (Below.refl _ _).alloc (Nat.le_refl _) _
  have h1 : RefN W1 w.heap.size w.heap.size (.slice none 0 0) (.slice none 0 0) (.slice none 0 0) size (List.replicate 0 []) (List.replicate 0 0) (List.range 0) := by
    rw [hW1]
    exact ⟨Nat.le_refl _, heap_alloc_new w _, World.ownsRow_nil _ _ _ _, World.ownsRow_nil _ _ _ _, World.ownsRow_nil _ _ _ _, fun k hk => by cases hk⟩
  have HW1 := Lib.hid hW1
  obtain ⟨B, hB⟩ : ∃ B, B = w.heap.size := ⟨_, rfl⟩
  have HB := Lib.hid hB
  have H1 : Hid (∃ HV BV LV, RefN W1 B B HV BV LV size (List.replicate 0 []) (List.replicate 0 0) (List.range 0)) := Lib.hid ⟨_, _, _, by rw [hB]; exact h1⟩
  rw [← hB] at hb1
  have HB1 := Lib.hid hb1
  clear hW1 h1 hb1 hB
  go_enter Try.func10, Try.ntmps10
  go_wp2_with fail
  rw [← HW1.out, ← HB.out]
  clear HW1
  go_loopw [6] (fun v6 wr => ∃ i : Nat, i ≤ n ∧ v6 = .int .i64 (i : Int) ∧ Hid (∃ HV BV LV, RefN wr B B HV BV LV size (List.replicate i []) (List.replicate i 0) (List.range i)) ∧ Hid (Below B w wr)) (fun v6 _ => n - (intOf v6).toNat)
  case atStart => exact ⟨0, by omega, rfl, H1, HB1⟩
  case round =>
    clear H1 HB1
    obtain ⟨i, hi, rfl, HR, HBW⟩ := hrel
    by_cases hlt : i < n
    · obtain ⟨HV, BV, LV, hr⟩ := HR.out
      have k0 : wr.cell? ⟨B, 0, none⟩ = some HV := cell_of_row wr B 0 _ _ (0, 0) hr.blk
      obtain ⟨HV', w1, happ1, c1, f1, hr1, hb1, A1, c1', rfl⟩ := hr.pushH (by simp; omega)
      obtain ⟨x1, x2, rfl, _⟩ := own_cells hr.hrow
      have k1 : (w1.setCell ⟨B, 0, none⟩ (.slice A1 ((List.replicate i 0).length + 1) c1')).cell? ⟨B, 1, none⟩ = some BV := cell_of_row _ B 1 _ _ (0, 0) hr1.blk
      obtain ⟨BV', w2, happ2, c2, f2, hr2, hb2, A2, c2', rfl⟩ := hr1.pushB (by simp; omega)
      obtain ⟨x3, x4, rfl, _⟩ := own_cells hr.brow
      have k2 : (w2.setCell ⟨B, 1, none⟩ (.slice A2 ((List.replicate i ([] : List Int)).length + 1) c2')).cell? ⟨B, 2, none⟩ = some LV := cell_of_row _ B 2 _ _ (0, 0) hr2.blk
      obtain ⟨LV', w3, happ3, c3, f3, hr3, hb3, A3, c3', rfl⟩ := hr2.pushL i (by simp; omega)
      obtain ⟨x5, x6, rfl, _⟩ := own_cells hr.lrow
      rw [← List.replicate_succ', ← List.replicate_succ', ← List.range_succ] at hr3
      have HR3 : Hid (∃ HV BV LV, RefN (w3.setCell ⟨B, 2, none⟩ (.slice A3 ((List.range i).length + 1) c3')) B B HV BV LV size (List.replicate (i + 1) []) (List.replicate (i + 1) 0) (List.range (i + 1))) := Lib.hid ⟨_, _, _, hr3⟩
      have HBW3 := Lib.hid (((HBW.out.trans hb1).trans hb2).trans hb3)
      clear hr hr1 hr2 hr3 hb1 hb2 hb3
      simp only [List.length_replicate, List.length_range] at happ1 c1 k0 k1 happ2 c2 k2 happ3 c3 HR3 HBW3
      have z1 : (w1.setCell ⟨B, 0, none⟩ (.slice A1 (i + 1) c1')).heap.size = w1.heap.size := by simp [World.setCell]
      have z2 : (w2.setCell ⟨B, 1, none⟩ (.slice A2 (i + 1) c2')).heap.size = w2.heap.size := by simp [World.setCell]
      rw [z1] at happ2
      rw [z2] at happ3
      have HA1 := Lib.hid happ1
      have HA2 := Lib.hid happ2
      have HA3 := Lib.hid happ3
      clear happ1 happ2 happ3 z1 z2
      go_wp2_with (first
        | (at_builtin; refine wpList_append_run rfl (.tmp 19) (.tmp 20) 41 rfl rfl (.slice x1 i x2) (.slice (some ⟨wr.heap.size, 0, none⟩) 1 1) _ _ rfl rfl HA1.out ?_)
        | (at_builtin; refine wpList_append_run rfl (.tmp 28) (.tmp 29) 42 rfl rfl (.slice x3 i x4) (.slice (some ⟨w1.heap.size, 0, none⟩) 1 1) _ _ rfl rfl HA2.out ?_)
        | (at_builtin; refine wpList_append_run rfl (.tmp 37) (.tmp 39) 41 rfl rfl (.slice x5 i x6) (.slice (some ⟨w2.heap.size, 0, none⟩) 1 1) _ _ rfl rfl HA3.out ?_))
      refine ⟨⟨i + 1, by omega, by go_num, HR3, HBW3⟩, by simp [intOf]; omega⟩
    · have hie : i = n := by omega
      have HIE := Lib.hid hie; clear hie
      go_wp2_with fail
      go_ret
      obtain ⟨HV, BV, LV, hr⟩ := HR.out
      rw [HIE.out] at hr
      exact ⟨B, rfl, by rw [← HB.out]; exact ⟨HV, BV, LV, hr.done (by simp)⟩, by rw [← HB.out]; exact HBW.out⟩

end Go.Proofs.Ytgjmgbpphfccaaa
