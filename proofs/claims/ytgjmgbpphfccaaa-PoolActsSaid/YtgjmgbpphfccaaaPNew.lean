/- New: a pool of free, empty buffers. -/
import Derived.Test.YtgjmgbpphfccaaaPFill
import Derived.Laws.MakeOwn
namespace Go.Proofs.Ytgjmgbpphfccaaa
open Go Go.RowKit
set_option linter.unusedVariables false

theorem new_no (n size : Int) (hno : n < 1 ∨ 64 < n ∨ size < 1 ∨ 4096 < size) (w : World) :
    Calls Try.prog 9 #[.int .i64 n, .int .i64 size] w fun e w' => e = .returned (.tuple #[.pointer none, .int .i64 2]) ∧ w = w' := by
  by_cases h1 : n < 1
  · have d1 : decide (n < 1) = true := by simpa using h1
    go_enter Try.func9, Try.ntmps9
    go_wp2_with fail
    go_ret2
    exact ⟨rfl, rfl⟩
  · have d1 : decide (n < 1) = false := by simpa using h1
    by_cases h2 : 64 < n
    · have d2 : decide (64 < n) = true := by simpa using h2
      go_enter Try.func9, Try.ntmps9
      go_wp2_with fail
      go_ret2
      exact ⟨rfl, rfl⟩
    · have d2 : decide (64 < n) = false := by simpa using h2
      by_cases h3 : size < 1
      · have d3 : decide (size < 1) = true := by simpa using h3
        go_enter Try.func9, Try.ntmps9
        go_wp2_with fail
        go_ret2
        exact ⟨rfl, rfl⟩
      · have d3 : decide (size < 1) = false := by simpa using h3
        have d4 : decide (4096 < size) = true := by simp; omega
        go_enter Try.func9, Try.ntmps9
        go_wp2_with fail
        go_ret2
        exact ⟨rfl, rfl⟩

theorem info_buf : (Try.prog.info? 66).map (fun i => (i.zero, i.size, i.bytes)) = some (some (.agg #[.slice none 0 0, .int .i64 0]), 2, 32) := by kernel_rfl
theorem weave_made : ∀ (n : Nat), madeCells #[Value.slice none 0 0, .int .i64 0] (n * 2) = (weave (List.replicate n (.slice none 0 0)) (List.replicate n 0)).toArray := by
  intro n
  have hl : (List.replicate n (Value.slice none 0 0)).length = (List.replicate n 0).length := by simp
  apply Array.ext_getElem?
  intro j
  have e0 : (weave (List.replicate n (Value.slice none 0 0)) (List.replicate n 0)).toArray[j]? = (weave (List.replicate n (Value.slice none 0 0)) (List.replicate n 0))[j]? := List.getElem?_toArray
  rw [e0]
  have hsz := weave_length (List.replicate n (Value.slice none 0 0)) (List.replicate n 0) hl
  simp only [List.length_replicate] at hsz
  by_cases hj : j < n * 2
  · have h1 : (madeCells #[Value.slice none 0 0, .int .i64 0] (n * 2))[j]? = some (#[Value.slice none 0 0, .int .i64 0][j % 2]!) := by
      simp [madeCells, hj]
    rw [h1]
    rcases Nat.mod_two_eq_zero_or_one j with hm | hm
    · obtain ⟨k, rfl⟩ : ∃ k, j = k * 2 := ⟨j / 2, by omega⟩
      rw [weave_even _ _ k hl, hm, List.getElem?_replicate, if_pos (by omega)]
      rfl
    · obtain ⟨k, rfl⟩ : ∃ k, j = k * 2 + 1 := ⟨j / 2, by omega⟩
      rw [weave_odd _ _ k hl, hm, List.getElem?_replicate, if_pos (by omega)]
      rfl
  · rw [Array.getElem?_eq_none (by rw [size_madeCells]; omega), List.getElem?_eq_none (by omega)]

/-- A pool as it is made, its line empty yet. -/
theorem pool_bare (w : World) (n size : Nat) (hn : n ≤ 64) :
    PoolC ((w.alloc (.cells (madeCells #[Value.slice none 0 0, .int .i64 0] (n * 2)) 66)).alloc (.cells #[.int .i64 (size : Int), .slice (some ⟨w.heap.size, 0, none⟩) n n, .slice none 0 0] 63)) w.heap.size (fun k => w.heap.size ≤ k ∧ k < w.heap.size + 2) (w.heap.size + 1) w.heap.size (.slice none 0 0) (List.replicate n (.slice none 0 0)) size (List.replicate n []) (List.replicate n 0) [] := by
  refine ⟨fun k hk => ⟨hk.1, by simp; omega⟩, by omega, by omega, (fun k hk => by cases hk), fun i V k hV hk => ?_, ?_, ?_, World.ownsRow_nil _ _ _ _, by simp, by simp, fun i V o hV ho => ?_, fun i j V V' k hij hV hV' hk => ?_⟩
  · rw [List.getElem?_replicate] at hV
    split at hV
    · injection hV with hV; subst hV; cases hk
    · cases hV
  · rw [List.length_replicate]
    have := heap_alloc_new (w.alloc (.cells (madeCells #[Value.slice none 0 0, .int .i64 0] (n * 2)) 66)) (.cells #[.int .i64 (size : Int), .slice (some ⟨w.heap.size, 0, none⟩) n n, .slice none 0 0] 63)
    simpa using this
  · rw [weave_made n, List.length_replicate]
    have h1 := World.ownsRow_lit (base := 0) (e := 66) (size := 2) w (weave (List.replicate n (Value.slice none 0 0)) (List.replicate n 0)).toArray n (Nat.zero_le _) (by unfold maxLen; omega) (by rw [List.size_toArray, weave_length _ _ (by simp)]; simp)
    exact row_keep h1 fun k hk _ => Below.heap_alloc _ _ k hk
  · rw [List.getElem?_replicate] at hV ho
    split at hV
    · rename_i hlt
      injection hV with hV
      rw [if_pos hlt] at ho
      injection ho with ho
      subst hV; subst ho
      exact World.ownsRow_nil _ _ _ _
    · cases hV
  · rw [List.getElem?_replicate] at hV
    split at hV
    · injection hV with hV; subst hV; cases hk
    · cases hV

set_option maxHeartbeats 2000000 in
theorem new_yes (n size : Nat) (hn : 1 ≤ n ∧ n ≤ 64) (hs : 1 ≤ size ∧ size ≤ 4096) (w : World) :
    Calls Try.prog 9 #[.int .i64 (n : Int), .int .i64 (size : Int)] w fun e w' => ∃ F g gb FV, e = .returned (.tuple #[.pointer (some ⟨g, 0, none⟩), .int .i64 0]) ∧ PoolC w' w.heap.size F g gb FV (List.replicate n (.slice none 0 0)) size (List.replicate n []) (List.replicate n 0) (List.range n) ∧ Below w.heap.size w w' := by
  obtain ⟨i0, hi, hz0, hz1, hz2⟩ := info_parts info_buf
  have hmk : ∀ w : World, (Instr.makeSlice 61 (.int .i64 (n : Int)) (.int .i64 (n : Int))).run Try.prog w = .ok (.slice (some ⟨w.heap.size, 0, none⟩) n n) (w.alloc (.cells (madeCells #[Value.slice none 0 0, .int .i64 0] (n * 2)) 66)) := by
    intro w
    have := run_make (P := Try.prog) w 61 66 i0 _ Try.underlying61 hi hz0 .i64 .i64 (n : Int) (n : Int) (by omega) (by omega) (by rw [hz2]; omega) (by omega)
    rw [hz1] at this
    simpa [Value.cells] using this
  obtain ⟨W2, hW2⟩ : ∃ W2, W2 = (w.alloc (.cells (madeCells #[Value.slice none 0 0, .int .i64 0] (n * 2)) 66)).alloc (.cells #[.int .i64 (size : Int), .slice (some ⟨w.heap.size, 0, none⟩) n n, .slice none 0 0] 63) := ⟨_, rfl⟩
  have hp := pool_bare w n size hn.2
  rw [← hW2] at hp
  have hb2 : Below w.heap.size w W2 := by rw [hW2]; exact ((Below.refl _ _).alloc (Nat.le_refl _) _).alloc (by simp) _
  have HW2 := Lib.hid hW2
  have HP := Lib.hid hp
  have HB2 := Lib.hid hb2
  have d1 : decide ((n : Int) < 1) = false := by simp; omega
  have d2 : decide (64 < (n : Int)) = false := by simp; omega
  have d3 : decide ((size : Int) < 1) = false := by simp; omega
  have d4 : decide (4096 < (size : Int)) = false := by simp; omega
  clear hp hW2 hz0 hz1 hz2 hi hb2
  go_enter Try.func9, Try.ntmps9
  go_wp2_with fail
  rw [← HW2.out]
  obtain ⟨g, hg⟩ : ∃ g, g = w.heap.size + 1 := ⟨_, rfl⟩
  obtain ⟨gb, hgb⟩ : ∃ gb, gb = w.heap.size := ⟨_, rfl⟩
  rw [← hg] at HP ⊢
  have HP' : Hid (∃ F FV, PoolC W2 w.heap.size F g gb FV (List.replicate n (.slice none 0 0)) size (List.replicate n []) (List.replicate n 0) (List.range 0)) := Lib.hid (by rw [hgb]; exact ⟨_, _, HP.out⟩)
  rw [← hgb]
  clear HP HW2
  have HG := Lib.hid hg; clear hg
  have HGB := Lib.hid hgb; clear hgb
  go_loopw [7, 28] (fun _ v28 wr => ∃ i : Nat, i ≤ n ∧ v28 = .int .i64 (i : Int) ∧ Hid (∃ F FV, PoolC wr w.heap.size F g gb FV (List.replicate n (.slice none 0 0)) size (List.replicate n []) (List.replicate n 0) (List.range i)) ∧ Hid (Below w.heap.size w wr)) (fun _ v28 _ => n - (intOf v28).toNat)
  case atStart => exact ⟨0, by omega, rfl, HP', HB2⟩
  case round =>
    obtain ⟨i, hi, rfl, HP, HB⟩ := hrel
    by_cases hlt : i < n
    · obtain ⟨F, FV, hp⟩ := HP.out
      have c2 := hp.c2
      obtain ⟨v', w3, happ, hown3, hgr3, hat3⟩ := push_at 41 3 (.int .i64 0) 8 Try.underlying41 info_int rfl wr 0 FV _ _ hp.free (.int .i64 (i : Int)) rfl (by rw [List.length_range]; omega) (by rw [List.length_range]; unfold maxLen; omega) (Nat.zero_le _)
      rw [List.length_range] at hown3
      have hown3' : w3.ownsRow 0 3 1 v' (List.range (i + 1)).length (iv (List.range (i + 1))) := by rw [List.length_range, List.range_succ, iv_append]; simpa [iv, ints] using hown3
      have hp3 := hp.setF v' (List.range (i + 1)) hgr3 hown3' hat3
      have hgg := (hgr3.block g hp.lt (fun e => hp.free_ne.1 e.symm)).trans hp.blk
      have c23 : w3.cell? ⟨g, 2, none⟩ = some FV := cell_of_row w3 g 2 _ _ (0, 0) hgg
      have f23 : w3.frozen? ⟨g, 2, none⟩ = false := by simp [World.frozen?, hgg]
      have hb3 : Below w.heap.size w (w3.setCell ⟨g, 2, none⟩ v') := (HB.out.grown hgr3 HB.out.size (fun k hk => (hp.low k (hp.ff k hk)).1)).setCell (p := ⟨g, 2, none⟩) (hp.low g hp.fg).1 _
      obtain ⟨Af, cf, rfl, _⟩ := hp.lineAt
      rw [List.length_range] at c2 c23 happ
      obtain ⟨A3, c3, rfl, _⟩ := own_cells hown3
      have HAPP := Lib.hid happ
      have HP3 := Lib.hid hp3
      have HB3 := Lib.hid hb3
      clear happ hp3 hp hown3 hown3' hgr3 hat3 hgg hb3
      go_wp2_with (at_builtin; refine wpList_append_run rfl _ _ 41 rfl rfl _ _ _ _ rfl rfl HAPP.out ?_)
      refine ⟨⟨i + 1, by omega, by go_num, Lib.hid ⟨_, _, HP3.out⟩, HB3⟩, by simp [intOf]; omega⟩
    · have hie : i = n := by omega
      have HIE := Lib.hid hie; clear hie
      go_wp2_with fail
      go_ret2
      obtain ⟨F, FV, hp⟩ := HP.out
      rw [HIE.out] at hp
      exact ⟨F, g, gb, FV, rfl, hp, HB.out⟩
end Go.Proofs.Ytgjmgbpphfccaaa
