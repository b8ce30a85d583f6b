/- A splitter: its memory; New, Held, finish, tooLong. -/
import Derived.Test.YtnfekbmmnenbfaaSpCut
import Derived.Lib.AppendStr
import Derived.Lib.AppendZeros
import Derived.Deep.RegionHeldLaw
import Derived.Deep.RegionLaw
namespace Go.Proofs.Ytnfekbmmnenbfaa
open Go Go.RowKit
set_option linter.unusedVariables false

/-- The splitter that lies in block g: what a record may have, the next one's number and place, what there is of it, whether all is over. -/
structure SplAt (w : World) (B g m n p : Nat) (V : Value) (cur : List Int) (over : Bool) : Prop where
  low : B ≤ g
  blk : w.heap[g]? = some (.cells #[.int .i64 (m : Int), .int .i64 (n : Int), .int .i64 (p : Int), V, .bool over] 44 (0, 0))
  row : w.ownsRow B 5 1 V cur.length (cur.map (.int .u8))
  byte : ∀ c ∈ cur, 0 ≤ c ∧ c < 256

theorem strCells_nums (S : ByteArray) : Lib.strCells S = (nums S).map (.int .u8) := by
  unfold Lib.strCells nums
  rw [List.map_map]
  rfl

section
variable {w w' : World} {B g m n p : Nat} {V : Value} {cur : List Int} {over : Bool}
theorem SplAt.lt (h : SplAt w B g m n p V cur over) : g < w.heap.size := (Array.getElem?_eq_some_iff.1 h.blk).1
theorem SplAt.c0 (h : SplAt w B g m n p V cur over) : w.cell? ⟨g, 0, none⟩ = some (.int .i64 (m : Int)) := cell_of_row w g 0 _ _ (0, 0) h.blk
theorem SplAt.c1 (h : SplAt w B g m n p V cur over) : w.cell? ⟨g, 1, none⟩ = some (.int .i64 (n : Int)) := cell_of_row w g 1 _ _ (0, 0) h.blk
theorem SplAt.c2 (h : SplAt w B g m n p V cur over) : w.cell? ⟨g, 2, none⟩ = some (.int .i64 (p : Int)) := cell_of_row w g 2 _ _ (0, 0) h.blk
theorem SplAt.c3 (h : SplAt w B g m n p V cur over) : w.cell? ⟨g, 3, none⟩ = some V := cell_of_row w g 3 _ _ (0, 0) h.blk
theorem SplAt.c4 (h : SplAt w B g m n p V cur over) : w.cell? ⟨g, 4, none⟩ = some (.bool over) := cell_of_row w g 4 _ _ (0, 0) h.blk
theorem SplAt.fz (h : SplAt w B g m n p V cur over) (j : Nat) : w.frozen? ⟨g, j, none⟩ = false := by have := h.blk; simp [World.frozen?, this]
theorem SplAt.drewN (h : SplAt w B g m n p V cur over) (q : Nat) : SplAt (w.drewN q) B g m n p V cur over := ⟨h.low, h.blk, h.row, h.byte⟩
theorem SplAt.below (h : SplAt w B g m n p V cur over) (hb : Below w.heap.size w w') : SplAt w' B g m n p V cur over := ⟨h.low, (hb.block g h.lt).trans h.blk, own_kept h.row hb, h.byte⟩
theorem SplAt.ne (h : SplAt w B g m n p V cur over) : V.ownBlock ≠ some g := row_ne_blk h.row h.blk (by decide)
theorem SplAt.isSlice (h : SplAt w B g m n p V cur over) : ∃ A c, V = .slice A cur.length c ∧ RowI .u8 w A cur.length cur ∧ cur.length ≤ c ∧ c ≤ maxLen := row_of_own h.row
theorem SplAt.leB (h : SplAt w B g m n p V cur over) : B ≤ w.heap.size := Nat.le_of_lt (Nat.lt_of_le_of_lt h.low h.lt)
/-- A cell other than the octets' is stored. -/
theorem SplAt.keepRow (h : SplAt w B g m n p V cur over) (j : Nat) (u : Value) : (w.setCell ⟨g, j, none⟩ u).ownsRow B 5 1 V cur.length (cur.map (.int .u8)) :=
  row_keep h.row fun k _ e => Below.heap_setCell _ _ _ _ (fun e' => h.ne (by rw [e, e']))
theorem SplAt.set1 (h : SplAt w B g m n p V cur over) (n' : Nat) : SplAt (w.setCell ⟨g, 1, none⟩ (.int .i64 (n' : Int))) B g m n' p V cur over := ⟨h.low, heap_setCell_same w g 1 _ _ _ h.blk, h.keepRow _ _, h.byte⟩
theorem SplAt.set2 (h : SplAt w B g m n p V cur over) (p' : Nat) : SplAt (w.setCell ⟨g, 2, none⟩ (.int .i64 (p' : Int))) B g m n p' V cur over := ⟨h.low, heap_setCell_same w g 2 _ _ _ h.blk, h.keepRow _ _, h.byte⟩
theorem SplAt.set4 (h : SplAt w B g m n p V cur over) (o : Bool) : SplAt (w.setCell ⟨g, 4, none⟩ (.bool o)) B g m n p V cur o := ⟨h.low, heap_setCell_same w g 4 _ _ _ h.blk, h.keepRow _ _, h.byte⟩
/-- Nothing is held: nil. -/
theorem SplAt.set3nil (h : SplAt w B g m n p V cur over) : SplAt (w.setCell ⟨g, 3, none⟩ (.slice none 0 0)) B g m n p (.slice none 0 0) [] over := ⟨h.low, heap_setCell_same w g 3 _ _ _ h.blk, World.ownsRow_nil _ _ _ _, by simp⟩
/-- Nothing is held: the octets' block stays. -/
theorem SplAt.set3cut {A : Option Addr} {k c : Nat} (h : SplAt w B g m n p (.slice A k c) cur over) : SplAt (w.setCell ⟨g, 3, none⟩ (.slice A 0 c)) B g m n p (.slice A 0 c) [] over := by
  refine ⟨h.low, heap_setCell_same w g 3 _ _ _ h.blk, ⟨rfl, ?_⟩, by simp⟩
  rcases (h.keepRow 3 (.slice A 0 c)).2 with ⟨h1, h2⟩ | ⟨b, cap, cu, h1, hb, hr, h3, h4, h5, h6⟩
  · injection h1 with e1 e2 e3
    subst e1; subst e3
    exact .inl ⟨rfl, rfl⟩
  · injection h1 with e1 e2 e3
    subst e1; subst e3
    exact .inr ⟨b, c, cu, rfl, hb, hr, Nat.zero_le _, h4, h5, by simp⟩
theorem SplAt.touch3 (h : SplAt w B g m n p V cur over) (j : Nat) (u : Value) : Touch B g w (w.setCell ⟨g, j, none⟩ u) := (Touch.refl B g w).setCell h.low u

/-- A text is added to what is held. -/
theorem SplAt.app (h : SplAt w B g m n p V cur over) (S : ByteArray) (hl : cur.length + S.size ≤ 10000000) : ∃ A' c' w', (Builtin.append_ #[42, 9] 42 #[V, .string S]).run Try.prog w = .ok (.slice A' (cur.length + S.size) c') w' ∧
    w'.cell? ⟨g, 3, none⟩ = some V ∧ w'.frozen? ⟨g, 3, none⟩ = false ∧ Hid (SplAt (w'.setCell ⟨g, 3, none⟩ (.slice A' (cur.length + S.size) c')) B g m n p (.slice A' (cur.length + S.size) c') (cur ++ nums S) over ∧ Touch B g w (w'.setCell ⟨g, 3, none⟩ (.slice A' (cur.length + S.size) c'))) := by
  obtain ⟨i0, hi, hz0, hz1, hz2⟩ := info_parts info_u8
  obtain ⟨v', w', h1, h2, h3, _⟩ := Lib.run_append_own_string (P := Try.prog) w B 42 9 42 5 i0 Try.underlying42 Try.underlying9 hi hz0 hz1 hz2 V cur.length _ h.row S (by unfold maxLen; omega) (by omega) h.leB
  rw [strCells_nums, ← List.map_append] at h2
  obtain ⟨A', c', rfl, _⟩ := row_of_own h2
  have hg' : w'.heap[g]? = some (.cells #[.int .i64 (m : Int), .int .i64 (n : Int), .int .i64 (p : Int), V, .bool over] 44 (0, 0)) := (h3.block g h.lt (fun e => h.ne e.symm)).trans h.blk
  have hne : (Value.slice A' (cur.length + S.size) c').ownBlock ≠ some g := row_ne_blk h2 hg' (by decide)
  refine ⟨A', c', w', h1, cell_of_row w' g 3 _ _ (0, 0) hg', by simp [World.frozen?, hg'], Lib.hid ⟨⟨h.low, heap_setCell_same w' g 3 _ _ _ hg', ?_, ?_⟩, ?_⟩⟩
  · rw [List.length_append, nums_length]
    exact row_keep h2 fun k _ e => Below.heap_setCell _ _ _ _ (fun e' => hne (by rw [e, e']))
  · intro c hc
    rcases List.mem_append.1 hc with hc | hc
    · exact h.byte c hc
    · exact nums_byte S c hc
  · exact ((Touch.refl B g w).grown h.row h.leB h3).setCell h.low _
end

theorem new_any (m : Nat) (w : World) (h1 : 1 ≤ m) (h2 : m ≤ 4096) :
    Calls Try.prog 11 #[.int .i64 (m : Int)] w fun e w' => e = .returned (.tuple #[.pointer (some ⟨w.heap.size, 0, none⟩), .int .i64 0]) ∧ SplAt w' w.heap.size w.heap.size m 0 0 (.slice none 0 0) [] false ∧ Below w.heap.size w w' := by
  go_enter Try.func11, Try.ntmps11
  go_wp2_with fail
  go_ret2
  exact ⟨rfl, ⟨Nat.le_refl _, heap_alloc_new w _, World.ownsRow_nil _ _ _ _, by simp⟩, (Below.refl _ _).alloc (Nat.le_refl _) _⟩

theorem new_bad (m : Int) (w : World) (h : m < 1 ∨ 4096 < m) :
    Calls Try.prog 11 #[.int .i64 m] w fun e w' => e = .returned (.tuple #[.pointer none, .int .i64 2]) ∧ w = w' := by
  rcases h with h | h
  · have hd : decide (m < 1) = true := by simpa using h
    go_enter Try.func11, Try.ntmps11
    go_wp2_with fail
    go_ret2
    exact ⟨rfl, rfl⟩
  · have hd : decide (m < 1) = false := by simp; omega
    have hd : decide (4096 < m) = true := by simpa using h
    go_enter Try.func11, Try.ntmps11
    go_wp2_with fail
    go_ret2
    exact ⟨rfl, rfl⟩

section
variable {w : World} {B g m n p : Nat} {V : Value} {cur : List Int} {over : Bool}
theorem held_any (h : SplAt w B g m n p V cur over) :
    Calls Try.prog 13 #[.pointer (some ⟨g, 0, none⟩)] w fun e w' => e = .returned (.int .i64 (cur.length : Int)) ∧ w = w' := by
  have c3 := h.c3
  obtain ⟨A, c, rfl, _⟩ := h.isSlice
  clear h
  go_enter Try.func13, Try.ntmps13
  go_wp2_with fail
  go_ret
  exact ⟨rfl, rfl⟩

theorem finish_any (h : SplAt w B g m n p V cur over) :
    Calls Try.prog 17 #[.pointer (some ⟨g, 0, none⟩)] w fun e w' => e = .returned (.tuple #[]) ∧ SplAt w' B g m n p (.slice none 0 0) [] true ∧ Touch B g w w' := by
  have c3 := h.c3
  have f3 := h.fz 3
  have h2 := h.set3nil
  have c4 := h2.c4
  have f4 := h2.fz 4
  have HS := Lib.hid (h2.set4 true)
  have HT := Lib.hid ((h.touch3 3 (.slice none 0 0)).trans (h2.touch3 4 (.bool true)))
  obtain ⟨A, c, rfl, _⟩ := h.isSlice
  clear h h2
  go_enter Try.func17, Try.ntmps17
  go_wp2_with fail
  go_end0
  exact ⟨rfl, HS.out, HT.out⟩

/-- Is it too long? -/
theorem tooLong_any (h : SplAt w B g m n p V cur over) (S : ByteArray) (hS : S.size ≤ 1000000) (hc : cur.length ≤ 1000000) (hm : m ≤ 4096) :
    Calls Try.prog 16 #[.pointer (some ⟨g, 0, none⟩), .string S] w fun e w' => e = .returned (.bool (decide (0 < S.size ∧ m < cur.length + (chop (nums S)).length))) ∧ ∃ q, w' = w.drewN q := by
  have c0 := h.c0
  have c3 := h.c3
  obtain ⟨A, c, rfl, _⟩ := h.isSlice
  clear h
  rcases Nat.eq_zero_or_pos S.size with h0 | h0
  · have hS : S = ⟨#[]⟩ := by
      apply ByteArray.ext
      apply Array.eq_empty_of_size_eq_zero
      exact h0
    subst hS
    rw [decide_eq_false (fun q => absurd q.1 (by rw [h0]; decide))]
    go_enter Try.func16, Try.ntmps16
    go_wp2_with fail
    go_ret
    exact ⟨rfl, 0, rfl⟩
  · have hne : (S.toList == []) = false := by
      rw [Lib.toList_data, beq_eq_false_iff_ne]
      intro e
      have h1 := congrArg List.length e
      rw [Array.length_toList] at h1
      have h2 : S.data.size = S.size := rfl
      rw [h2] at h1
      have h3 : S.size = 0 := h1
      omega
    have HT := Lib.hid (fun w => trimS_any S w h0 hS)
    have hz : (strOfNums (chop (nums S))).size = (chop (nums S)).length := by
      have := nums_length (strOfNums (chop (nums S)))
      rw [nums_strOfNums] at this
      · exact this.symm
      · intro c hc
        have : c ∈ nums S := by
          unfold chop at hc
          split at hc
          · exact List.dropLast_subset _ hc
          · exact hc
        exact nums_byte S c this
    have hle : (chop (nums S)).length ≤ S.size := by
      have := nums_length S
      unfold chop
      split
      · rw [List.length_dropLast]; omega
      · omega
    generalize strOfNums (chop (nums S)) = T at HT hz
    generalize (chop (nums S)).length = k at hz hle
    have hw : IntKind.i64.wrap ((cur.length : Int) + (k : Int)) = (cur.length : Int) + (k : Int) := by rw [IntKind.wrap_i64]; omega
    have hd : decide (0 < S.size ∧ m < cur.length + k) = decide ((m : Int) < (cur.length : Int) + (k : Int)) := by
      apply decide_eq_decide.2
      omega
    rw [hd]
    clear hd hle
    go_enter Try.func16, Try.ntmps16
    go_wp2_with fail
    go_quiet ((go_at_call 20; exact Calls.quiet_of_same ((HT.out _).mono fun e w' ⟨he, hw⟩ => ⟨he, hw.symm⟩)))
    go_wp2_with fail
    go_ret
    exact ⟨rfl, _, rfl⟩
end
end Go.Proofs.Ytnfekbmmnenbfaa
