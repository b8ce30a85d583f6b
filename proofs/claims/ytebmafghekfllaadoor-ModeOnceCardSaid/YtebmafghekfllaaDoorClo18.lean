/- strings.Clone. -/
import Derived.Test.YtebmafghekfllaaDoorRec
import Derived.Lib.Strings
import Derived.Lib.Walk
import Derived.Lib.BufferWrite
import Derived.Lib.UnsafeStr
import Derived.Laws.MakeOwn
import Derived.Lib.SliceRun
namespace Go.Proofs.YtebmafghekfllaaDoor
open Go Go.RowKit
set_option linter.unusedVariables false
theorem info_u8 : (Tryd.prog.info? 5).map (fun i => (i.zero, i.size, i.bytes)) = some (some (.int .u8 0), 1, 1) := by kernel_rfl

theorem ptr_u8 : Tryd.prog.underlying 80 = some (.pointer 5) := by kernel_rfl
theorem size_u8 : (Tryd.prog.info? 5).map (·.size) = some 1 := by kernel_rfl
theorem cells_u8 : Tryd.prog.cellsOf 5 = 1 := by kernel_rfl

theorem head_add (g j : Nat) : (⟨g, 0, none⟩ : Addr).add j = ⟨g, j, none⟩ := by unfold Addr.add; split <;> simp_all
/-- make([]byte, n): a row of n octets, just made, whatever the world. -/
theorem make_octets (n : Nat) (hn : n ≤ 281474976710656) : ∃ M : Array Value, M.size = n ∧ ∀ W : World, (Instr.makeSlice 49 (.int .i64 (n : Int)) (.int .i64 (n : Int))).run Tryd.prog W = .ok (.slice (some ⟨W.heap.size, 0, none⟩) n n) (W.alloc (.cells M 5)) := by
  obtain ⟨i0, hi, hz0, hz1, hz2⟩ := info_parts info_u8
  refine ⟨madeCells (Value.int .u8 0).cells (((n : Nat) : Int).toNat * i0.size), by rw [size_madeCells, hz1]; simp, fun W => ?_⟩
  simpa using run_make (P := Tryd.prog) W 49 5 i0 (.int .u8 0) Tryd.underlying49 hi hz0 .i64 .i64 (n : Int) (n : Int) (by omega) (by omega) (by rw [hz2]; omega) (by omega)

/-- A row whose cells are the text's octets, not frozen, in block g: unsafe.String of all of it is the text. -/
theorem text_of_row {w : World} {g : Nat} {Y : Array Value} {s : ByteArray} (hg : w.heap[g]? = some (.cells Y 5 (0, 0))) (hY : Y.toList = Lib.byteCells s.data.toList) (h0 : 0 < s.size) (hs : s.size ≤ 281474976710656) :
    (Builtin.unsafeString_ #[80, 3] 9 #[.pointer (some ⟨g, 0, none⟩), .int .i64 (s.size : Int)]).run Tryd.prog w = .ok (.string s) (w.freeze ⟨g, 0, none⟩ s.size) := by
  have hl := Lib.size_eq s
  have hYs : Y.size = s.size := by
    have := congrArg List.length hY
    rw [Lib.byteCells_length, Array.length_toList] at this
    omega
  have hcell : ∀ (j : Nat) (x : UInt8), s.data.toList[j]? = some x → w.cell? ((⟨g, 0, none⟩ : Addr).add j) = some (.int .u8 x.toNat) := by
    intro j x hx
    rw [head_add g j, cell_of_row w g j Y 5 (0, 0) hg, ← Array.getElem?_toList, hY]
    simp [Lib.byteCells, hx]
  have hrun := Lib.run_unsafeString_row (P := Tryd.prog) w 80 3 9 5 ptr_u8 cells_u8 g Y.size (by unfold World.shape?; rw [hg]) s.data.toList (fun e => by rw [hl, e] at h0; exact Nat.lt_irrefl 0 h0) (by omega) (by omega) hcell
  rw [← hl] at hrun
  exact hrun

set_option maxHeartbeats 1000000 in
set_option maxRecDepth 100000 in
/-- internal/stringslite.Clone of a text of no octets. -/
theorem slClone_none (w : World) : Calls Tryd.prog 40 #[.string ⟨#[]⟩] w fun e w' => e = .returned (.string ⟨#[]⟩) ∧ w' = w := by
  go_enter Tryd.func40, Tryd.ntmps40
  go_wp2
  go_ret
  exact ⟨rfl, rfl⟩

set_option maxHeartbeats 1000000 in
set_option maxRecDepth 100000 in
/-- internal/stringslite.Clone of another: the same octets, in a row that is new. -/
theorem slClone_some (s : ByteArray) (w : World) (h0 : 0 < s.size) (hlim : s.size ≤ 281474976710656) :
    Calls Tryd.prog 40 #[.string s] w fun e w' => e = .returned (.string s) ∧ Below w.heap.size w w' := by
  obtain ⟨M, hM, hmk⟩ := make_octets s.size hlim
  have hcp := Lib.run_copy_row_string (P := Tryd.prog) (w.alloc (.cells M 5)) 49 9 3 5 w.heap.size 0 s.size s.size s M 5 Tryd.underlying49 size_u8 (heap_alloc_new w _) (Nat.le_refl _) (by omega)
  obtain ⟨Y, hY⟩ : ∃ Y, Y = (M.toList.take 0 ++ Lib.byteCells s.data.toList ++ M.toList.drop (0 + s.size)).toArray := ⟨_, rfl⟩
  rw [← hY] at hcp
  have hYl : Y.toList = Lib.byteCells s.data.toList := by
    have e : M.toList.drop (0 + s.size) = [] := List.drop_of_length_le (by rw [Array.length_toList]; omega)
    rw [hY, e]
    simp
  have htx := text_of_row (setRow_heap (w.alloc (.cells M 5)) w.heap.size M Y 5 (0, 0) (heap_alloc_new w _)) hYl h0 hlim
  have hfill : Below w.heap.size (w.alloc (.cells M 5)) ((w.alloc (.cells M 5)).setRow w.heap.size Y) := ⟨rfl, rfl, rfl, by simp, fun k hk => setRow_other _ _ _ _ (by omega)⟩
  have hbel : Below w.heap.size w (((w.alloc (.cells M 5)).setRow w.heap.size Y).freeze ⟨w.heap.size, 0, none⟩ s.size) :=
    Lib.below_freeze (((Below.refl w.heap.size w).alloc (Nat.le_refl _) (.cells M 5)).trans hfill) (p := ⟨w.heap.size, 0, none⟩) (Nat.le_refl _) _
  have hne : decide ((s.size : Int) = 0) = false := decide_eq_false (by omega)
  have HB := Lib.hid hbel; clear hbel
  clear hY hYl hM hfill
  go_enter Tryd.func40, Tryd.ntmps40
  go_wp2
  go_ret
  exact ⟨rfl, HB.out⟩

theorem slClone_any (s : ByteArray) (w : World) (hlim : s.size ≤ 281474976710656) :
    Calls Tryd.prog 40 #[.string s] w fun e w' => e = .returned (.string s) ∧ Below w.heap.size w w' := by
  rcases Nat.eq_zero_or_pos s.size with h0 | h0
  · obtain rfl : s = ⟨#[]⟩ := ByteArray.ext (Array.eq_empty_of_size_eq_zero h0)
    exact (slClone_none w).mono fun e w' ⟨he, hw⟩ => ⟨he, by rw [hw]; exact Below.refl _ _⟩
  · exact slClone_some s w h0 hlim

theorem sClone_any (s : ByteArray) (w : World) (hlim : s.size ≤ 281474976710656) :
    Calls Tryd.prog 38 #[.string s] w fun e w' => e = .returned (.string s) ∧ Below w.heap.size w w' := by
  have HC := Lib.hid (slClone_any s w hlim)
  clear hlim
  go_enter Tryd.func38, Tryd.ntmps38
  go_wp2_with fail
  refine HC.out.mono ?_; rintro e w' ⟨rfl, hb⟩
  go_wp2_with fail
  go_ret
  exact ⟨rfl, hb⟩
end Go.Proofs.YtebmafghekfllaaDoor
