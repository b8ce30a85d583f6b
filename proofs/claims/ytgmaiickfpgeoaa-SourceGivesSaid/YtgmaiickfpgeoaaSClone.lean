/- strings.Clone; slices.Clone of texts. -/
import Derived.Test.YtgmaiickfpgeoaaOwn
import Derived.Lib.Strings
import Derived.Lib.Walk
import Derived.Lib.BufferWrite
import Derived.Lib.UnsafeStr
import Derived.Laws.MakeOwn
import Derived.Lib.SliceRun
namespace Go.Proofs.Ytgmaiickfpgeoaa
open Go Go.RowKit
set_option linter.unusedVariables false

theorem ptr_u8 : Try.prog.underlying 59 = some (.pointer 5) := by kernel_rfl
theorem size_u8 : (Try.prog.info? 5).map (·.size) = some 1 := by kernel_rfl
theorem cells_u8 : Try.prog.cellsOf 5 = 1 := by kernel_rfl

theorem head_add (g j : Nat) : (⟨g, 0, none⟩ : Addr).add j = ⟨g, j, none⟩ := by unfold Addr.add; split <;> simp_all
/-- make([]byte, n): a row of n octets, just made, whatever the world. -/
theorem make_octets (n : Nat) (hn : n ≤ 281474976710656) : ∃ M : Array Value, M.size = n ∧ ∀ W : World, (Instr.makeSlice 22 (.int .i64 (n : Int)) (.int .i64 (n : Int))).run Try.prog W = .ok (.slice (some ⟨W.heap.size, 0, none⟩) n n) (W.alloc (.cells M 5)) := by
  obtain ⟨i0, hi, hz0, hz1, hz2⟩ := info_parts info_u8
  refine ⟨madeCells (Value.int .u8 0).cells (((n : Nat) : Int).toNat * i0.size), by rw [size_madeCells, hz1]; simp, fun W => ?_⟩
  simpa using run_make (P := Try.prog) W 22 5 i0 (.int .u8 0) Try.underlying22 hi hz0 .i64 .i64 (n : Int) (n : Int) (by omega) (by omega) (by rw [hz2]; omega) (by omega)

/-- A row whose cells are the text's octets, not frozen, in block g: unsafe.String of all of it is the text. -/
theorem text_of_row {w : World} {g : Nat} {Y : Array Value} {s : ByteArray} (hg : w.heap[g]? = some (.cells Y 5 (0, 0))) (hY : Y.toList = Lib.byteCells s.data.toList) (h0 : 0 < s.size) (hs : s.size ≤ 281474976710656) :
    (Builtin.unsafeString_ #[59, 3] 9 #[.pointer (some ⟨g, 0, none⟩), .int .i64 (s.size : Int)]).run Try.prog w = .ok (.string s) (w.freeze ⟨g, 0, none⟩ s.size) := by
  have hl := Lib.size_eq s
  have hYs : Y.size = s.size := by
    have := congrArg List.length hY
    rw [Lib.byteCells_length, Array.length_toList] at this
    omega
  have hcell : ∀ (j : Nat) (x : UInt8), s.data.toList[j]? = some x → w.cell? ((⟨g, 0, none⟩ : Addr).add j) = some (.int .u8 x.toNat) := by
    intro j x hx
    rw [head_add g j, cell_of_row w g j Y 5 (0, 0) hg, ← Array.getElem?_toList, hY]
    simp [Lib.byteCells, hx]
  have hrun := Lib.run_unsafeString_row (P := Try.prog) w 59 3 9 5 ptr_u8 cells_u8 g Y.size (by unfold World.shape?; rw [hg]) s.data.toList (fun e => by rw [hl, e] at h0; exact Nat.lt_irrefl 0 h0) (by omega) (by omega) hcell
  rw [← hl] at hrun
  exact hrun

set_option maxHeartbeats 1000000 in
set_option maxRecDepth 100000 in
/-- internal/stringslite.Clone of a text of no octets. -/
theorem slClone_none (w : World) : Calls Try.prog 27 #[.string ⟨#[]⟩] w fun e w' => e = .returned (.string ⟨#[]⟩) ∧ w' = w := by
  go_enter Try.func27, Try.ntmps27
  go_wp2
  go_ret
  exact ⟨rfl, rfl⟩

set_option maxHeartbeats 1000000 in
set_option maxRecDepth 100000 in
/-- internal/stringslite.Clone of another: the same octets, in a row that is new. -/
theorem slClone_some (s : ByteArray) (w : World) (h0 : 0 < s.size) (hlim : s.size ≤ 281474976710656) :
    Calls Try.prog 27 #[.string s] w fun e w' => e = .returned (.string s) ∧ Below w.heap.size w w' := by
  obtain ⟨M, hM, hmk⟩ := make_octets s.size hlim
  have hcp := Lib.run_copy_row_string (P := Try.prog) (w.alloc (.cells M 5)) 22 9 3 5 w.heap.size 0 s.size s.size s M 5 Try.underlying22 size_u8 (heap_alloc_new w _) (Nat.le_refl _) (by omega)
  obtain ⟨Y, hY⟩ : ∃ Y, Y = (M.toList.take 0 ++ Lib.byteCells s.data.toList ++ M.toList.drop (0 + s.size)).toArray := ⟨_, rfl⟩
  rw [← hY] at hcp
  have hYl : Y.toList = Lib.byteCells s.data.toList := by
    have e : M.toList.drop (0 + s.size) = [] := List.drop_of_length_le (by rw [Array.length_toList]; omega)
    rw [hY, e]
    simp
  have htx := text_of_row (setRow_heap (w.alloc (.cells M 5)) w.heap.size M Y 5 (0, 0) (heap_alloc_new w _)) hYl h0 hlim
  have hfill : Below w.heap.size (w.alloc (.cells M 5)) ((w.alloc (.cells M 5)).setRow w.heap.size Y) := ⟨rfl, rfl, rfl, by simp, fun k hk => setRow_other _ _ _ _ (by omega)⟩
  have hbel : Below w.heap.size w (((w.alloc (.cells M 5)).setRow w.heap.size Y).freeze ⟨w.heap.size, 0, none⟩ s.size) :=
    Lib.below_freeze (((Below.refl w.heap.size w).alloc (Nat.le_refl _) (.cells M 5)).trans hfill) (p := ⟨w.heap.size, 0, none⟩) (Nat.le_refl _) _
  have hne : decide ((s.size : Int) = 0) = false := decide_eq_false (by omega)
  have HB := Lib.hid hbel; clear hbel
  clear hY hYl hM hfill
  go_enter Try.func27, Try.ntmps27
  go_wp2
  go_ret
  exact ⟨rfl, HB.out⟩

theorem slClone_any (s : ByteArray) (w : World) (hlim : s.size ≤ 281474976710656) :
    Calls Try.prog 27 #[.string s] w fun e w' => e = .returned (.string s) ∧ Below w.heap.size w w' := by
  rcases Nat.eq_zero_or_pos s.size with h0 | h0
  · obtain rfl : s = ⟨#[]⟩ := ByteArray.ext (Array.eq_empty_of_size_eq_zero h0)
    exact (slClone_none w).mono fun e w' ⟨he, hw⟩ => ⟨he, by rw [hw]; exact Below.refl _ _⟩
  · exact slClone_some s w h0 hlim

theorem sClone_any (s : ByteArray) (w : World) (hlim : s.size ≤ 281474976710656) :
    Calls Try.prog 22 #[.string s] w fun e w' => e = .returned (.string s) ∧ Below w.heap.size w w' := by
  have HC := Lib.hid (slClone_any s w hlim)
  clear hlim
  go_enter Try.func22, Try.ntmps22
  go_wp2_with fail
  refine HC.out.mono ?_; rintro e w' ⟨rfl, hb⟩
  go_wp2_with fail
  go_ret
  exact ⟨rfl, hb⟩

theorem tClone_nil (w : World) : Calls Try.prog 23 #[.slice none 0 0] w fun e w' => e = .returned (.slice none 0 0) ∧ w' = w := by
  have q22 : ∀ (w : World) (a : Option Addr) (n c n' c' : Nat), (binOp .eql 39 (.slice a n c) (.slice none n' c')).run Try.prog w = .ok (.bool a.isNone) w := fun w a n c n' c' => Lib.run_eql_slice_nil w _ _ a n c n' c' Try.underlying39
  go_enter Try.func23, Try.ntmps23
  go_wp2
  go_ret
  exact ⟨rfl, rfl⟩

/-- slices.Clone of texts: a row of the call's own. -/
theorem tClone_any (V : Value) (B : Nat) (ss : List ByteArray) (w : World) (ho : w.ownsRow B 9 1 V ss.length (ss.map .string)) (hn : ss.length ≤ 1000) :
    Calls Try.prog 23 #[V] w fun e w' => ∃ v', e = .returned v' ∧ w'.ownsRow w.heap.size 9 1 v' ss.length (ss.map .string) ∧ Below w.heap.size w w' := by
  obtain ⟨A, c, rfl, h1, h2, h3, h4⟩ := own_cells ho
  rcases A with _ | a
  · obtain ⟨h5, rfl⟩ := h3 rfl
    have : ss = [] := List.eq_nil_of_length_eq_zero h5
    subst this
    exact (tClone_nil w).mono fun e w' ⟨he, hw⟩ => ⟨_, he, World.ownsRow_nil _ _ _ _, by rw [hw]; exact Below.refl _ _⟩
  · obtain ⟨g, rfl, hB, hlt, hc, hfz⟩ := h4 a rfl
    have q22 : ∀ (w : World) (a : Option Addr) (n c n' c' : Nat), (binOp .eql 39 (.slice a n c) (.slice none n' c')).run Try.prog w = .ok (.bool a.isNone) w := fun w a n c n' c' => Lib.run_eql_slice_nil w _ _ a n c n' c' Try.underlying39
    obtain ⟨i0, hi, hz0, hz1, hz2⟩ := info_parts info_str
    obtain ⟨v', w', happ, hown, hgrow, _⟩ := run_append_own (P := Try.prog) (w.alloc (.cells #[] 9)) w.heap.size 39 39 9 i0 (.string ⟨#[]⟩) 1 16 Try.underlying39 hi hz0 hz1 hz2 rfl (by decide)
      (.slice (some ⟨w.heap.size, 0, none⟩) 0 0) 0 [] (World.ownsRow_made w #[] 0 (Nat.le_refl _) (Nat.zero_le _) rfl) ⟨g, 0, none⟩ ss.length c (ss.map .string) (by simp)
      (by
        intro j u hu
        have hadd : (⟨g, 0, none⟩ : Addr).add j = ⟨g, j, none⟩ := by unfold Addr.add; split <;> simp_all
        rw [hadd, World.cell?_of_block (w := w) (a := ⟨g, j, none⟩) (Below.heap_alloc w _ g hlt)]
        exact hc j u hu)
      (by intro u hu; obtain ⟨x, _, rfl⟩ := List.mem_map.1 hu; rfl) (by unfold maxLen; omega) (by omega) (by simp)
    rw [Nat.zero_add, List.nil_append] at hown
    have hb : Below w.heap.size w w' := ((Below.refl _ w).alloc (Nat.le_refl _) _).grown hgrow (by simp) (by intro k hk; simp [Value.ownBlock] at hk; omega)
    have HAPP := Lib.hid happ; clear happ
    have HOWN := Lib.hid hown; clear hown
    clear hgrow ho hc h4 h3
    go_enter Try.func23, Try.ntmps23
    go_wp2_with (at_builtin; refine wpList_append_run rfl _ _ 39 rfl rfl _ _ _ _ rfl rfl HAPP.out ?_)
    go_ret
    exact ⟨v', rfl, HOWN.out, hb⟩
end Go.Proofs.Ytgmaiickfpgeoaa
