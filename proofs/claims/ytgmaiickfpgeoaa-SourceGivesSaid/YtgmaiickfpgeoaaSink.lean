/- The sink: its memory; Open, Put, Asked, Got. -/
import Derived.Test.YtgmaiickfpgeoaaSClone
import Derived.Maps.AppendAt
import Derived.Deep.RegionHeldLaw
import Derived.Deep.RegionLaw
import Derived.BigQuiet
namespace Go.Proofs.Ytgmaiickfpgeoaa
open Go Go.RowKit
set_option linter.unusedVariables false

/-- append in a region that draws, by what its run is known to give. -/
theorem step_append_run {P : Program} {ops : Array Oper} {o : Oper} {a : Act} {w : World} {K : Act → World → Prop} {Q : Exit → Act → World → Prop} {E : Prop} (hgd : o.guard = none) (s x : Operand) (t : TypeId)
    (ho : o.op = .call { callee := .builtin .append, args := #[s, x], argTypes := #[t, t] }) (hty : o.type = t)
    (v y v' : Value) (w' : World) (hs : a.eval s = v) (hx : a.eval x = y) (hrun : (Builtin.append_ #[t, t] t #[v, y]).run P w = .ok v' w')
    (hK : K (a.put o.dst v') w') : if Region.wanted o (yielded ops a.tmps) = true then Oper.wp P o a w K Q else E := by
  have hw : Region.wanted o (yielded ops a.tmps) = true := by simp [Region.wanted, hgd]
  rw [if_pos hw]
  subst hty
  unfold Oper.wp
  simp [execOp, ho, resolve, invoke, builtin, hs, hx, hrun, Result.andThen]
  exact hK

/-- append of one text to a row that the call owns, and where the row lies then. -/
theorem push_text (w : World) (base : Nat) (v : Value) (n : Nat) (xs : List Value) (hown : w.ownsRow base 9 1 v n xs) (s : ByteArray) (hn : n ≤ 1000) (hbase : base ≤ w.heap.size) :
    ∃ v' w', (Builtin.append_ #[39, 39] 39 #[v, .slice (some ⟨w.heap.size, 0, none⟩) 1 1]).run Try.prog (w.alloc (.cells #[.string s] 9)) = .ok v' w' ∧ w'.ownsRow base 9 1 v' (n + 1) (xs ++ [.string s]) ∧ (w.alloc (.cells #[.string s] 9)).grownBy w' v.ownBlock ∧
      (v'.ownBlock = v.ownBlock ∨ v'.ownBlock = some (w.heap.size + 1)) := by
  obtain ⟨i0, hi, hz0, hz1, hz2⟩ := info_parts info_str
  obtain ⟨v', w', h1, h2, h3, _, h4⟩ := run_append_own_at (P := Try.prog) (w.alloc (.cells #[.string s] 9)) base 39 39 9 i0 (.string ⟨#[]⟩) 1 16 Try.underlying39 hi hz0 hz1 hz2 rfl (by decide) v n xs (own_alloc hown _) ⟨w.heap.size, 0, none⟩ 1 1 [.string s] rfl
    (by
      intro j u hu
      rcases j with _ | j
      · injection hu with hu
        subst hu
        rw [show (⟨w.heap.size, 0, none⟩ : Addr).add 0 = ⟨w.heap.size, 0, none⟩ by rfl, cell_of_row (w.alloc (.cells #[.string s] 9)) w.heap.size 0 #[.string s] 9 (0, 0) (heap_alloc_new w _)]
        rfl
      · simp at hu) (by simp [Value.oneCell']) (by unfold maxLen; omega) (by omega) (by simp; omega)
  exact ⟨v', w', h1, h2, h3, by simpa using h4⟩

/-- The sink that lies in block g: behind how many texts it refuses, the list that it has got, how often it was asked. -/
def SnkAt (w : World) (B g : Nat) (refuse : Int) (V : Value) (ss : List ByteArray) (asked : Int) : Prop :=
  B ≤ g ∧ w.heap[g]? = some (.cells #[.int .i64 refuse, V, .int .i64 asked] 53 (0, 0)) ∧ w.ownsRow B 9 1 V ss.length (ss.map .string)
/-- But for block g and the list V's, nothing that was there has turned. -/
def Off (g : Nat) (V : Value) (w w' : World) : Prop := Below 0 w w' ∧ ∀ k, k < w.heap.size → k ≠ g → some k ≠ V.ownBlock → w'.heap[k]? = w.heap[k]?
theorem Off.drewN {g : Nat} {V : Value} {w w' : World} (h : Off g V w w') (q : Nat) : Off g V w (w'.drewN q) := ⟨below_drewN h.1 q, h.2⟩
theorem Off.below {g B : Nat} {V : Value} {w w' : World} (h : Off g V w w') (hg : B ≤ g) (hV : ∀ k, V.ownBlock = some k → B ≤ k) (hB : B ≤ w.heap.size) : Below B w w' :=
  ⟨h.1.os, h.1.tape, h.1.output, h.1.size, fun k hk => h.2 k (by omega) (by omega) (fun e => by have := hV k e.symm; omega)⟩
theorem own_off {g : Nat} {V V' : Value} {w w' : World} {B n : Nat} {e : TypeId} {xs : List Value} (h : w.ownsRow B e 1 V' n xs) (ho : Off g V w w') (hg : V'.ownBlock ≠ some g) (hV : V'.ownBlock = none ∨ V'.ownBlock ≠ V.ownBlock) : w'.ownsRow B e 1 V' n xs := by
  refine ⟨h.1, ?_⟩
  rcases h.2 with h2 | ⟨b, cap, cur, rfl, hb, hr, r⟩
  · exact .inl h2
  · refine .inr ⟨b, cap, cur, rfl, hb, (ho.2 b (Array.getElem?_eq_some_iff.1 hr).1 (fun e => hg (by simp [Value.ownBlock, e])) ?_).trans hr, r⟩
    rcases hV with hV | hV
    · simp [Value.ownBlock] at hV
    · simpa [Value.ownBlock] using hV

section
variable {w w' : World} {B g : Nat} {refuse asked : Int} {V : Value} {ss : List ByteArray}
theorem SnkAt.lt (h : SnkAt w B g refuse V ss asked) : g < w.heap.size := (Array.getElem?_eq_some_iff.1 h.2.1).1
theorem SnkAt.c0 (h : SnkAt w B g refuse V ss asked) : w.cell? ⟨g, 0, none⟩ = some (.int .i64 refuse) := cell_of_row w g 0 _ _ (0, 0) h.2.1
theorem SnkAt.c1 (h : SnkAt w B g refuse V ss asked) : w.cell? ⟨g, 1, none⟩ = some V := cell_of_row w g 1 _ _ (0, 0) h.2.1
theorem SnkAt.c2 (h : SnkAt w B g refuse V ss asked) : w.cell? ⟨g, 2, none⟩ = some (.int .i64 asked) := cell_of_row w g 2 _ _ (0, 0) h.2.1
theorem SnkAt.fz (h : SnkAt w B g refuse V ss asked) (j : Nat) : w.frozen? ⟨g, j, none⟩ = false := by have := h.2.1; simp [World.frozen?, this]
theorem SnkAt.below (h : SnkAt w B g refuse V ss asked) (hb : Below w.heap.size w w') : SnkAt w' B g refuse V ss asked := ⟨h.1, (hb.block g h.lt).trans h.2.1, own_kept h.2.2 hb⟩
theorem SnkAt.drewN (h : SnkAt w B g refuse V ss asked) (q : Nat) : SnkAt (w.drewN q) B g refuse V ss asked := h
/-- The list lies in another block than the sink. -/
theorem SnkAt.ne (h : SnkAt w B g refuse V ss asked) : V.ownBlock ≠ some g := by
  rcases h.2.2.2 with ⟨rfl, _⟩ | ⟨b, cap, cur, rfl, hb, hr, _⟩
  · simp [Value.ownBlock]
  · simp [Value.ownBlock]
    rintro rfl
    have := h.2.1
    rw [hr] at this
    injection this with this
    injection this with _ ht _
    exact absurd ht (by decide)
theorem SnkAt.isSlice (h : SnkAt w B g refuse V ss asked) : ∃ A c, V = .slice A ss.length c := by
  obtain ⟨A, c, hv, _⟩ := own_cells h.2.2
  exact ⟨A, c, hv⟩
theorem SnkAt.set2 (h : SnkAt w B g refuse V ss asked) (a : Int) : SnkAt (w.setCell ⟨g, 2, none⟩ (.int .i64 a)) B g refuse V ss a := by
  refine ⟨h.1, heap_setCell_same w g 2 _ _ _ h.2.1, ?_⟩
  have hne := h.ne
  refine ⟨h.2.2.1, ?_⟩
  rcases h.2.2.2 with h2 | ⟨b, cap, cur, rfl, hb, hr, r⟩
  · exact .inl h2
  · exact .inr ⟨b, cap, cur, rfl, hb, (Below.heap_setCell _ _ _ _ (fun e => hne (by simp [Value.ownBlock]; exact e))).trans hr, r⟩
end

theorem sopen_any (refuse : Int) (w : World) :
    Calls Try.prog 14 #[.int .i64 refuse] w fun e w' => e = .returned (.pointer (some ⟨w.heap.size, 0, none⟩)) ∧ SnkAt w' w.heap.size w.heap.size refuse (.slice none 0 0) [] 0 ∧ Below w.heap.size w w' := by
  go_enter Try.func14, Try.ntmps14
  go_wp2_with fail
  go_ret
  exact ⟨rfl, ⟨Nat.le_refl _, heap_alloc_new w _, World.ownsRow_nil _ _ _ _⟩, (Below.refl _ _).alloc (Nat.le_refl _) _⟩
theorem asked_any {w : World} {B g : Nat} {refuse asked : Int} {V : Value} {ss : List ByteArray} (h : SnkAt w B g refuse V ss asked) :
    Calls Try.prog 16 #[.pointer (some ⟨g, 0, none⟩)] w fun e w' => e = .returned (.int .i64 asked) ∧ w = w' := by
  have c2 := h.c2
  clear h
  go_enter Try.func16, Try.ntmps16
  go_wp2_with fail
  go_ret
  exact ⟨rfl, rfl⟩
theorem got_any {w : World} {B g : Nat} {refuse asked : Int} {V : Value} {ss : List ByteArray} (h : SnkAt w B g refuse V ss asked) (hn : ss.length ≤ 1000) :
    Calls Try.prog 18 #[.pointer (some ⟨g, 0, none⟩)] w fun e w' => ∃ v', e = .returned v' ∧ w'.ownsRow w.heap.size 9 1 v' ss.length (ss.map .string) ∧ Below w.heap.size w w' := by
  have c1 := h.c1
  have HC := Lib.hid (tClone_any V B ss w h.2.2 hn)
  obtain ⟨A, c, rfl⟩ := h.isSlice
  clear h
  go_enter Try.func18, Try.ntmps18
  go_wp2_with fail
  refine HC.out.mono ?_; rintro e w' ⟨v', rfl, ho, hb⟩
  go_wp2_with fail
  go_ret
  exact ⟨v', rfl, ho, hb⟩

set_option maxHeartbeats 1000000 in
/-- It refuses. -/
theorem put_no {w : World} {B g : Nat} {refuse asked : Int} {V : Value} {ss : List ByteArray} (h : SnkAt w B g refuse V ss asked) (s : ByteArray) (ha : 0 ≤ asked ∧ asked ≤ 1000000) (hr : 0 ≤ refuse ∧ refuse ≤ (ss.length : Int)) :
    Calls Try.prog 15 #[.pointer (some ⟨g, 0, none⟩), .string s] w fun e w' => e = .returned (.int .i64 12) ∧ SnkAt w' B g refuse V ss (asked + 1) ∧ Off g V w w' := by
  have c0 := h.c0
  have c1 := h.c1
  have c2 := h.c2
  have f2 := h.fz 2
  have hd1 : decide (0 ≤ refuse) = true := by simp; omega
  have hd2 : decide (refuse ≤ (ss.length : Int)) = true := by simp; omega
  have HS := Lib.hid (h.set2 (asked + 1))
  have hoff : Off g V w (w.setCell ⟨g, 2, none⟩ (.int .i64 (asked + 1))) := ⟨(Below.refl 0 w).setCell (p := ⟨g, 2, none⟩) (Nat.zero_le _) _, fun k _ hk _ => Below.heap_setCell _ _ _ _ hk⟩
  have HO := Lib.hid hoff; clear hoff
  obtain ⟨A, c, rfl⟩ := h.isSlice
  clear h hr
  go_enter Try.func15, Try.ntmps15
  go_wp2_with fail
  go_quiet (fail)
  go_wp2_with fail
  go_ret
  exact ⟨rfl, HS.out.drewN _, HO.out.drewN _⟩

set_option maxHeartbeats 4000000 in
/-- It takes the text. -/
theorem put_yes {w : World} {B g : Nat} {refuse asked : Int} {V : Value} {ss : List ByteArray} (h : SnkAt w B g refuse V ss asked) (s : ByteArray) (hs : s.size ≤ 281474976710656) (hn : ss.length ≤ 900) (ha : 0 ≤ asked ∧ asked ≤ 1000000) (hr : refuse < 0 ∨ (ss.length : Int) < refuse) :
    Calls Try.prog 15 #[.pointer (some ⟨g, 0, none⟩), .string s] w fun e w' => e = .returned (.int .i64 0) ∧ ∃ V', SnkAt w' B g refuse V' (ss ++ [s]) (asked + 1) ∧ Off g V w w' ∧ (V'.ownBlock = V.ownBlock ∨ ∃ b, V'.ownBlock = some b ∧ w.heap.size ≤ b) := by
  have c0 := h.c0
  have c1 := h.c1
  have c2 := h.c2
  have f2 := h.fz 2
  obtain ⟨W3, hW3⟩ : ∃ W3, W3 = w.setCell ⟨g, 2, none⟩ (.int .i64 (asked + 1)) := ⟨_, rfl⟩
  have hs3 : SnkAt W3 B g refuse V ss (asked + 1) := by rw [hW3]; exact h.set2 (asked + 1)
  have hoff3 : Off g V w W3 := by rw [hW3]; exact ⟨(Below.refl 0 w).setCell (p := ⟨g, 2, none⟩) (Nat.zero_le _) _, fun k _ hk _ => Below.heap_setCell _ _ _ _ hk⟩
  have hz3 : W3.heap.size = w.heap.size := by rw [hW3]; simp [World.setCell]
  have c30 := hs3.c0
  have c31 := hs3.c1
  have hBl : B ≤ w.heap.size := Nat.le_of_lt (Nat.lt_of_le_of_lt h.1 h.lt)
  have hpush : ∀ w4, Below W3.heap.size W3 w4 → ∃ v' w5, (Builtin.append_ #[39, 39] 39 #[V, .slice (some ⟨w4.heap.size, 0, none⟩) 1 1]).run Try.prog (w4.alloc (.cells #[.string s] 9)) = .ok v' w5 ∧
      w5.cell? ⟨g, 1, none⟩ = some V ∧ w5.frozen? ⟨g, 1, none⟩ = false ∧ Hid (SnkAt (w5.setCell ⟨g, 1, none⟩ v') B g refuse v' (ss ++ [s]) (asked + 1) ∧ Off g V w (w5.setCell ⟨g, 1, none⟩ v') ∧ (v'.ownBlock = V.ownBlock ∨ ∃ b, v'.ownBlock = some b ∧ w.heap.size ≤ b)) := by
    intro w4 hb4
    have hs4 := hs3.below hb4
    have hz4 := hb4.size
    obtain ⟨v', w5, happ, hown, hgr, hat⟩ := push_text w4 B V ss.length _ hs4.2.2 s (by omega) (by omega)
    have hg5 : w5.heap[g]? = some (.cells #[.int .i64 refuse, V, .int .i64 (asked + 1)] 53 (0, 0)) := by
      rw [hgr.block g (by have := hs4.lt; simp; omega) (fun e => hs4.ne e.symm)]
      exact (Below.heap_alloc w4 _ g hs4.lt).trans hs4.2.1
    have hg6 : (w5.setCell ⟨g, 1, none⟩ v').heap[g]? = some (.cells #[.int .i64 refuse, v', .int .i64 (asked + 1)] 53 (0, 0)) := heap_setCell_same w5 g 1 _ _ _ hg5
    have hne : v'.ownBlock ≠ some g := by
      rcases hat with h1 | h1
      · rw [h1]; exact hs4.ne
      · rw [h1]; intro e; injection e with e; have := hs4.lt; omega
    refine ⟨v', w5, happ, cell_of_row w5 g 1 _ _ (0, 0) hg5, by simp [World.frozen?, hg5], Lib.hid ⟨⟨h.1, hg6, ?_⟩, ?_, ?_⟩⟩
    · have hown' : w5.ownsRow B 9 1 v' (ss ++ [s]).length ((ss ++ [s]).map .string) := by simpa using hown
      refine ⟨hown'.1, ?_⟩
      rcases hown'.2 with h2 | ⟨b, cap, cur, rfl, hb, hr, r⟩
      · exact .inl h2
      · exact .inr ⟨b, cap, cur, rfl, hb, (Below.heap_setCell _ _ _ _ (fun e => hne (by simp [Value.ownBlock]; exact e))).trans hr, r⟩
    · have hb0 : Below 0 w w5 := (hoff3.1.trans (Below.mono hb4 (Nat.zero_le _))).alloc (Nat.zero_le _) _ |>.grown hgr (Nat.zero_le _) (fun _ _ => Nat.zero_le _)
      refine ⟨hb0.setCell (p := ⟨g, 1, none⟩) (Nat.zero_le _) _, fun k hk hkg hkV => ?_⟩
      rw [Below.heap_setCell _ _ _ _ hkg, hgr.block k (by simp; omega) hkV, Below.heap_alloc w4 _ k (by omega), hb4.block k (by omega)]
      exact hoff3.2 k hk hkg hkV
    · rcases hat with h1 | h1
      · exact .inl h1
      · exact .inr ⟨_, h1, by omega⟩
  have HPUSH := Lib.hid hpush; clear hpush
  have HCL := Lib.hid (fun w => sClone_any s w hs)
  obtain ⟨A, c, rfl⟩ := h.isSlice
  have HW3 := Lib.hid hW3
  have hgl3 : g < W3.heap.size := hs3.lt
  clear h hs3 hoff3 hs
  have hcel : ∀ w', Below W3.heap.size W3 w' → w'.cell? ⟨g, 1, none⟩ = some (.slice A ss.length c) := fun w' hb => (hb.cell (p := ⟨g, 1, none⟩) hgl3).trans c31
  have HCEL := Lib.hid hcel; clear hcel
  rcases hr with hr | hr
  · have hd1 : decide (0 ≤ refuse) = false := by simp; omega
    go_enter Try.func15, Try.ntmps15
    go_wp2_with fail
    rw [← hW3]
    clear hW3 c0 c1 c2 f2
    go_quiet (fail)
    go_wp2_with fail
    obtain ⟨W4, hW4⟩ : ∃ W4, W4 = W3.drewN nq := ⟨_, rfl⟩
    rw [← hW4]
    have hb4 : Below W3.heap.size W3 W4.drew := by rw [hW4]; exact (below_drewN (Below.refl _ _) _).drew
    have hcc := HCEL.out _ hb4
    clear hW4
    go_region_law (first
      | (refine step_append_run rfl _ _ 39 rfl rfl _ _ _ _ rfl rfl happ ?_)
      | (go_simp; go_at_call 22; refine (HCL.out _).mono ?_; rintro e w5 ⟨rfl, hb5⟩; have hb35 := hb4.trans (Below.mono hb5 hb4.size); have hc5 := HCEL.out _ hb35; have hc5a := fun o => HCEL.out _ (hb35.alloc hb35.size o); obtain ⟨v', w6, happ, hc6, hf6, hfin⟩ := HPUSH.out w5 hb35; obtain ⟨A6, c6, rfl⟩ := hfin.out.1.isSlice))
    all_goals go_wp2_with fail
    all_goals go_ret
    all_goals (have h := hfin.out; rw [show (ss ++ [s]).length = ss.length + 1 by simp] at h; exact ⟨rfl, _, h.1, h.2.1, h.2.2⟩)
  · have hd1 : decide (0 ≤ refuse) = true := by simp; omega
    have hd2 : decide (refuse ≤ (ss.length : Int)) = false := by simp; omega
    go_enter Try.func15, Try.ntmps15
    go_wp2_with fail
    rw [← hW3]
    clear hW3 c0 c1 c2 f2
    go_quiet (fail)
    go_wp2_with fail
    obtain ⟨W4, hW4⟩ : ∃ W4, W4 = W3.drewN nq := ⟨_, rfl⟩
    rw [← hW4]
    have hb4 : Below W3.heap.size W3 W4.drew := by rw [hW4]; exact (below_drewN (Below.refl _ _) _).drew
    have hcc := HCEL.out _ hb4
    clear hW4
    go_region_law (first
      | (refine step_append_run rfl _ _ 39 rfl rfl _ _ _ _ rfl rfl happ ?_)
      | (go_simp; go_at_call 22; refine (HCL.out _).mono ?_; rintro e w5 ⟨rfl, hb5⟩; have hb35 := hb4.trans (Below.mono hb5 hb4.size); have hc5 := HCEL.out _ hb35; have hc5a := fun o => HCEL.out _ (hb35.alloc hb35.size o); obtain ⟨v', w6, happ, hc6, hf6, hfin⟩ := HPUSH.out w5 hb35; obtain ⟨A6, c6, rfl⟩ := hfin.out.1.isSlice))
    all_goals go_wp2_with fail
    all_goals go_ret
    all_goals (have h := hfin.out; rw [show (ss ++ [s]).length = ss.length + 1 by simp] at h; exact ⟨rfl, _, h.1, h.2.1, h.2.2⟩)
end Go.Proofs.Ytgmaiickfpgeoaa
