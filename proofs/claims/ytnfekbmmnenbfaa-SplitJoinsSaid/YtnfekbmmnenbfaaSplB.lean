/- A splitter: next, Close. -/
import Derived.Test.YtnfekbmmnenbfaaSpl
import Derived.BigRegion
import Derived.Laws.ResultCell
import Derived.Deep.OwnRows
namespace Go.Proofs.Ytnfekbmmnenbfaa
open Go Go.RowKit
set_option linter.unusedVariables false

theorem results_cell1 {fn : Func} {p : Tmp} {ty : TypeId} (h : fn.results = #[.cell p ty]) (tmps : Array Value) (P : Program) (w : World) :
    (results fn tmps).run P w = ((asAddr (tmps.getD p undef)).run P w).andThen fun a w₁ => (loadVar ty a).run P w₁ := by
  simp only [results, h]
  simp [Sem.run_bind, Result.andThen]

/-- A record is stored in a block that is new. -/
theorem put_rec {w w' : World} {B g m n p r : Nat} {V : Value} {cur : List Int} {over : Bool} {x y z : Value} (h : SplAt w' B g m n p V cur over) (ht : Touch B g w w') (hr : w'.heap[r]? = some (.cells #[x, y, z] 40 (0, 0))) (hne : g ≠ r) (hB : B ≤ w.heap.size) (hrn : w.heap.size ≤ r) (a b : Int) (s : ByteArray) :
    SplAt (((w'.setCell ⟨r, 0, none⟩ (.int .i64 a)).setCell ⟨r, 1, none⟩ (.int .i64 b)).setCell ⟨r, 2, none⟩ (.string s)) B g m n p V cur over ∧ Touch B g w (((w'.setCell ⟨r, 0, none⟩ (.int .i64 a)).setCell ⟨r, 1, none⟩ (.int .i64 b)).setCell ⟨r, 2, none⟩ (.string s)) ∧
    (((w'.setCell ⟨r, 0, none⟩ (.int .i64 a)).setCell ⟨r, 1, none⟩ (.int .i64 b)).setCell ⟨r, 2, none⟩ (.string s)).heap[r]? = some (.cells #[.int .i64 a, .int .i64 b, .string s] 40 (0, 0)) := by
  have k : ∀ i, i ≠ r → (((w'.setCell ⟨r, 0, none⟩ (.int .i64 a)).setCell ⟨r, 1, none⟩ (.int .i64 b)).setCell ⟨r, 2, none⟩ (.string s)).heap[i]? = w'.heap[i]? := fun i hi =>
    ((Below.heap_setCell _ _ _ _ hi).trans (Below.heap_setCell _ _ _ _ hi)).trans (Below.heap_setCell _ _ _ _ hi)
  have hV : V.ownBlock ≠ some r := row_ne_blk h.row hr (by decide)
  refine ⟨⟨h.low, (k g hne).trans h.blk, row_keep h.row fun i _ e => k i (fun e' => hV (by rw [e, e'])), h.byte⟩, ⟨?_, fun i cs t f h1 h2 h3 => ?_⟩, ?_⟩
  · exact ((ht.low.setCell (p := ⟨r, 0, none⟩) (by show B ≤ r; omega) _).setCell (p := ⟨r, 1, none⟩) (by show B ≤ r; omega) _).setCell (p := ⟨r, 2, none⟩) (by show B ≤ r; omega) _
  · have := (Array.getElem?_eq_some_iff.1 h1).1
    rw [k i (by omega)]
    exact ht.keep i cs t f h1 h2 h3
  · exact heap_setCell_same _ r 2 _ _ _ (heap_setCell_same _ r 1 _ _ _ (heap_setCell_same _ r 0 _ _ _ hr))

section
variable {w : World} {B g m n p : Nat} {V : Value} {cur : List Int} {over : Bool}
set_option maxHeartbeats 2000000 in
/-- The record that is held. -/
theorem next_any (h : SplAt w B g m n p V cur over) (hc : cur.length ≤ 1000000) (hn : n ≤ 10000000) (hp : p ≤ 10000000) :
    Calls Try.prog 18 #[.pointer (some ⟨g, 0, none⟩)] w fun e w' => e = .returned (.agg #[.int .i64 (n : Int), .int .i64 (p : Int), .string (strOfNums (chop cur))]) ∧ ∃ V', SplAt w' B g m (n + 1) (p + cur.length + 1) V' [] over ∧ Touch B g w w' := by
  have kc := fun (w : World) (C : Array Value) (n c : Nat) => Lib.run_convert_bytes_const (P := Try.prog) w 42 5 C n c Try.underlying42 Try.underlying5
  obtain ⟨A, c, rfl, hrow, hcc, hcm⟩ := h.isSlice
  obtain ⟨W1, hW1⟩ : ∃ W1, W1 = w.alloc (.cells #[.int .i64 0, .int .i64 0, .string ⟨#[]⟩] 40) := ⟨_, rfl⟩
  have hz1 : W1.heap.size = w.heap.size + 1 := by rw [hW1]; simp
  have hb1 : Below w.heap.size w W1 := by rw [hW1]; exact (Below.refl _ _).alloc (Nat.le_refl _) _
  have h1 := h.below hb1
  have ht1 : Touch B g w W1 := by rw [hW1]; exact (Touch.refl B g w).alloc h.leB _
  have hr1 : W1.heap[w.heap.size]? = some (.cells #[.int .i64 0, .int .i64 0, .string ⟨#[]⟩] 40 (0, 0)) := by rw [hW1]; exact heap_alloc_new w _
  have c31 := h1.c3
  obtain ⟨W2, hW2⟩ : ∃ W2, W2 = W1.alloc (.cells #[.int .u8 13] 5 (1, 2)) := ⟨_, rfl⟩
  have hb2 : Below W1.heap.size W1 W2 := by rw [hW2]; exact (Below.refl _ _).alloc (Nat.le_refl _) _
  have h2 := h1.below hb2
  have ht2 : Touch B g w W2 := ht1.trans (by rw [hW2]; exact (Touch.refl B g _).alloc h1.leB _)
  have hr2 : W2.heap[w.heap.size]? = some (.cells #[.int .i64 0, .int .i64 0, .string ⟨#[]⟩] 40 (0, 0)) := (hb2.block _ (by omega)).trans hr1
  have hrow13 : RowI .u8 W2 (some ⟨w.heap.size + 1, 0, none⟩) 1 [13] := by
    rw [← hz1]
    refine ⟨rfl, fun _ => ⟨_, _, rfl, by rw [hW2]; simp, fun j hj => ?_⟩⟩
    rw [show j = 0 by omega]
    have := heap_alloc_new W1 (.cells #[.int .u8 13] 5 (1, 2))
    rw [← hW2] at this
    exact cell_of_row _ _ 0 _ _ _ this
  have hk : (convert 42 42 (.slice (some ⟨w.heap.size + 1, 0, none⟩) 1 1)).run Try.prog (W1.alloc (.cells #[.int .u8 13] 5)) = .ok (.slice (some ⟨w.heap.size + 1, 0, none⟩) 1 1) W2 := by
    rw [hW2, ← hz1]
    exact kc W1 #[.int .u8 13] 1 1
  rw [hW1] at c31 hk
  have HTR := Lib.hid (trimB_any A cur.length c _ 1 cur _ ((hrow.below hb1 (Nat.le_refl _)).below hb2 (Nat.le_refl _)) hcc hc hrow13 h.byte)
  have hch : (chop cur).length ≤ cur.length := by unfold chop; split <;> simp
  have hrowC : RowI .u8 W2 A (chop cur).length (chop cur) := by
    have h0 := (hrow.below hb1 (Nat.le_refl _)).below hb2 (Nat.le_refl _)
    obtain ⟨j, hj⟩ : ∃ j, chop cur = cur.take j ∧ j ≤ cur.length := by
      unfold chop
      split
      · exact ⟨cur.length - 1, List.dropLast_eq_take, by omega⟩
      · exact ⟨cur.length, (List.take_length).symm, Nat.le_refl _⟩
    rw [hj.1, List.length_take, Nat.min_eq_left hj.2]
    exact h0.to hj.2
  have hrl := h.leB
  clear hrow13 hrow hb1 hb2 h1 ht1 hr1 h kc
  have H2 := Lib.hid h2
  have c1 := h2.c1
  have c2 := h2.c2
  have c1a := fun o => (h2.below ((Below.refl _ _).alloc (Nat.le_refl _) o)).c1
  have c2a := fun o => (h2.below ((Below.refl _ _).alloc (Nat.le_refl _) o)).c2
  have hcv := strRow W2.drew A _ c _ hrowC
  have hcv2 := fun o => strRow (W2.alloc o).drew A _ c _ (hrowC.alloc o)
  obtain ⟨W3, hW3⟩ : ∃ W3, W3 = (W2.alloc (.cells #[.int .i64 (n : Int), .int .i64 (p : Int), .string (strOfNums (chop cur))] 40)).drew := ⟨_, rfl⟩
  have hb3 : Below W2.heap.size W2 W3 := by rw [hW3]; exact ((Below.refl _ _).alloc (Nat.le_refl _) _).drew
  have h3 := h2.below hb3
  have ht3 : Touch B g w W3 := ht2.trans (Touch.of_below hb3 h2.leB)
  have hr3 : W3.heap[w.heap.size]? = some (.cells #[.int .i64 0, .int .i64 0, .string ⟨#[]⟩] 40 (0, 0)) := (hb3.block _ (Array.getElem?_eq_some_iff.1 hr2).1).trans hr2
  have hq3 : W3.heap[W2.heap.size]? = some (.cells #[.int .i64 (n : Int), .int .i64 (p : Int), .string (strOfNums (chop cur))] 40 (0, 0)) := by rw [hW3]; exact heap_alloc_new W2 _
  have d31 := h3.c1
  have f31 := h3.fz 1
  obtain ⟨W4, hW4⟩ : ∃ W4, W4 = W3.setCell ⟨g, 1, none⟩ (.int .i64 ((n : Int) + 1)) := ⟨_, rfl⟩
  have h4 : SplAt W4 B g m (n + 1) p (.slice A cur.length c) cur over := by rw [hW4]; exact h3.set1 (n + 1)
  have ht4 : Touch B g W3 W4 := by rw [hW4]; exact h3.touch3 _ _
  have c42 := h4.c2
  have c43 := h4.c3
  have f42 := h4.fz 2
  have hw1 : IntKind.i64.wrap ((n : Int) + 1) = (n : Int) + 1 := by rw [IntKind.wrap_i64]; omega
  have hw2 : IntKind.i64.wrap ((cur.length : Int) + 1) = (cur.length : Int) + 1 := by rw [IntKind.wrap_i64]; omega
  have hw3 : IntKind.i64.wrap ((p : Int) + ((cur.length : Int) + 1)) = (p : Int) + ((cur.length : Int) + 1) := by rw [IntKind.wrap_i64]; omega
  have hne : g ≠ w.heap.size := fun e => by rw [← e] at hr3; have := h3.blk; rw [hr3] at this; injection this with this; injection this with _ ht _; exact absurd ht (by decide)
  have hne2 : g ≠ W2.heap.size := fun e => by rw [← e] at hq3; have := h3.blk; rw [hq3] at this; injection this with this; injection this with _ ht _; exact absurd ht (by decide)
  obtain ⟨W5, hW5⟩ : ∃ W5, W5 = (W4.setCell ⟨g, 2, none⟩ (.int .i64 ((p : Int) + ((cur.length : Int) + 1)))).drew := ⟨_, rfl⟩
  have h5 : SplAt W5 B g m (n + 1) (p + cur.length + 1) (.slice A cur.length c) cur over := by
    rw [hW5, show (p : Int) + ((cur.length : Int) + 1) = ((p + cur.length + 1 : Nat) : Int) by omega]
    exact (h4.set2 (p + cur.length + 1)).drewN 1
  have ht5 : Touch B g W4 W5 := by rw [hW5]; exact (h4.touch3 _ _).drew
  have hr5 := ht5.keep _ _ _ _ (ht4.keep _ _ _ _ hr3 (fun e => hne e.symm) (by decide)) (fun e => hne e.symm) (by decide)
  have hq5 := ht5.keep _ _ _ _ (ht4.keep _ _ _ _ hq3 (fun e => hne2 e.symm) (by decide)) (fun e => hne2 e.symm) (by decide)
  have c53 := h5.c3
  have f53 := h5.fz 3
  have hup := slice_upto A cur.length c 0 (Nat.zero_le _) W5
  rw [show ((0 : Nat) : Int) = 0 from rfl] at hup
  obtain ⟨W6, hW6⟩ : ∃ W6, W6 = W5.setCell ⟨g, 3, none⟩ (.slice A 0 c) := ⟨_, rfl⟩
  have h6 : SplAt W6 B g m (n + 1) (p + cur.length + 1) (.slice A 0 c) [] over := by rw [hW6]; exact h5.set3cut
  have ht6 : Touch B g W5 W6 := by rw [hW6]; exact h5.touch3 _ _
  have hr6 := ht6.keep _ _ _ _ hr5 (fun e => hne e.symm) (by decide)
  have hq6 := ht6.keep _ _ _ _ hq5 (fun e => hne2 e.symm) (by decide)
  have q0 := cell_of_row W6 W2.heap.size 0 _ _ (0, 0) hq6
  have q1 := cell_of_row W6 W2.heap.size 1 _ _ (0, 0) hq6
  have q2 := cell_of_row W6 W2.heap.size 2 _ _ (0, 0) hq6
  have r0 := cell_of_row W6 w.heap.size 0 _ _ (0, 0) hr6
  have r1 := cell_of_row W6 w.heap.size 1 _ _ (0, 0) hr6
  have r2 := cell_of_row W6 w.heap.size 2 _ _ (0, 0) hr6
  have rf : ∀ j, W6.frozen? ⟨w.heap.size, j, none⟩ = false := fun j => by simp [World.frozen?, hr6]
  rw [hW6] at q0 q1 q2 r0 r1 r2 rf
  have H6 := Lib.hid h6
  have HT6 := Lib.hid ((ht3.trans ht4).trans (ht5.trans ht6))
  have HR6 := Lib.hid hr6
  clear h2 ht2 hr2 hrowC hW1 hW2 hb3 h3 ht3 hr3 hq3 h4 ht4 h5 ht5 hr5 hq5 h6 ht6 hr6 hq6
  go_enter Try.func18, Try.ntmps18
  go_wp2_with (go_at_call 21; refine HTR.out.mono ?_; rintro e w' ⟨rfl, rfl⟩)
  clear c31 hk
  go_region
  rw [← hW3]
  clear hW3 c1 c2 c1a c2a hcv hcv2 HTR H2
  go_wp2_with fail
  rw [← hW4]
  clear hW4 d31 f31
  go_region
  rw [← hW5]
  clear hW5 c42 c43 f42
  go_wp2_with fail
  rw [← hW6]
  obtain ⟨hs7, ht7, hr7⟩ := put_rec H6.out HT6.out HR6.out hne hrl (Nat.le_refl _) (n : Int) (p : Int) (strOfNums (chop cur))
  have z0 := cell_of_row _ w.heap.size 0 _ _ (0, 0) hr7
  have z1 := cell_of_row _ w.heap.size 1 _ _ (0, 0) hr7
  have z2 := cell_of_row _ w.heap.size 2 _ _ (0, 0) hr7
  (try simp only [Exit.inBlock, Exit.then])
  refine bodyPost_ret (v := .agg #[.int .i64 (n : Int), .int .i64 (p : Int), .string (strOfNums (chop cur))]) ?_ rfl ⟨rfl, _, hs7, ht7⟩
  rw [results_cell1 rfl]; go_simp
end
end Go.Proofs.Ytnfekbmmnenbfaa
