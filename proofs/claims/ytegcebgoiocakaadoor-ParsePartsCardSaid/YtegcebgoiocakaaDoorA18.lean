/- The document's Show. -/
import Derived.Test.YtegcebgoiocakaaDoorA04
import Derived.Test.YtegcebgoiocakaaDoorA16
import Derived.Test.YtegcebgoiocakaaDoorA17
import Derived.BigQuiet
import Derived.Deep.RegionHeldLaw
namespace Go.Proofs.YtegcebgoiocakaaDoor
open Go Go.RowKit
set_option linter.unusedVariables false
set_option maxRecDepth 20000

theorem oneB_cons (op : Int) (s : List (Int × Int)) (mn mx : Int) (k : Wood) : oneB (.cons op s mn mx k .nil) = nodeB op s mn mx (kidsB k) := rfl
def NodeL (op : Int) (A : Option Addr) (ns cs : Nat) (mn mx : Int) (D : Option Addr) (nk ck : Nat) : Value := .agg #[.int .i64 op, .slice A ns cs, .int .i64 mn, .int .i64 mx, .slice D nk ck]



end Go.Proofs.YtegcebgoiocakaaDoor
/- The program's show of one node, by its Op. -/
namespace Go.Proofs.YtegcebgoiocakaaDoor
open Go Go.RowKit
set_option linter.unusedVariables false
set_option maxRecDepth 20000

theorem box_facts' {w : World} {r : Nat} {v0 v1 v2 v3 v4 : Value} (h : w.heap[r]? = some (.cells #[v0, v1, v2, v3, v4] 26 (0, 0))) :
    w.cell? ⟨r, 0, none⟩ = some v0 ∧ w.cell? ⟨r, 1, none⟩ = some v1 ∧ w.cell? ⟨r, 2, none⟩ = some v2 ∧ w.cell? ⟨r, 3, none⟩ = some v3 ∧ w.cell? ⟨r, 4, none⟩ = some v4 ∧ ∀ j, w.frozen? ⟨r, j, none⟩ = false :=
  ⟨cell_of_row w r 0 _ _ (0, 0) h, cell_of_row w r 1 _ _ (0, 0) h, cell_of_row w r 2 _ _ (0, 0) h, cell_of_row w r 3 _ _ (0, 0) h, cell_of_row w r 4 _ _ (0, 0) h, fun j => by simp [World.frozen?, h]⟩
/-- What show answers: the text T behind S. -/
def ShowV (B : Nat) (w : World) (S T : ByteArray) (e : Ending) (w' : World) : Prop := ∃ V', e = .returned V' ∧ Buf B w' V' (S ++ T) ∧ FrO B w w'
theorem Buf.letter {B : Nat} {w : World} {V : Value} {S : ByteArray} (h : Buf B w V S) : ∃ U, U = S ∧ Buf B w V U := ⟨S, rfl, h⟩
section
variable {w0 w : World} {V : Value} {S : ByteArray} {A D : Option Addr} {ns cs nk ck : Nat} {mn mx op : Int} {s : List (Int × Int)} {K : ByteArray}
set_option maxHeartbeats 1000000 in
theorem show_empty (h : Buf w0.heap.size w V S) (hb : Below w0.heap.size w0 w) (hs : S.size ≤ 100000000) : Calls Tryd.prog 12 #[V, .agg #[.int .i64 0, .slice A ns cs, .int .i64 mn, .int .i64 mx, .slice D nk ck]] w (ShowV w0.heap.size w S (nodeB 0 s mn mx K)) := by
  obtain ⟨W1, g, hW1, hg, hbel, hsz, hbox⟩ := box_world w #[.int .i64 0, .slice A ns cs, .int .i64 mn, .int .i64 mx, .slice D nk ck] 26
  have h1 : Buf w0.heap.size W1 V S := by rw [hW1]; exact h.alloc _
  have f1 : FrO w0.heap.size w W1 := by rw [hW1]; exact (FrO.refl _ _).alloc hb.size _
  have hbx1 : W1.heap[g]? = some (.cells #[.int .i64 0, .slice A ns cs, .int .i64 mn, .int .i64 mx, .slice D nk ck] 26 (0, 0)) := by rw [hW1, hg]; exact heap_alloc_new w _
  have hB1 : w0.heap.size ≤ W1.heap.size := Nat.le_trans hb.size f1.1.size
  obtain ⟨n0, n1, n2, n3, n4, _⟩ := box_facts' hbx1
  obtain ⟨V2, w2, ha, hb2, hf2⟩ := buf_str h1 ⟨#[101, 109, 112, 116, 121]⟩ hB1 (by show _ + 5 ≤ _; omega)
  obtain ⟨Av, cv, rfl, _⟩ := h.slice
  have H2 := Lib.hid (And.intro hb2 (f1.trans hf2))
  clear h hb hb2 hf2 f1 h1 hbx1
  subst hW1
  subst hg
  clear hbox hbel hsz
  go_enter Tryd.func12, Tryd.ntmps12
  go_wp2_with (at_builtin; refine wpList_append2 rfl _ _ 42 9 rfl rfl _ _ _ _ rfl rfl ha ?_)
  go_ret
  exact ⟨V2, rfl, H2.out.1, H2.out.2⟩
set_option maxHeartbeats 1000000 in
theorem show_begin (h : Buf w0.heap.size w V S) (hb : Below w0.heap.size w0 w) (hs : S.size ≤ 100000000) : Calls Tryd.prog 12 #[V, .agg #[.int .i64 2, .slice A ns cs, .int .i64 mn, .int .i64 mx, .slice D nk ck]] w (ShowV w0.heap.size w S (nodeB 2 s mn mx K)) := by
  obtain ⟨W1, g, hW1, hg, hbel, hsz, hbox⟩ := box_world w #[.int .i64 2, .slice A ns cs, .int .i64 mn, .int .i64 mx, .slice D nk ck] 26
  have h1 : Buf w0.heap.size W1 V S := by rw [hW1]; exact h.alloc _
  have f1 : FrO w0.heap.size w W1 := by rw [hW1]; exact (FrO.refl _ _).alloc hb.size _
  have hbx1 : W1.heap[g]? = some (.cells #[.int .i64 2, .slice A ns cs, .int .i64 mn, .int .i64 mx, .slice D nk ck] 26 (0, 0)) := by rw [hW1, hg]; exact heap_alloc_new w _
  have hB1 : w0.heap.size ≤ W1.heap.size := Nat.le_trans hb.size f1.1.size
  obtain ⟨n0, n1, n2, n3, n4, _⟩ := box_facts' hbx1
  obtain ⟨V2, w2, ha, hb2, hf2⟩ := buf_str h1 ⟨#[98, 101, 103, 105, 110]⟩ hB1 (by show _ + 5 ≤ _; omega)
  obtain ⟨Av, cv, rfl, _⟩ := h.slice
  have H2 := Lib.hid (And.intro hb2 (f1.trans hf2))
  clear h hb hb2 hf2 f1 h1 hbx1
  subst hW1
  subst hg
  clear hbox hbel hsz
  go_enter Tryd.func12, Tryd.ntmps12
  go_wp2_with (at_builtin; refine wpList_append2 rfl _ _ 42 9 rfl rfl _ _ _ _ rfl rfl ha ?_)
  go_ret
  exact ⟨V2, rfl, H2.out.1, H2.out.2⟩
set_option maxHeartbeats 1000000 in
theorem show_end (h : Buf w0.heap.size w V S) (hb : Below w0.heap.size w0 w) (hs : S.size ≤ 100000000) : Calls Tryd.prog 12 #[V, .agg #[.int .i64 3, .slice A ns cs, .int .i64 mn, .int .i64 mx, .slice D nk ck]] w (ShowV w0.heap.size w S (nodeB 3 s mn mx K)) := by
  obtain ⟨W1, g, hW1, hg, hbel, hsz, hbox⟩ := box_world w #[.int .i64 3, .slice A ns cs, .int .i64 mn, .int .i64 mx, .slice D nk ck] 26
  have h1 : Buf w0.heap.size W1 V S := by rw [hW1]; exact h.alloc _
  have f1 : FrO w0.heap.size w W1 := by rw [hW1]; exact (FrO.refl _ _).alloc hb.size _
  have hbx1 : W1.heap[g]? = some (.cells #[.int .i64 3, .slice A ns cs, .int .i64 mn, .int .i64 mx, .slice D nk ck] 26 (0, 0)) := by rw [hW1, hg]; exact heap_alloc_new w _
  have hB1 : w0.heap.size ≤ W1.heap.size := Nat.le_trans hb.size f1.1.size
  obtain ⟨n0, n1, n2, n3, n4, _⟩ := box_facts' hbx1
  obtain ⟨V2, w2, ha, hb2, hf2⟩ := buf_str h1 ⟨#[101, 110, 100]⟩ hB1 (by show _ + 3 ≤ _; omega)
  obtain ⟨Av, cv, rfl, _⟩ := h.slice
  have H2 := Lib.hid (And.intro hb2 (f1.trans hf2))
  clear h hb hb2 hf2 f1 h1 hbx1
  subst hW1
  subst hg
  clear hbox hbel hsz
  go_enter Tryd.func12, Tryd.ntmps12
  go_wp2_with (at_builtin; refine wpList_append2 rfl _ _ 42 9 rfl rfl _ _ _ _ rfl rfl ha ?_)
  go_ret
  exact ⟨V2, rfl, H2.out.1, H2.out.2⟩
set_option maxHeartbeats 1000000 in
theorem show_else (h : Buf w0.heap.size w V S) (hb : Below w0.heap.size w0 w) (hs : S.size ≤ 100000000) (hop : op < 0 ∨ 6 < op) : Calls Tryd.prog 12 #[V, .agg #[.int .i64 op, .slice A ns cs, .int .i64 mn, .int .i64 mx, .slice D nk ck]] w (ShowV w0.heap.size w S (nodeB op s mn mx K)) := by
  have hN : nodeB op s mn mx K = strB [63] := by
    unfold nodeB
    rw [if_neg (by omega), if_neg (by omega), if_neg (by omega), if_neg (by omega), if_neg (by omega), if_neg (by omega), if_neg (by omega)]
  rw [hN]
  have e0 : ¬ op = 0 := by omega
  have e1 : ¬ op = 1 := by omega
  have e2 : ¬ op = 2 := by omega
  have e3 : ¬ op = 3 := by omega
  have e4 : ¬ op = 4 := by omega
  have e5 : ¬ op = 5 := by omega
  have e6 : ¬ op = 6 := by omega
  obtain ⟨W1, g, hW1, hg, hbel, hsz, hbox⟩ := box_world w #[.int .i64 op, .slice A ns cs, .int .i64 mn, .int .i64 mx, .slice D nk ck] 26
  have h1 : Buf w0.heap.size W1 V S := by rw [hW1]; exact h.alloc _
  have f1 : FrO w0.heap.size w W1 := by rw [hW1]; exact (FrO.refl _ _).alloc hb.size _
  have hbx1 : W1.heap[g]? = some (.cells #[.int .i64 op, .slice A ns cs, .int .i64 mn, .int .i64 mx, .slice D nk ck] 26 (0, 0)) := by rw [hW1, hg]; exact heap_alloc_new w _
  have hB1 : w0.heap.size ≤ W1.heap.size := Nat.le_trans hb.size f1.1.size
  obtain ⟨n0, n1, n2, n3, n4, _⟩ := box_facts' hbx1
  obtain ⟨V2, w2, ha, hb2, hf2⟩ := buf_byte h1 63 63 rfl hB1 (by omega)
  obtain ⟨Av, cv, rfl, _⟩ := h.slice
  have H2 := Lib.hid (And.intro hb2 (f1.trans hf2))
  clear h hb hb2 hf2 f1 h1 hbx1 hN hop
  rw [hW1, show (w.alloc (.cells #[.int .i64 op, .slice A ns cs, .int .i64 mn, .int .i64 mx, .slice D nk ck] 26)).heap.size = w.heap.size + 1 by simp] at ha
  subst hW1
  subst hg
  clear hbox hbel hsz
  go_enter Tryd.func12, Tryd.ntmps12
  go_wp2_with (at_builtin; refine wpList_append_run rfl _ _ 42 rfl rfl _ _ _ _ rfl rfl ha ?_)
  go_ret
  exact ⟨V2, rfl, H2.out.1, H2.out.2⟩
set_option maxHeartbeats 2000000 in
theorem show_char (h : Buf w0.heap.size w V S) (hb : Below w0.heap.size w0 w) (hs : S.size ≤ 100000000)
    (HC : ∀ w2 V2, Buf w0.heap.size w2 V2 (S ++ strB [99, 104, 97, 114]) → FrO w0.heap.size w w2 → Calls Tryd.prog 18 #[V2, .slice A ns cs] w2 (ShowV w0.heap.size w2 (S ++ strB [99, 104, 97, 114]) (strB [123] ++ setB s ++ strB [125]))) : Calls Tryd.prog 12 #[V, .agg #[.int .i64 1, .slice A ns cs, .int .i64 mn, .int .i64 mx, .slice D nk ck]] w (ShowV w0.heap.size w S (nodeB 1 s mn mx K)) := by
  have hN : S ++ strB [99, 104, 97, 114] ++ (strB [123] ++ setB s ++ strB [125]) = S ++ nodeB 1 s mn mx K := by show _ = S ++ (strB [99, 104, 97, 114, 123] ++ setB s ++ strB [125]); rw [show strB [99, 104, 97, 114, 123] = strB [99, 104, 97, 114] ++ strB [123] from by rw [strB_append]; rfl]; simp only [ba_assoc]
  obtain ⟨W1, g, hW1, hg, hbel, hsz, hbox⟩ := box_world w #[.int .i64 1, .slice A ns cs, .int .i64 mn, .int .i64 mx, .slice D nk ck] 26
  have h1 : Buf w0.heap.size W1 V S := by rw [hW1]; exact h.alloc _
  have f1 : FrO w0.heap.size w W1 := by rw [hW1]; exact (FrO.refl _ _).alloc hb.size _
  have hbx1 : W1.heap[g]? = some (.cells #[.int .i64 1, .slice A ns cs, .int .i64 mn, .int .i64 mx, .slice D nk ck] 26 (0, 0)) := by rw [hW1, hg]; exact heap_alloc_new w _
  have hB1 : w0.heap.size ≤ W1.heap.size := Nat.le_trans hb.size f1.1.size
  obtain ⟨n0, n1, n2, n3, n4, _⟩ := box_facts' hbx1
  obtain ⟨V2, w2, ha, hb2, hf2⟩ := buf_str (w := W1.drew) h1 ⟨#[99, 104, 97, 114]⟩ hB1 (by show _ + 4 ≤ _; omega)
  have hbx2 := hf2.keep (k := g) (show W1.drew.heap[g]? = _ from hbx1) (by decide)
  have m := cell_of_row w2 g 1 _ _ (0, 0) hbx2
  have HCC := Lib.hid (HC w2 V2 hb2 (f1.trans (f1.drew.trans hf2 |> fun q => (FrO.refl w0.heap.size W1).drew.trans hf2)))
  obtain ⟨U2, hU2, hb2⟩ := hb2.letter
  obtain ⟨A2, c2, rfl, _⟩ := hb2.slice
  obtain ⟨Av, cv, rfl, _⟩ := h.slice
  have H2 := Lib.hid (And.intro (f1.trans ((FrO.refl w0.heap.size W1).drew.trans hf2)) hN)
  clear h hb hb2 hf2 f1 h1 hbx1 hbx2 hN HC hU2
  go_enter Tryd.func12, Tryd.ntmps12
  go_wp2_with fail
  rw [← hW1, ← hg]
  clear hW1 hg hbox hbel hsz
  go_wp2_with fail
  go_region_law (first
    | (refine step_append2 rfl _ _ 42 9 rfl rfl _ _ _ _ rfl rfl ha ?_)
    | (go_simp; go_at_call 18; (with_reducible refine HCC.out.mono ?_); rintro e w4 ⟨V4, rfl, hb4, hf4⟩; have H4 := Lib.hid (And.intro hb4 hf4); clear hb4 hf4))
  all_goals
    go_wp2
    go_ret
    refine ⟨V4, rfl, ?_, H2.out.1.trans H4.out.2⟩
    rw [← H2.out.2]
    exact H4.out.1
set_option maxHeartbeats 2000000 in
theorem show_cat (h : Buf w0.heap.size w V S) (hb : Below w0.heap.size w0 w) (hs : S.size ≤ 100000000)
    (HC : ∀ w2 V2, Buf w0.heap.size w2 V2 (S ++ strB [99, 97, 116]) → FrO w0.heap.size w w2 → Calls Tryd.prog 19 #[V2, .slice D nk ck] w2 (ShowV w0.heap.size w2 (S ++ strB [99, 97, 116]) (strB [40] ++ K ++ strB [41]))) : Calls Tryd.prog 12 #[V, .agg #[.int .i64 4, .slice A ns cs, .int .i64 mn, .int .i64 mx, .slice D nk ck]] w (ShowV w0.heap.size w S (nodeB 4 s mn mx K)) := by
  have hN : S ++ strB [99, 97, 116] ++ (strB [40] ++ K ++ strB [41]) = S ++ nodeB 4 s mn mx K := by show _ = S ++ (strB [99, 97, 116, 40] ++ K ++ strB [41]); rw [show strB [99, 97, 116, 40] = strB [99, 97, 116] ++ strB [40] from by rw [strB_append]; rfl]; simp only [ba_assoc]
  obtain ⟨W1, g, hW1, hg, hbel, hsz, hbox⟩ := box_world w #[.int .i64 4, .slice A ns cs, .int .i64 mn, .int .i64 mx, .slice D nk ck] 26
  have h1 : Buf w0.heap.size W1 V S := by rw [hW1]; exact h.alloc _
  have f1 : FrO w0.heap.size w W1 := by rw [hW1]; exact (FrO.refl _ _).alloc hb.size _
  have hbx1 : W1.heap[g]? = some (.cells #[.int .i64 4, .slice A ns cs, .int .i64 mn, .int .i64 mx, .slice D nk ck] 26 (0, 0)) := by rw [hW1, hg]; exact heap_alloc_new w _
  have hB1 : w0.heap.size ≤ W1.heap.size := Nat.le_trans hb.size f1.1.size
  obtain ⟨n0, n1, n2, n3, n4, _⟩ := box_facts' hbx1
  obtain ⟨V2, w2, ha, hb2, hf2⟩ := buf_str (w := W1.drew) h1 ⟨#[99, 97, 116]⟩ hB1 (by show _ + 3 ≤ _; omega)
  have hbx2 := hf2.keep (k := g) (show W1.drew.heap[g]? = _ from hbx1) (by decide)
  have m := cell_of_row w2 g 4 _ _ (0, 0) hbx2
  have HCC := Lib.hid (HC w2 V2 hb2 (f1.trans (f1.drew.trans hf2 |> fun q => (FrO.refl w0.heap.size W1).drew.trans hf2)))
  obtain ⟨U2, hU2, hb2⟩ := hb2.letter
  obtain ⟨A2, c2, rfl, _⟩ := hb2.slice
  obtain ⟨Av, cv, rfl, _⟩ := h.slice
  have H2 := Lib.hid (And.intro (f1.trans ((FrO.refl w0.heap.size W1).drew.trans hf2)) hN)
  clear h hb hb2 hf2 f1 h1 hbx1 hbx2 hN HC hU2
  go_enter Tryd.func12, Tryd.ntmps12
  go_wp2_with fail
  rw [← hW1, ← hg]
  clear hW1 hg hbox hbel hsz
  go_wp2_with fail
  go_region_law (first
    | (refine step_append2 rfl _ _ 42 9 rfl rfl _ _ _ _ rfl rfl ha ?_)
    | (go_simp; go_at_call 19; (with_reducible refine HCC.out.mono ?_); rintro e w4 ⟨V4, rfl, hb4, hf4⟩; have H4 := Lib.hid (And.intro hb4 hf4); clear hb4 hf4))
  all_goals
    go_wp2
    go_ret
    refine ⟨V4, rfl, ?_, H2.out.1.trans H4.out.2⟩
    rw [← H2.out.2]
    exact H4.out.1
set_option maxHeartbeats 2000000 in
theorem show_alt (h : Buf w0.heap.size w V S) (hb : Below w0.heap.size w0 w) (hs : S.size ≤ 100000000)
    (HC : ∀ w2 V2, Buf w0.heap.size w2 V2 (S ++ strB [97, 108, 116]) → FrO w0.heap.size w w2 → Calls Tryd.prog 19 #[V2, .slice D nk ck] w2 (ShowV w0.heap.size w2 (S ++ strB [97, 108, 116]) (strB [40] ++ K ++ strB [41]))) : Calls Tryd.prog 12 #[V, .agg #[.int .i64 5, .slice A ns cs, .int .i64 mn, .int .i64 mx, .slice D nk ck]] w (ShowV w0.heap.size w S (nodeB 5 s mn mx K)) := by
  have hN : S ++ strB [97, 108, 116] ++ (strB [40] ++ K ++ strB [41]) = S ++ nodeB 5 s mn mx K := by show _ = S ++ (strB [97, 108, 116, 40] ++ K ++ strB [41]); rw [show strB [97, 108, 116, 40] = strB [97, 108, 116] ++ strB [40] from by rw [strB_append]; rfl]; simp only [ba_assoc]
  obtain ⟨W1, g, hW1, hg, hbel, hsz, hbox⟩ := box_world w #[.int .i64 5, .slice A ns cs, .int .i64 mn, .int .i64 mx, .slice D nk ck] 26
  have h1 : Buf w0.heap.size W1 V S := by rw [hW1]; exact h.alloc _
  have f1 : FrO w0.heap.size w W1 := by rw [hW1]; exact (FrO.refl _ _).alloc hb.size _
  have hbx1 : W1.heap[g]? = some (.cells #[.int .i64 5, .slice A ns cs, .int .i64 mn, .int .i64 mx, .slice D nk ck] 26 (0, 0)) := by rw [hW1, hg]; exact heap_alloc_new w _
  have hB1 : w0.heap.size ≤ W1.heap.size := Nat.le_trans hb.size f1.1.size
  obtain ⟨n0, n1, n2, n3, n4, _⟩ := box_facts' hbx1
  obtain ⟨V2, w2, ha, hb2, hf2⟩ := buf_str (w := W1.drew) h1 ⟨#[97, 108, 116]⟩ hB1 (by show _ + 3 ≤ _; omega)
  have hbx2 := hf2.keep (k := g) (show W1.drew.heap[g]? = _ from hbx1) (by decide)
  have m := cell_of_row w2 g 4 _ _ (0, 0) hbx2
  have HCC := Lib.hid (HC w2 V2 hb2 (f1.trans (f1.drew.trans hf2 |> fun q => (FrO.refl w0.heap.size W1).drew.trans hf2)))
  obtain ⟨U2, hU2, hb2⟩ := hb2.letter
  obtain ⟨A2, c2, rfl, _⟩ := hb2.slice
  obtain ⟨Av, cv, rfl, _⟩ := h.slice
  have H2 := Lib.hid (And.intro (f1.trans ((FrO.refl w0.heap.size W1).drew.trans hf2)) hN)
  clear h hb hb2 hf2 f1 h1 hbx1 hbx2 hN HC hU2
  go_enter Tryd.func12, Tryd.ntmps12
  go_wp2_with fail
  rw [← hW1, ← hg]
  clear hW1 hg hbox hbel hsz
  go_wp2_with fail
  go_region_law (first
    | (refine step_append2 rfl _ _ 42 9 rfl rfl _ _ _ _ rfl rfl ha ?_)
    | (go_simp; go_at_call 19; (with_reducible refine HCC.out.mono ?_); rintro e w4 ⟨V4, rfl, hb4, hf4⟩; have H4 := Lib.hid (And.intro hb4 hf4); clear hb4 hf4))
  all_goals
    go_wp2
    go_ret
    refine ⟨V4, rfl, ?_, H2.out.1.trans H4.out.2⟩
    rw [← H2.out.2]
    exact H4.out.1
end
end Go.Proofs.YtegcebgoiocakaaDoor
/- The program's show of a count's node. -/
namespace Go.Proofs.YtegcebgoiocakaaDoor
open Go Go.RowKit
set_option linter.unusedVariables false
set_option maxRecDepth 20000
section
variable {w0 w : World} {V : Value} {S : ByteArray} {A D : Option Addr} {ns cs nk ck : Nat} {mn mx op : Int} {s : List (Int × Int)} {K : ByteArray}
set_option maxHeartbeats 8000000 in
theorem show_rep (h : Buf w0.heap.size w V S) (hb : Below w0.heap.size w0 w) (ht : Tab w0.heap.size w) (hs : S.size ≤ 100000000) (h64 : In64 mn) (h65 : In64 mx)
    (HC : ∀ w2 V2 S2, Buf w0.heap.size w2 V2 S2 → FrO w0.heap.size w w2 → S2.size ≤ S.size + 50 → Calls Tryd.prog 19 #[V2, .slice D nk ck] w2 (ShowV w0.heap.size w2 S2 (strB [40] ++ K ++ strB [41]))) : Calls Tryd.prog 12 #[V, .agg #[.int .i64 6, .slice A ns cs, .int .i64 mn, .int .i64 mx, .slice D nk ck]] w (ShowV w0.heap.size w S (nodeB 6 s mn mx K)) := by
  have d1 := digB_size h64
  have d2 := digB_size h65
  obtain ⟨W1, g, hW1, hg, hbel, hsz, hbox⟩ := box_world w #[.int .i64 6, .slice A ns cs, .int .i64 mn, .int .i64 mx, .slice D nk ck] 26
  have h1 : Buf w0.heap.size W1 V S := by rw [hW1]; exact h.alloc _
  have f1 : FrO w0.heap.size w W1 := by rw [hW1]; exact (FrO.refl _ _).alloc hb.size _
  have hbx1 : W1.heap[g]? = some (.cells #[.int .i64 6, .slice A ns cs, .int .i64 mn, .int .i64 mx, .slice D nk ck] 26 (0, 0)) := by rw [hW1, hg]; exact heap_alloc_new w _
  have hB1 : w0.heap.size ≤ W1.heap.size := Nat.le_trans hb.size f1.1.size
  obtain ⟨n0, n1, n2, n3, n4, _⟩ := box_facts' hbx1
  have hbB := Lib.hid (And.intro hb ht)
  obtain ⟨V2, w2, ha, hb2, hf2⟩ := buf_str (w := W1.drew) h1 ⟨#[114, 101, 112, 123]⟩ hB1 (by show _ + 4 ≤ _; omega)
  have hbx2 := hf2.keep (k := g) (show W1.drew.heap[g]? = _ from hbx1) (by decide)
  have m2 := cell_of_row w2 g 2 _ _ (0, 0) hbx2
  obtain ⟨S2, hS2⟩ : ∃ T, T = S ++ strB [114, 101, 112, 123] := ⟨_, rfl⟩
  have hS2s : S2.size ≤ S.size + 4 := by rw [hS2, ba_size, strB_size]; exact Nat.le_refl _
  have hb2 : Buf w0.heap.size w2 V2 S2 := by rw [hS2]; exact hb2
  have f2 : FrO w0.heap.size w w2 := f1.trans ((FrO.refl w0.heap.size W1).drew.trans hf2)
  have HN1 := Lib.hid (number_buf hb2 mn h64 (Nat.le_trans hb.size f2.1.size) (by omega) (ht.on f2.1))
  obtain ⟨A2, c2, rfl, _⟩ := hb2.slice
  obtain ⟨Av, cv, rfl, _⟩ := h.slice
  have H2 := Lib.hid (And.intro f2 (And.intro hS2 hbx2))
  have HCH := Lib.hid HC
  clear h hb hb2 hf2 f1 f2 h1 hbx1 hbx2 HC hS2 ht
  go_enter Tryd.func12, Tryd.ntmps12
  go_wp2_with fail
  rw [← hW1, ← hg]
  clear hW1 hg hbox hbel hsz
  go_wp2_with fail
  go_region_law (first
    | (refine step_append2 rfl _ _ 42 9 rfl rfl _ _ _ _ rfl rfl ha ?_)
    | (go_simp; go_at_call 20; (with_reducible refine HN1.out.mono ?_); rintro e w3 ⟨V3, rfl, hb3, hf3⟩; obtain ⟨U3, hU3, hb3⟩ := hb3.letter; obtain ⟨A3, c3, rfl, _⟩ := hb3.slice; have H3 := Lib.hid (And.intro hb3 (And.intro hf3 hU3)); have hU3s : U3.size ≤ S.size + 25 := (by rw [hU3, ba_size]; omega); clear hb3 hf3 hU3))
  all_goals
    have f3 := H2.out.1.trans H3.out.2.1
    have hbx3 := H3.out.2.1.keep H2.out.2.2 (by decide)
    have hB3 : w0.heap.size ≤ w3.heap.size := Nat.le_trans hbB.out.1.size f3.1.size
    obtain ⟨k0, k1, k2, k3, k4, _⟩ := box_facts' hbx3
    have k3a := fun o => cell_of_row (w3.alloc o) g 3 _ _ (0, 0) (((FrO.refl w0.heap.size w3).alloc hB3 o).keep hbx3 (by decide))
    obtain ⟨V4, w4, ha4, hb4, hf4⟩ := buf_byte (w := w3.drew) H3.out.1 32 32 rfl (by exact hB3) (by omega)
    obtain ⟨U4, hU4, hb4⟩ := hb4.letter
    have hU4s : U4.size ≤ S.size + 26 := by rw [hU4, ba_size, strB_size]; show _ + 1 ≤ _; omega
    obtain ⟨A4, c4, rfl, _⟩ := hb4.slice
    have ha4d : (Builtin.append_ #[42, 42] 42 #[.slice A3 U3.size c3, .slice (some ⟨w3.heap.size, 0, none⟩) 1 1]).run Tryd.prog (w3.alloc (.cells #[.int .u8 32] 5)).drew = .ok (.slice A4 U4.size c4) w4 := ha4
    have hbx4 := hf4.keep (k := g) (show w3.drew.heap[g]? = _ from hbx3) (by decide)
    have f4 : FrO w0.heap.size w w4 := f3.trans ((FrO.refl w0.heap.size w3).drew.trans hf4)
    have m4 := cell_of_row w4 g 3 _ _ (0, 0) hbx4
    have HN2 := Lib.hid (number_buf hb4 mx h65 (Nat.le_trans hbB.out.1.size f4.1.size) (by omega) (hbB.out.2.on f4.1))
    have H4 := Lib.hid (And.intro f4 (And.intro hU4 hbx4))
    clear f3 f4 hbx3 hbx4 hb4 hf4 hU4 ha4 m2
    go_wp2_with fail
    go_region_law (first
      | (refine step_append_run rfl _ _ 42 rfl rfl _ _ _ _ rfl rfl ha4d ?_)
      | (go_simp; go_at_call 20; (with_reducible refine HN2.out.mono ?_); rintro e w5 ⟨V5, rfl, hb5, hf5⟩; obtain ⟨U5, hU5, hb5⟩ := hb5.letter; obtain ⟨A5, c5, rfl, _⟩ := hb5.slice; have H5 := Lib.hid (And.intro hb5 (And.intro hf5 hU5)); have hU5s : U5.size ≤ S.size + 47 := (by rw [hU5, ba_size]; omega); clear hb5 hf5 hU5))
    all_goals
      have f5 := H4.out.1.trans H5.out.2.1
      have hbx5 := H5.out.2.1.keep H4.out.2.2 (by decide)
      have hB5 : w0.heap.size ≤ w5.heap.size := Nat.le_trans hbB.out.1.size f5.1.size
      clear k0 k1 k2 k3 k4 k3a m4
      obtain ⟨k0, k1, k2, k3, k4, _⟩ := box_facts' hbx5
      have k4a := fun o => cell_of_row (w5.alloc o) g 4 _ _ (0, 0) (((FrO.refl w0.heap.size w5).alloc hB5 o).keep hbx5 (by decide))
      obtain ⟨V6, w6, ha6, hb6, hf6⟩ := buf_byte (w := w5.drew) H5.out.1 125 125 rfl (by exact hB5) (by omega)
      obtain ⟨U6, hU6, hb6⟩ := hb6.letter
      have hU6s : U6.size ≤ S.size + 50 := by rw [hU6, ba_size, strB_size]; show _ + 1 ≤ _; omega
      obtain ⟨A6, c6, rfl, _⟩ := hb6.slice
      have ha6d : (Builtin.append_ #[42, 42] 42 #[.slice A5 U5.size c5, .slice (some ⟨w5.heap.size, 0, none⟩) 1 1]).run Tryd.prog (w5.alloc (.cells #[.int .u8 125] 5)).drew = .ok (.slice A6 U6.size c6) w6 := ha6
      have hbx6 := hf6.keep (k := g) (show w5.drew.heap[g]? = _ from hbx5) (by decide)
      have f6 : FrO w0.heap.size w w6 := f5.trans ((FrO.refl w0.heap.size w5).drew.trans hf6)
      have m6 := cell_of_row w6 g 4 _ _ (0, 0) hbx6
      have HK := Lib.hid (HCH.out w6 _ U6 hb6 f6 hU6s)
      have H6 := Lib.hid (And.intro f6 hU6)
      clear f5 f6 hbx5 hbx6 hb6 hf6 hU6 ha6
      go_wp2_with fail
      go_region_law (first
        | (refine step_append_run rfl _ _ 42 rfl rfl _ _ _ _ rfl rfl ha6d ?_)
        | (go_simp; go_at_call 19; (with_reducible refine HK.out.mono ?_); rintro e w7 ⟨V7, rfl, hb7, hf7⟩; have H7 := Lib.hid (And.intro hb7 hf7); clear hb7 hf7))
      all_goals
        go_wp2
        go_ret
        refine ⟨V7, rfl, ?_, H6.out.1.trans H7.out.2⟩
        have := H7.out.1
        rw [H6.out.2, H5.out.2.2, H4.out.2.1, H3.out.2.2, H2.out.2.1] at this
        rw [show nodeB 6 s mn mx K = strB [114, 101, 112, 123] ++ digB mn ++ strB [32] ++ digB mx ++ strB [125, 40] ++ K ++ strB [41] from rfl, show strB [125, 40] = strB [125] ++ strB [40] from by rw [strB_append]; rfl]
        simp only [ba_assoc] at this ⊢
        exact this
end
end Go.Proofs.YtegcebgoiocakaaDoor
/- The program's showKids, show and Show. -/
namespace Go.Proofs.YtegcebgoiocakaaDoor
open Go Go.RowKit
set_option linter.unusedVariables false
set_option maxRecDepth 20000

theorem heavy_app : ∀ a b : Wood, heavy (a.app b) = heavy a + heavy b
  | .nil, b => by simp [Wood.app, heavy]
  | .cons _ s _ _ k x, b => by simp only [Wood.app, heavy]; rw [heavy_app x b]; omega
theorem heavy_take_succ (a : Wood) (j : Nat) (h : j < a.len) : heavy (a.take (j + 1)) = heavy (a.take j) + heavy (a.nth j) := by rw [Wood.take_succ a j h, heavy_app]
theorem wfW_take9 (a : Wood) (j : Nat) (h : WfW a) : WfW (a.take j) := wfW_take a j h
/-- What show answers of trees so great. -/
def ShowH (N : Nat) : Prop := ∀ (T : Wood), heavy T ≤ N → ∀ (w0 w : World) (F : Nat → Prop) (v V : Value) (S : ByteArray), NodeIn F w0 v T → Below w0.heap.size w0 w → Buf w0.heap.size w V S → Tab w0.heap.size w → WfW T → S.size + 64 * heavy T ≤ 100000000 →
    Calls Tryd.prog 12 #[V, v] w (ShowV w0.heap.size w S (oneB T))
theorem kidsB_nil : kidsB .nil = ByteArray.empty := rfl
set_option maxHeartbeats 4000000 in
theorem showKids_buf {N : Nat} (IH : ShowH N) {w0 w : World} {F : Nat → Prop} {V : Value} {S : ByteArray} {D : Option Addr} {nk ck : Nat} {k : Wood} (hk : KidsAt F w0 D nk k) (hN : heavy k ≤ N) (hb : Below w0.heap.size w0 w) (h : Buf w0.heap.size w V S) (ht : Tab w0.heap.size w) (hw : WfW k) (hs : S.size + 10 + 64 * heavy k ≤ 100000000) :
    Calls Tryd.prog 19 #[V, .slice D nk ck] w (ShowV w0.heap.size w S (strB [40] ++ kidsB k ++ strB [41])) := by
  obtain ⟨V1, w1, ha1, hb1, hf1⟩ := buf_byte h 40 40 rfl hb.size (by omega)
  obtain ⟨S1, hS1, hb1⟩ := hb1.letter
  have hS1s : S1.size ≤ S.size + 1 := by rw [hS1, ba_size, strB_size]; exact Nat.le_refl _
  obtain ⟨A1, c1, rfl, _⟩ := hb1.slice
  obtain ⟨A0, c0, rfl, _⟩ := h.slice
  obtain ⟨H, hH⟩ : ∃ H, H = heavy k := ⟨_, rfl⟩
  have hkl := hk.1
  have hnk : nk ≤ H := by rw [hH, ← hkl]; exact len_heavy k
  have HHK := Lib.hid (And.intro hH (And.intro hN (And.intro hw hS1)))
  rw [← hH] at hs
  have HK := Lib.hid hk
  have HB := Lib.hid (And.intro hb ht)
  have H1 := Lib.hid (And.intro hb1 hf1)
  have HIH := Lib.hid IH
  clear h hb ht hk hw hb1 hf1 hH hN hS1 IH
  go_enter Tryd.func19, Tryd.ntmps19
  go_wp2_with (at_builtin; refine wpList_append_run rfl _ _ 42 rfl rfl _ _ _ _ rfl rfl ha1 ?_)
  go_loopw [0, 12] (fun vb vi wr => ∃ (j : Nat) (U : ByteArray), vi = .int .i64 (j : Int) ∧ j ≤ nk ∧
    ∃ (A : Option Addr) (c : Nat), vb = .slice A U.size c ∧ Hid (Buf w0.heap.size wr (.slice A U.size c) U ∧ FrO w0.heap.size w wr ∧ U = S1 ++ kidsB (k.take j))) (fun _ vi _ => nk - (intOf vi).toNat)
  case atStart => exact ⟨0, S1, rfl, Nat.zero_le _, A1, c1, rfl, Lib.hid ⟨H1.out.1, H1.out.2, by rw [Wood.take_zero, kidsB_nil, ba_nil]⟩⟩
  case round =>
    obtain ⟨j, U, rfl, hj, Ab, cb, rfl, HU⟩ := hrel
    have hbw : Below w0.heap.size w0 wr := HB.out.1.trans HU.out.2.1.1
    have hUs : U.size ≤ S1.size + 64 * heavy (k.take j) := by
      have := kidsB_size (wfW_take k j HHK.out.2.2.1)
      rw [HU.out.2.2, ba_size]; omega
    by_cases hlt : j < nk
    · have hts := heavy_take_succ k j (by rw [hkl]; exact hlt)
      have htl := heavy_take k (j + 1)
      rw [← HHK.out.1] at htl
      obtain ⟨b, o, op, s, mn, mx, k', A', D', ns, cs, nk', ck', rfl, hblt, e1, c0, c1, c2, c3, c4, hin⟩ := HK.out.kid hlt
      have g0 := (hbw.cell (p := ⟨b, o + j * 5, none⟩) hblt).trans c0
      have g1 := (hbw.cell (p := ⟨b, o + j * 5 + 1, none⟩) hblt).trans c1
      have g2 := (hbw.cell (p := ⟨b, o + j * 5 + 2, none⟩) hblt).trans c2
      have g3 := (hbw.cell (p := ⟨b, o + j * 5 + 3, none⟩) hblt).trans c3
      have g4 := (hbw.cell (p := ⟨b, o + j * 5 + 4, none⟩) hblt).trans c4
      have hwn := wfW_nth k j (by rw [hkl]; exact hlt) HHK.out.2.2.1
      have hhn := heavy_nth k j (by rw [hkl]; exact hlt)
      have hkt := kidsB_take k j (by rw [hkl]; exact hlt)
      have HIN := Lib.hid (And.intro hin (And.intro hwn hkt))
      have hBw : w0.heap.size ≤ w.heap.size := HB.out.1.size
      have hhN : heavy (k.nth j) ≤ N := Nat.le_trans hhn HHK.out.2.1
      clear c0 c1 c2 c3 c4 hin hwn hkt e1
      obtain ⟨Z, hZ⟩ : ∃ Z, Z = heavy (k.nth j) := ⟨_, rfl⟩
      obtain ⟨Y, hY⟩ : ∃ Y, Y = heavy (k.take j) := ⟨_, rfl⟩
      rw [← hY] at hUs hts
      rw [← hZ] at hts
      have hroom : U.size + 64 * Z + 2 ≤ 100000000 := by omega
      have HZ := Lib.hid (And.intro hZ hhN)
      clear hUs hts htl hhn hZ hY hhN
      rcases Nat.eq_zero_or_pos j with h0 | h0
      · have hj0 : ¬ 0 < j := by omega
        have H0 := Lib.hid h0
        clear h0
        have HC := Lib.hid (HIH.out (k.nth j) HZ.out.2 w0 _ F _ _ U HIN.out.1 (HB.out.1.trans (HU.out.2.1.alloc hBw (.cells #[.int .i64 op, .slice A' ns cs, .int .i64 mn, .int .i64 mx, .slice D' nk' ck'] 26)).1) (HU.out.1.alloc (.cells #[.int .i64 op, .slice A' ns cs, .int .i64 mn, .int .i64 mx, .slice D' nk' ck'] 26)) (HB.out.2.on (HU.out.2.1.alloc hBw (.cells #[.int .i64 op, .slice A' ns cs, .int .i64 mn, .int .i64 mx, .slice D' nk' ck'] 26)).1) HIN.out.2.1 (by rw [← HZ.out.1]; omega))
        go_wp2_with (go_at_call 12; (with_reducible refine HC.out.mono ?_); rintro e w2 ⟨V2, rfl, hb2, hf2⟩; obtain ⟨U2, hU2, hb2⟩ := hb2.letter; obtain ⟨A2, c2, rfl, _⟩ := hb2.slice; have H2 := Lib.hid (And.intro hb2 (And.intro hf2 hU2)); clear hb2 hf2 hU2)
        refine ⟨⟨j + 1, U2, by go_num, by omega, _, _, rfl, Lib.hid ⟨H2.out.1, (HU.out.2.1.alloc hBw (.cells #[.int .i64 op, .slice A' ns cs, .int .i64 mn, .int .i64 mx, .slice D' nk' ck'] 26)).trans H2.out.2.1, ?_⟩⟩, by simp [intOf]; omega⟩
        have hkt := HIN.out.2.2
        rw [if_pos H0.out] at hkt
        rw [H2.out.2.2, hkt, HU.out.2.2, H0.out, Wood.take_zero, kidsB_nil, ba_nil]
      · obtain ⟨V8, w8, ha8, hb8, hf8⟩ := buf_byte (HU.out.1.alloc (.cells #[.int .i64 op, .slice A' ns cs, .int .i64 mn, .int .i64 mx, .slice D' nk' ck'] 26)) 44 44 rfl (Nat.le_trans (Nat.le_trans hBw HU.out.2.1.1.size) (by simp)) (by omega)
        rw [show (wr.alloc (.cells #[.int .i64 op, .slice A' ns cs, .int .i64 mn, .int .i64 mx, .slice D' nk' ck'] 26)).heap.size = wr.heap.size + 1 by simp] at ha8
        obtain ⟨U8, hU8, hb8⟩ := hb8.letter
        have hU8s : U8.size ≤ U.size + 1 := by rw [hU8, ba_size, strB_size]; exact Nat.le_refl _
        obtain ⟨A8, c8, rfl, _⟩ := hb8.slice
        have hbx8 := hf8.keep (k := wr.heap.size) (heap_alloc_new wr (.cells #[.int .i64 op, .slice A' ns cs, .int .i64 mn, .int .i64 mx, .slice D' nk' ck'] 26)) (by decide)
        obtain ⟨r0, r1, r2, r3, r4, _⟩ := box_facts' hbx8
        have hfw8 := (HU.out.2.1.alloc hBw (.cells #[.int .i64 op, .slice A' ns cs, .int .i64 mn, .int .i64 mx, .slice D' nk' ck'] 26)).trans hf8
        have HC := Lib.hid (HIH.out (k.nth j) HZ.out.2 w0 w8 F _ _ U8 HIN.out.1 (HB.out.1.trans hfw8.1) hb8 (HB.out.2.on hfw8.1) HIN.out.2.1 (by rw [← HZ.out.1]; omega))
        have H8 := Lib.hid (And.intro hfw8 (And.intro hU8 h0))
        clear hb8 hf8 hU8 hbx8 hfw8
        go_wp2_with (first
          | (at_builtin; refine wpList_append_run rfl _ _ 42 rfl rfl _ _ _ _ rfl rfl ha8 ?_)
          | (go_at_call 12; (with_reducible refine HC.out.mono ?_); rintro e w2 ⟨V2, rfl, hb2, hf2⟩; obtain ⟨U2, hU2, hb2⟩ := hb2.letter; obtain ⟨A2, c2, rfl, _⟩ := hb2.slice; have H2 := Lib.hid (And.intro hb2 (And.intro hf2 hU2)); clear hb2 hf2 hU2))
        refine ⟨⟨j + 1, U2, by go_num, by omega, _, _, rfl, Lib.hid ⟨H2.out.1, H8.out.1.trans H2.out.2.1, ?_⟩⟩, by simp [intOf]; omega⟩
        have hkt := HIN.out.2.2
        rw [if_neg (by have := H8.out.2.2; omega)] at hkt
        rw [H2.out.2.2, hkt, H8.out.2.1, HU.out.2.2]
        simp only [ba_assoc]
    · have hjn : j = nk := by omega
      subst hjn
      have htk : k.take j = k := by rw [← hkl]; exact Wood.take_all k
      rw [htk, ← HHK.out.1] at hUs
      obtain ⟨V9, w9, ha9, hb9, hf9⟩ := buf_byte HU.out.1 41 41 rfl (Nat.le_trans HB.out.1.size HU.out.2.1.1.size) (by omega)
      have H9 := Lib.hid (And.intro hb9 (And.intro hf9 htk))
      clear hb9 hf9 htk hUs
      go_wp2_with (at_builtin; refine wpList_append_run rfl _ _ 42 rfl rfl _ _ _ _ rfl rfl ha9 ?_)
      go_ret
      refine ⟨V9, rfl, ?_, HU.out.2.1.trans H9.out.2.1⟩
      have := H9.out.1
      rw [HU.out.2.2, H9.out.2.2, HHK.out.2.2.2] at this
      simp only [ba_assoc] at this ⊢
      exact this

theorem rowG_wf {F : Nat → Prop} {w : World} {A : Option Addr} {n : Nat} {s : List (Int × Int)} (h : RowF F w A n s) : RowG w A n s := h.1
/-- The program's show. -/
theorem show_any (N : Nat) : ShowH N := by
  induction N with
  | zero =>
    intro T hN w0 w F v V S hv
    obtain ⟨op, s, mn, mx, k, A, D, ns, cs, nk, ck, rfl, _⟩ := hv
    simp [heavy] at hN
  | succ N ih =>
    intro T hN w0 w F v V S hv hb h ht hw hs
    obtain ⟨op, s, mn, mx, k, A, D, ns, cs, nk, ck, rfl, rfl, hr, hk⟩ := hv
    obtain ⟨⟨hop, h1, h2, h3⟩, h4, _⟩ := hw
    simp only [heavy] at hN hs
    have hsl := hr.1.1
    rw [oneB_cons]
    have hK : ∀ w2 V2 S2, Buf w0.heap.size w2 V2 S2 → FrO w0.heap.size w w2 → S2.size ≤ S.size + 50 → Calls Tryd.prog 19 #[V2, .slice D nk ck] w2 (ShowV w0.heap.size w2 S2 (strB [40] ++ kidsB k ++ strB [41])) := fun w2 V2 S2 hb2 hf2 hs2 =>
      showKids_buf ih hk (by omega) (hb.trans hf2.1) hb2 (ht.on hf2.1) h4 (by omega)
    by_cases e0 : op = 0
    · subst e0; exact show_empty h hb (by omega)
    by_cases e1 : op = 1
    · subst e1
      refine show_char h hb (by omega) fun w2 V2 hb2 hf2 => ?_
      refine (showSet_buf hb2 (hb.trans hf2.1) (ht.on hf2.1) hr.1 h3 (by rw [ba_size, strB_size]; simp only [List.length_cons, List.length_nil]; omega)).mono fun e w3 ⟨V3, he, hb3, hf3⟩ => ⟨V3, he, ?_, hf3⟩
      simp only [ba_assoc] at hb3 ⊢
      exact hb3
    by_cases e2 : op = 2
    · subst e2; exact show_begin h hb (by omega)
    by_cases e3 : op = 3
    · subst e3; exact show_end h hb (by omega)
    by_cases e4 : op = 4
    · subst e4
      exact show_cat h hb (by omega) fun w2 V2 hb2 hf2 => hK w2 V2 _ hb2 hf2 (by rw [ba_size, strB_size]; simp only [List.length_cons, List.length_nil]; omega)
    by_cases e5 : op = 5
    · subst e5
      exact show_alt h hb (by omega) fun w2 V2 hb2 hf2 => hK w2 V2 _ hb2 hf2 (by rw [ba_size, strB_size]; simp only [List.length_cons, List.length_nil]; omega)
    by_cases e6 : op = 6
    · subst e6
      exact show_rep h hb ht (by omega) h1 h2 hK
    · exact show_else h hb (by omega) (by omega)
set_option maxHeartbeats 1000000 in
/-- The program's Show. -/
theorem pshow_any (T : Wood) (F : Nat → Prop) (W : World) (v : Value) (hv : NodeIn F W v T) (hw : WfW T) (hs : heavy T ≤ 1000000) (ht : Tab W.heap.size W) :
    Calls Tryd.prog 8 #[v] W fun e w' => e = .returned (.string (oneB T)) ∧ Below W.heap.size W w' := by
  have hv0 := hv
  obtain ⟨op, s, mn, mx, k, A, D, ns, cs, nk, ck, hT, rfl, hr, hk⟩ := hv
  have hbelow : Below W.heap.size W (W.alloc (.cells #[.int .i64 op, .slice A ns cs, .int .i64 mn, .int .i64 mx, .slice D nk ck] 26)) := (Below.refl _ _).alloc (Nat.le_refl _) _
  have HS := Lib.hid (show_any (heavy T) T (Nat.le_refl _) W _ F _ _ _ hv0 hbelow (Buf.nil_ _ _) (ht.on hbelow) hw (by show 0 + _ ≤ _; omega))
  have HB := Lib.hid hbelow
  clear hv0 hr hk hT hbelow
  go_enter Tryd.func8, Tryd.ntmps8
  go_wp2_with (go_at_call 12; (with_reducible refine HS.out.mono ?_); rintro e w2 ⟨V2, rfl, hb2, hf2⟩; obtain ⟨U2, hU2, hb2⟩ := hb2.letter; obtain ⟨A2, c2, rfl, hrow, _⟩ := hb2.slice; have hcv := strRow w2 A2 U2.size c2 (nums U2) hrow; have H2 := Lib.hid (And.intro hf2 hU2); clear hb2 hf2 hU2 hrow)
  go_ret
  refine ⟨?_, HB.out.trans H2.out.1.1⟩
  rw [strOfNums_nums, H2.out.2, nil_ba]
  rfl
end Go.Proofs.YtegcebgoiocakaaDoor
