/- The records that wait: taken all. -/
import Derived.Test.YtebmafghekfllaaDoorModT18
namespace Go.Proofs.YtebmafghekfllaaDoor
open Go Go.RowKit
set_option linter.unusedVariables false
set_option maxRecDepth 20000
/-- Nobody waits. -/
def zrec : List Value := [.int .i64 0, .int .i64 0, .string ⟨#[]⟩]
def zw : List Value := zrec ++ zrec ++ zrec ++ zrec ++ zrec ++ zrec ++ zrec ++ zrec ++ zrec ++ zrec ++ zrec ++ zrec ++ zrec ++ zrec ++ zrec ++ zrec ++ [.int .i64 0]
theorem zw_len : zw.length = 49 := rfl
theorem zw_one : ∀ u ∈ zw, u.oneCell' = true := by decide
theorem zw_last : zw[48]? = some (.int .i64 0) := rfl
/-- Into a block that is new. -/
theorem wpList_store_wait {ops : Array Oper} {rest : List Oper} {op : Oper} {a : Act} {w : World} {Q : Exit → Act → World → Prop} (hgd : op.guard = none) (x y : Operand) (ho : op.op = .store 54 x y) (G : Nat) (vs : List Value) (hx : a.eval x = .pointer (some ⟨G, 0, none⟩)) (hy : a.eval y = .agg vs.toArray)
    (cs : Array Value) (t : TypeId) (hG : w.heap[G]? = some (.cells cs t (0, 0))) (hc : cs.size = 49) (hv : vs.length = 49) (hv1 : ∀ u ∈ vs, u.oneCell' = true) (h : ∀ w4, w4.rangeAt G 0 vs → w.grownBy w4 (some G) → w4.heap.size = w.heap.size → wpList Tryd.prog ops Q rest (a.put op.dst undef) w4) : wpList Tryd.prog ops Q (op :: rest) a w := by
  have hth : w.there G 0 vs.length := fun j hj => by
    refine ⟨?_, by simp [World.frozen?, hG]⟩
    rw [cell_of_row w G _ _ _ (0, 0) hG, Array.getElem?_eq_getElem (by omega)]
    rfl
  refine wpList_store_mid hgd 54 x y ho G 0 vs.toArray hx hy (by simpa using hth) (by rw [info_wait]; simp [hv]) (all_oneCell_toArray hv1) ?_
  exact h _ (World.rangeAt_setCells_same w G 0 vs hth) (setCells_kept _ _ _ _).1 (setCells_kept _ _ _ _).2
section
variable {w w' : World} {g : Nat} {tv ev : Value} {rs : List Rw} {en ov : Bool}
theorem TelM.zeroed (h : TelM w g tv ev rs en ov) : TelM (w.setCells g 2 zw) g tv ev [] en ov := by
  have hth : w.there g 2 zw.length := h.there (by rw [zw_len]; decide)
  have hout : ∀ o, o < 2 ∨ 51 ≤ o → (w.setCells g 2 zw).cell? ⟨g, o, none⟩ = w.cell? ⟨g, o, none⟩ := fun o ho => World.cell?_setCells_out g zw 2 w ⟨g, o, none⟩ (fun _ _ => by show o < 2 ∨ 2 + zw.length ≤ o; rw [zw_len]; omega)
  refine ⟨hp_sets zw 2 w zw_one h.hp, (hout 0 (by omega)).trans h.c0, (hout 1 (by omega)).trans h.c1, fun j x hx => by simp at hx, ?_, (hout 51 (by omega)).trans h.ce, (hout 52 (by omega)).trans h.co, Nat.zero_le _⟩
  exact World.rangeAt_setCells_same w g 2 zw hth 48 _ zw_last
theorem wpList_store_zero {ops : Array Oper} {rest : List Oper} {op : Oper} {a : Act} {Q : Exit → Act → World → Prop} (hgd : op.guard = none) (x y : Operand) (ho : op.op = .store 54 x y) (hx : a.eval x = .pointer (some ⟨g, 2, none⟩)) (hy : a.eval y = .agg zw.toArray)
    (hM : TelM w g tv ev rs en ov) (h : ∀ w4, TelM w4 g tv ev [] en ov → w.grownBy w4 (some g) → w4.heap.size = w.heap.size → wpList Tryd.prog ops Q rest (a.put op.dst undef) w4) : wpList Tryd.prog ops Q (op :: rest) a w := by
  have hth : w.there g 2 zw.length := hM.there (by rw [zw_len]; decide)
  refine wpList_store_mid hgd 54 x y ho g 2 zw.toArray hx hy (by simpa using hth) (by rw [info_wait]; simp [zw_len]) (all_oneCell_toArray zw_one) ?_
  exact h _ hM.zeroed (setCells_kept _ _ _ _).1 (setCells_kept _ _ _ _).2
set_option maxHeartbeats 4000000 in
theorem take_any (h : TelM w g tv ev rs en ov) :
    Calls Tryd.prog 33 #[.pointer (some ⟨g, 2, none⟩)] w fun e w' => ∃ gt, e = .returned (.slice (some ⟨gt, 0, none⟩) rs.length 16) ∧ ReadR 0 w' (some ⟨gt, 0, none⟩) rs.length 3 (rs.map Rw.rcs) ∧ TelM w' g tv ev [] en ov ∧ Moved (fun q => q = g) w w' ∧ w.heap.size ≤ gt := by
  obtain ⟨cs, hcs, hsz, hone⟩ := h.hp
  have hwc := wait_cells
  have hal := arr_len
  have hrc := rec_cells
  obtain ⟨xs, hxs⟩ : ∃ xs : List Value, xs = (cs.toList.drop 2).take 49 := ⟨_, rfl⟩
  have hxl : xs.length = 49 := by rw [hxs]; simp [hsz]
  have hr : w.rangeAt g 2 xs := fun j v hv => by
    have hj : j < 49 := by rw [← hxl]; exact (List.getElem?_eq_some_iff.1 hv).1
    rw [hxs, List.getElem?_take_of_lt hj, List.getElem?_drop] at hv
    rw [cell_of_row w g _ _ _ (0, 0) hcs, ← hv, Array.getElem?_toList]
  have hx1 : ∀ u ∈ xs, u.oneCell' = true := fun u hu => by
    rw [hxs] at hu
    exact hone u (List.mem_of_mem_drop (List.mem_of_mem_take hu))
  have hxc : ∀ k v, k < 49 → w.cell? ⟨g, 2 + k, none⟩ = some v → xs[k]? = some v := fun k v hk hv => by
    obtain ⟨u, hu⟩ : ∃ u, xs[k]? = some u := ⟨_, List.getElem?_eq_getElem (by omega)⟩
    have := hr k u hu
    rw [hv] at this
    rw [hu, this]
  have hx48 : xs[48]? = some (.int .i64 (rs.length : Int)) := hxc 48 _ (by decide) h.cm
  have hxr : ∀ j x, rs[j]? = some x → ∀ i v, x.rcs[i]? = some v → xs[j * 3 + i]? = some v := fun j x hx i v hv => by
    have hj := (List.getElem?_eq_some_iff.1 hx).1
    have hi : i < 3 := (List.getElem?_eq_some_iff.1 hv).1
    have := h.le
    exact hxc _ v (by omega) (h.cr j x hx i v hv)
  have hle := h.le
  have HXR := Lib.hid hxr
  have HX48 := Lib.hid hx48
  clear hxc hx48 hxr
  have HLD := Lib.hid (And.intro hr (And.intro hxl hx1))
  have HH := Lib.hid h
  have hgl := h.lt
  have hk : ∀ (w4 : World) {o : Obj}, (w.alloc o).grownBy w4 (some w.heap.size) → w4.heap[g]? = w.heap[g]? := fun w4 o hg => (hg.block g (by simp; omega) (by simp; omega)).trans (Below.heap_alloc w o g hgl)
  have hkeep : ∀ (w4 w5 : World) {o : Obj}, w4.grownBy w5 (some g) → w4.heap.size = (w.alloc o).heap.size → w5.heap[w.heap.size]? = w4.heap[w.heap.size]? := fun w4 w5 o hg hs => hg.block _ (by rw [hs]; simp) (by simp; omega)
  have hfin : ∀ (w4 w5 : World) {o : Obj}, (w.alloc o).grownBy w4 (some w.heap.size) → w4.heap.size = (w.alloc o).heap.size → w4.grownBy w5 (some g) → Moved (fun q => q = g) w w5 := fun w4 w5 o h1 h2 h3 => ((((Moved.refl (fun q => q = g) w).alloc o).grown h1 (fun k hk => .inr (by injection hk with hk; omega))).grown h3 (fun k hk => .inl (by injection hk with hk; exact hk.symm)))
  have HFN := Lib.hid hfin
  clear hfin
  clear hcs hsz hone hxs hr hxl hx1 h
  have hct := fun (w' : World) => cut_h w.heap.size 0 rs.length hle w'
  go_enter Tryd.func33, Tryd.ntmps33
  go_wp2_with (first
    | (refine wpList_load_mid rfl 54 (.tmp 5) rfl g 2 rfl xs _ HLD.out.1 Tryd.underlying54 rfl (by rw [info_wait, HLD.out.2.1]) ?_)
    | (refine wpList_store_wait rfl (.tmp 3) (.tmp 6) rfl w.heap.size xs rfl rfl _ _ (heap_alloc_new w _) rfl HLD.out.2.1 HLD.out.2.2 ?_; intro w4 hr4 hg4 hs4; have H4 := Lib.hid (And.intro hr4 (And.intro hg4 hs4)); clear hr4 hg4 hs4)
    | (refine wpList_store_zero rfl (.tmp 9) (.tmp 8) rfl rfl rfl (TelM.keep HH.out (hk w4 H4.out.2.1)) ?_; intro w5 hm5 hg5 hs5; have hkk := hkeep w4 w5 hg5 H4.out.2.2; have g48 : w5.cell? ⟨w.heap.size, 48, none⟩ = some (.int .i64 (rs.length : Int)) := (by unfold World.cell?; rw [hkk]; have := H4.out.1 48 _ HX48.out; rw [Nat.zero_add] at this; exact this); have HKK := Lib.hid hkk; clear hkk; have H5 := Lib.hid (And.intro hm5 (And.intro hg5 hs5)); clear hm5 hg5 hs5))
  go_ret
  refine ⟨w.heap.size, rfl, ⟨⟨by rw [List.length_map], fun x hx => ?_⟩, fun _ => ⟨w.heap.size, 0, rfl, Nat.zero_le _, by rw [H5.out.2.2, H4.out.2.2]; simp, fun j x hx i v hv => ?_⟩⟩, H5.out.1, HFN.out _ _ H4.out.2.1 H4.out.2.2 H5.out.2.1, Nat.le_refl _⟩
  · obtain ⟨y, _, rfl⟩ := List.mem_map.1 hx
    exact y.rwide
  · rw [List.getElem?_map] at hx
    obtain ⟨y, hy, rfl⟩ := Option.map_eq_some_iff.1 hx
    have hce : w5.cell? ⟨w.heap.size, 0 + j * 3 + i, none⟩ = w4.cell? ⟨w.heap.size, 0 + j * 3 + i, none⟩ := by unfold World.cell?; rw [HKK.out]
    rw [hce, Nat.add_assoc]
    exact H4.out.1 _ v (HXR.out j y hy i v hv)
end
end Go.Proofs.YtebmafghekfllaaDoor
