/- A new teller. -/
import Derived.Test.YtebmafghekfllaaDoorModU18
import Derived.Test.YtebmafghekfllaaDoorModP18
namespace Go.Proofs.YtebmafghekfllaaDoor
open Go Go.RowKit
set_option linter.unusedVariables false
set_option maxRecDepth 20000
section
variable {w : World} {g : Nat}
/-- As the block lies there, with the way that it tells. -/
theorem telMade (tv ev : Value) (h1 : tv.oneCell' = true) (h2 : ev.oneCell' = true) (h : w.heap[g]? = some (.cells (tv :: ev :: (zw ++ [.bool false, .bool false])).toArray 56 (0, 0))) : TelM w g tv ev [] false false := by
  refine ⟨⟨_, h, rfl, fun u hu => ?_⟩, ?_, ?_, fun j x hx => by simp at hx, ?_, ?_, ?_, Nat.zero_le _⟩
  · simp only [List.mem_cons, List.mem_append, List.not_mem_nil, or_false] at hu
    rcases hu with rfl | rfl | hu | rfl | rfl
    · exact h1
    · exact h2
    · exact zw_one u hu
    · rfl
    · rfl
  all_goals exact cell_of_row _ g _ _ _ (0, 0) h
theorem TelM.setW {tv ev v : Value} {rs : List Rw} {en ov : Bool} (h : TelM w g tv ev rs en ov) (h1 : v.oneCell' = true) : TelM (w.setCell ⟨g, 0, none⟩ v) g v ev rs en ov := by
  obtain ⟨cs, e1, e2, e3⟩ := h.hp
  have hset : ∀ o, o ≠ 0 → (w.setCell ⟨g, 0, none⟩ v).cell? ⟨g, o, none⟩ = w.cell? ⟨g, o, none⟩ := fun o ho => World.cell?_setCell_other _ _ _ _ (by intro e; injection e with _ e; exact ho e.symm)
  exact ⟨hp_set h1 h.hp, World.cell?_setCell_same _ _ _ h.c0, (hset 1 (by decide)).trans h.c1, fun j x hx i v hv => (hset _ (by omega)).trans (h.cr j x hx i v hv), (hset 50 (by decide)).trans h.cm, (hset 51 (by decide)).trans h.ce, (hset 52 (by decide)).trans h.co, h.le⟩
theorem TelM.setE {tv ev v : Value} {rs : List Rw} {en ov : Bool} (h : TelM w g tv ev rs en ov) (h1 : v.oneCell' = true) : TelM (w.setCell ⟨g, 1, none⟩ v) g tv v rs en ov := by
  have hset : ∀ o, o ≠ 1 → (w.setCell ⟨g, 1, none⟩ v).cell? ⟨g, o, none⟩ = w.cell? ⟨g, o, none⟩ := fun o ho => World.cell?_setCell_other _ _ _ _ (by intro e; injection e with _ e; exact ho e.symm)
  exact ⟨hp_set h1 h.hp, (hset 0 (by decide)).trans h.c0, World.cell?_setCell_same _ _ _ h.c1, fun j x hx i v hv => (hset _ (by omega)).trans (h.cr j x hx i v hv), (hset 50 (by decide)).trans h.cm, (hset 51 (by decide)).trans h.ce, (hset 52 (by decide)).trans h.co, h.le⟩
theorem TelM.store {tv ev v : Value} {rs : List Rw} {en ov : Bool} (h : TelM w g tv ev rs en ov) {o : Nat} (ho : o < 53) (h1 : v.oneCell' = true) : (Go.store ⟨g, o, none⟩ v).run Tryd.prog w = .ok () (w.setCell ⟨g, o, none⟩ v) := by
  obtain ⟨cs, e1, e2, e3⟩ := h.hp
  rw [run_store Tryd.prog w _ v _ h1, cell_of_row w g o _ _ (0, 0) e1, Array.getElem?_eq_getElem (by omega)]
  simp [World.frozen?, e1]
theorem beside_any (n : Int) (w : World) : Calls Tryd.prog 17 #[.int .i64 n] w fun e w' => e = .returned (.bool (decide (0 ≤ n) && decide (n ≤ 16))) ∧ w' = w := by
  by_cases h0 : 0 ≤ n
  · by_cases h1 : n ≤ 16
    · rw [show (decide (0 ≤ n) && decide (n ≤ 16)) = true by simp; omega]
      go_enter Tryd.func17, Tryd.ntmps17
      go_wp2_with fail
      go_ret
      exact ⟨rfl, rfl⟩
    · rw [show (decide (0 ≤ n) && decide (n ≤ 16)) = false by simp; omega]
      go_enter Tryd.func17, Tryd.ntmps17
      go_wp2_with fail
      go_ret
      exact ⟨rfl, rfl⟩
  · rw [show (decide (0 ≤ n) && decide (n ≤ 16)) = false by simp; omega]
    go_enter Tryd.func17, Tryd.ntmps17
    go_wp2_with fail
    go_ret
    exact ⟨rfl, rfl⟩
set_option maxHeartbeats 4000000 in
theorem new_bad (k b a : Int) (w : World) (h : (k < 0 ∨ 3 < k) ∨ (b < 0 ∨ 16 < b) ∨ (a < 0 ∨ 16 < a)) : Calls Tryd.prog 8 #[.int .i64 k, .int .i64 b, .int .i64 a] w fun e w' => e = .returned (.tuple #[.pointer none, .int .i64 2]) ∧ Below w.heap.size w w' := by
  have HB := Lib.hid (beside_any b w)
  have HA := Lib.hid (beside_any a w)
  by_cases h0 : k < 0
  · go_enter Tryd.func8, Tryd.ntmps8
    go_wp2_with fail
    go_ret2
    exact ⟨rfl, Below.refl _ _⟩
  · by_cases h1 : 3 < k
    · go_enter Tryd.func8, Tryd.ntmps8
      go_wp2_with fail
      go_ret2
      exact ⟨rfl, Below.refl _ _⟩
    · by_cases h2 : b < 0 ∨ 16 < b
      · have hb : (decide (0 ≤ b) && decide (b ≤ 16)) = false := by rcases h2 with h2 | h2 <;> simp <;> omega
        rw [hb] at HB
        clear h2 hb
        go_enter Tryd.func8, Tryd.ntmps8
        go_wp2_with fail
        refine HB.out.mono ?_; rintro e w' ⟨rfl, rfl⟩
        go_wp2_with fail
        go_ret2
        exact ⟨rfl, Below.refl _ _⟩
      · have hb : (decide (0 ≤ b) && decide (b ≤ 16)) = true := by simp; omega
        have ha : (decide (0 ≤ a) && decide (a ≤ 16)) = false := by rcases h with h | h | h | h <;> simp <;> omega
        rw [hb] at HB
        rw [ha] at HA
        clear h2 hb ha h
        go_enter Tryd.func8, Tryd.ntmps8
        go_wp2_with fail
        refine HB.out.mono ?_; rintro e w' ⟨rfl, rfl⟩
        go_wp2_with fail
        refine HA.out.mono ?_; rintro e w' ⟨rfl, rfl⟩
        go_wp2_with fail
        go_ret2
        exact ⟨rfl, Below.refl _ _⟩
set_option maxHeartbeats 4000000 in
theorem new0 (b a : Nat) (w : World) (hb : b ≤ 16) (ha : a ≤ 16) : Calls Tryd.prog 8 #[.int .i64 0, .int .i64 (b : Int), .int .i64 (a : Int)] w fun e w' => ∃ g, e = .returned (.tuple #[.pointer (some ⟨g, 0, none⟩), .int .i64 0]) ∧ TelM w' g (.func (Fn.func 18) #[] #[]) .nilFunc [] false false ∧ Below w.heap.size w w' ∧ w.heap.size ≤ g := by
  have HB := Lib.hid (beside_any (b : Int) w)
  have HA := Lib.hid (beside_any (a : Int) w)
  rw [show (decide (0 ≤ (b : Int)) && decide ((b : Int) ≤ 16)) = true by simp; omega] at HB
  rw [show (decide (0 ≤ (a : Int)) && decide ((a : Int) ≤ 16)) = true by simp; omega] at HA
  have hst := (telMade .nilFunc .nilFunc rfl rfl (heap_alloc_new w (.cells #[.nilFunc, .nilFunc, .int .i64 0, .int .i64 0, .string ⟨#[]⟩, .int .i64 0, .int .i64 0, .string ⟨#[]⟩, .int .i64 0, .int .i64 0, .string ⟨#[]⟩, .int .i64 0, .int .i64 0, .string ⟨#[]⟩, .int .i64 0, .int .i64 0, .string ⟨#[]⟩, .int .i64 0, .int .i64 0, .string ⟨#[]⟩, .int .i64 0, .int .i64 0, .string ⟨#[]⟩, .int .i64 0, .int .i64 0, .string ⟨#[]⟩, .int .i64 0, .int .i64 0, .string ⟨#[]⟩, .int .i64 0, .int .i64 0, .string ⟨#[]⟩, .int .i64 0, .int .i64 0, .string ⟨#[]⟩, .int .i64 0, .int .i64 0, .string ⟨#[]⟩, .int .i64 0, .int .i64 0, .string ⟨#[]⟩, .int .i64 0, .int .i64 0, .string ⟨#[]⟩, .int .i64 0, .int .i64 0, .string ⟨#[]⟩, .int .i64 0, .int .i64 0, .string ⟨#[]⟩, .int .i64 0, .bool false, .bool false] 56))).store (o := 0) (by decide) (v := .func (Fn.func 18) #[] #[]) rfl
  go_enter Tryd.func8, Tryd.ntmps8
  go_wp2_with fail
  refine HB.out.mono ?_; rintro e w' ⟨rfl, rfl⟩
  go_wp2_with fail
  refine HA.out.mono ?_; rintro e w' ⟨rfl, rfl⟩
  go_wp2_with fail
  go_ret2
  exact ⟨_, rfl, telMade _ _ rfl rfl (heap_alloc_new _ _), (Below.refl _ _).alloc (Nat.le_refl _) _, Nat.le_refl _⟩
end
end Go.Proofs.YtebmafghekfllaaDoor
