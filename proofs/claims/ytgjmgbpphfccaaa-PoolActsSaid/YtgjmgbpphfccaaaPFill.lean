/- Fill: a buffer's octets are written anew. -/
import Derived.Test.YtgjmgbpphfccaaaPDrop
namespace Go.Proofs.Ytgjmgbpphfccaaa
open Go Go.RowKit
set_option linter.unusedVariables false

section
variable {w : World} {B g gb size : Nat} {F : Nat → Prop} {FV : Value} {Vs : List Value} {os : List (List Int)} {hs ln : List Nat}
theorem fill_no (h : PoolC w B F g gb FV Vs size os hs ln) (i : Int) (A : Option Addr) (m c : Nat) (hn : hs.length ≤ 64) (h0 : heldL hs i = 0) :
    Calls Try.prog 13 #[.pointer (some ⟨g, 0, none⟩), .int .i64 i, .slice A m c] w fun e w' => e = .returned (.int .i64 2) ∧ w = w' := by
  have HH := Lib.hid (holds_any h i hn)
  rw [h0] at HH
  clear h h0
  go_enter Try.func13, Try.ntmps13
  go_wp2_with fail
  refine HH.out.mono ?_; rintro e w' ⟨rfl, rfl⟩
  go_wp2_with fail
  go_ret
  exact ⟨rfl, rfl⟩
theorem fill_busy (h : PoolC w B F g gb FV Vs size os hs ln) (i : Nat) (A : Option Addr) (m c : Nat) (hn : hs.length ≤ 64) (hi : i < hs.length) (h0 : 1 < hs.getD i 0) :
    Calls Try.prog 13 #[.pointer (some ⟨g, 0, none⟩), .int .i64 (i : Int), .slice A m c] w fun e w' => e = .returned (.int .i64 18) ∧ w = w' := by
  have HH := Lib.hid (holds_in h i hi hn)
  obtain ⟨x, hx⟩ : ∃ x, x = hs.getD i 0 := ⟨_, rfl⟩
  rw [← hx] at HH h0
  clear h hx
  have hne : ((x : Int) == 0) = false := by simp; omega
  have d1 : decide (1 < (x : Int)) = true := by simp; omega
  go_enter Try.func13, Try.ntmps13
  go_wp2_with fail
  refine HH.out.mono ?_; rintro e w' ⟨rfl, rfl⟩
  go_wp2_with fail
  refine HH.out.mono ?_; rintro e w' ⟨rfl, rfl⟩
  go_wp2_with fail
  go_ret
  exact ⟨rfl, rfl⟩
theorem fill_big (h : PoolC w B F g gb FV Vs size os hs ln) (i : Nat) (A : Option Addr) (m c : Nat) (hn : hs.length ≤ 64) (hi : i < hs.length) (h0 : hs.getD i 0 = 1) (hm : size < m) (hmm : m ≤ 100000) :
    Calls Try.prog 13 #[.pointer (some ⟨g, 0, none⟩), .int .i64 (i : Int), .slice A m c] w fun e w' => e = .returned (.int .i64 16) ∧ w = w' := by
  have hh := holds_in h i hi hn
  rw [h0] at hh
  have HH : Hid (Calls Try.prog 25 #[.pointer (some ⟨g, 0, none⟩), .int .i64 (i : Int)] w fun e w' => e = .returned (.int .i64 1) ∧ w = w') := Lib.hid hh
  have c0 := h.c0
  clear h hh h0
  have d1 : decide ((size : Int) < (m : Int)) = true := by simp; omega
  go_enter Try.func13, Try.ntmps13
  go_wp2_with fail
  refine HH.out.mono ?_; rintro e w' ⟨rfl, rfl⟩
  go_wp2_with fail
  refine HH.out.mono ?_; rintro e w' ⟨rfl, rfl⟩
  go_wp2_with fail
  go_ret
  exact ⟨rfl, rfl⟩

set_option maxHeartbeats 4000000 in
theorem fill_yes (h : PoolC w B F g gb FV Vs size os hs ln) (i : Nat) (Ab : Option Addr) (m cb : Nat) (ys : List Int) (hr : RowI .u8 w Ab m ys) (hnil : Ab = none → m = 0 ∧ cb = 0) (hn : hs.length ≤ 64) (hi : i < hs.length) (h0 : hs.getD i 0 = 1) (hm : m ≤ size) (hmm : m ≤ 100000) :
    Calls Try.prog 13 #[.pointer (some ⟨g, 0, none⟩), .int .i64 (i : Int), .slice Ab m cb] w fun e w' => e = .returned (.int .i64 0) ∧ ∃ F' Vs', PoolC w' B F' g gb FV Vs' size (os.set i ys) hs ln ∧ Step F F' w w' := by
  have hh := holds_in h i hi hn
  rw [h0] at hh
  have HH : Hid (Calls Try.prog 25 #[.pointer (some ⟨g, 0, none⟩), .int .i64 (i : Int)] w fun e w' => e = .returned (.int .i64 1) ∧ w = w') := Lib.hid hh
  have c0 := h.c0
  have c1 := h.c1
  obtain ⟨A, c, hV, cO, hrO, hcO, hcmO, hzO⟩ := h.octAt hi
  have hsl := slice_none A (os.getD i []).length c
  have hown : w.drew.ownsRow 0 5 1 (.slice A 0 c) 0 (([] : List Int).map (.int .u8)) := by
    have hio : i < os.length := by have := h.lo; omega
    have := h.oct i _ os[i] hV (List.getElem?_eq_getElem hio)
    rw [show os.getD i [] = os[i] by simp [List.getD, List.getElem?_eq_getElem hio]] at this
    exact row_cut0 this hzO
  obtain ⟨v', w3, happ, hown3, hgr3, hat3⟩ := app_at .u8 31 5 1 Try.underlying31 info_u8 w.drew 0 (.slice A 0 c) 0 [] hown Ab m cb ys hr hnil (by omega) (by unfold maxLen; omega) (Nat.zero_le _)
  rw [List.nil_append, Nat.zero_add] at hown3
  have hgr : w.grownBy w3 (Value.slice A (os.getD i []).length c).ownBlock := by
    have : w.grownBy w.drew (Value.slice A (os.getD i []).length c).ownBlock := ⟨rfl, rfl, rfl, Nat.le_refl _, fun _ _ _ => rfl⟩
    refine World.grownBy.trans this ?_
    cases A <;> exact hgr3
  have hown3' : w3.ownsRow 0 5 1 v' ys.length (ys.map (.int .u8)) := by rw [hr.1]; exact hown3
  have hst := h.setO (w' := w3) i (.slice A (os.getD i []).length c) v' ys hV hgr hown3' (fun k hk => by
    rcases hat3 k hk with h1 | h1
    · exact .inl (by cases A <;> exact h1)
    · exact .inr h1)
  have hg3 : w3.heap[g]? = w.heap[g]? := hgr.block g h.lt (fun e => (h.oct_ne hV).1 e.symm)
  have hgb3 : w3.heap[gb]? = w.heap[gb]? := hgr.block gb h.ltb (fun e => (h.oct_ne hV).2.1 e.symm)
  have c13 : w3.cell? ⟨g, 1, none⟩ = some (.slice (some ⟨gb, 0, none⟩) hs.length hs.length) := (World.cell?_of_block (w := w) (a := ⟨g, 1, none⟩) hg3).trans c1
  have cO3 : w3.cell? ⟨gb, i * 2, none⟩ = some (.slice A (os.getD i []).length c) := (World.cell?_of_block (w := w) (a := ⟨gb, i * 2, none⟩) hgb3).trans cO
  have f3 : w3.frozen? ⟨gb, i * 2, none⟩ = false := (World.frozen?_of_block (w := w) (a := ⟨gb, i * 2, none⟩) hgb3).trans (h.fzb _)
  have HFIN : Hid (∃ F' Vs', PoolC (w3.setCell ⟨gb, i * 2, none⟩ v') B F' g gb FV Vs' size (os.set i ys) hs ln ∧ Step F F' w (w3.setCell ⟨gb, i * 2, none⟩ v')) := by
    refine Lib.hid ⟨_, _, hst, ((Moved.refl F w).grown hgr (fun k hk => .inl (h.fo i _ k hV hk))).setCell (p := ⟨gb, i * 2, none⟩) (.inl h.fb) _, fun k hk => ?_⟩
    rcases hk with hk | hk
    · exact .inl hk
    · exact .inr hk.1
  obtain ⟨A3, c3, hv3, _⟩ := own_cells hown3
  obtain ⟨o, ho⟩ : ∃ o, o = (os.getD i []).length := ⟨_, rfl⟩
  rw [← ho] at cO cO3 hsl
  subst hv3
  have HAPP := Lib.hid happ
  have d1 : decide ((size : Int) < (m : Int)) = false := by simp; omega
  clear h hh h0 hV hrO hcO hcmO hzO hown happ hown3 hgr3 hat3 hgr hown3' hst hg3 hgb3 hr hnil ho
  go_enter Try.func13, Try.ntmps13
  go_wp2_with fail
  refine HH.out.mono ?_; rintro e w' ⟨rfl, rfl⟩
  go_wp2_with fail
  refine HH.out.mono ?_; rintro e w' ⟨rfl, rfl⟩
  go_wp2_with fail
  go_region_law (refine step_append_run rfl _ _ 31 rfl rfl _ _ _ _ rfl rfl HAPP.out ?_)
  all_goals go_wp2_with fail
  all_goals go_ret
  all_goals exact ⟨rfl, HFIN.out⟩
end
end Go.Proofs.Ytgjmgbpphfccaaa
