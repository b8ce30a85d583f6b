/- The document's near: has one of some rows hits? -/
import Derived.Test.YtebmafghekfllaaDoorRowM18
namespace Go.Proofs.YtebmafghekfllaaDoor
open Go Go.RowKit
set_option linter.unusedVariables false
set_option maxRecDepth 20000
/-- Has the row at i hits that lie in its text? -/
def hitB (l : List Rw) (i : Nat) : Bool := match l[i]? with | some x => !(goodH x).isEmpty | none => false
def nearB (l : List Rw) (a b : Int) : Bool := (List.range l.length).any fun (i : Nat) => decide (a ≤ (i : Int)) && decide ((i : Int) ≤ b) && hitB l i
/-- Rows that came in, or some of them. -/
def RowsAt (w : World) (A : Option Addr) (n : Nat) (l : List Rw) : Prop := ReadR 0 w A n 4 (l.map Rw.cells) ∧ ∀ x ∈ l, RHits w x ∧ x.hm ≤ 10 ∧ x.tx.size ≤ 60 ∧ -9223372036854775808 ≤ x.n ∧ x.n ≤ 9223372036854775807
theorem RowsAt.len {w : World} {A : Option Addr} {n : Nat} {l : List Rw} (h : RowsAt w A n l) : l.length = n := by have := h.1.1.1; simpa using this
theorem RowsAt.below {w w' : World} {A : Option Addr} {n : Nat} {l : List Rw} (h : RowsAt w A n l) (hb : Below w.heap.size w w') : RowsAt w' A n l := ⟨h.1.below hb, fun x hx => ⟨(h.2 x hx).1.below hb, (h.2 x hx).2⟩⟩
theorem RowsAt.at {w : World} {A : Option Addr} {n : Nat} {l : List Rw} (h : RowsAt w A n l) {i : Nat} {x : Rw} (hx : l[i]? = some x) : ∃ b o, A = some ⟨b, o, none⟩ ∧ b < w.heap.size ∧ w.cell? ⟨b, o + i * 4, none⟩ = some (.int .i64 x.n) ∧ w.cell? ⟨b, o + i * 4 + 1, none⟩ = some (.int .i64 x.p) ∧ w.cell? ⟨b, o + i * 4 + 2, none⟩ = some (.string x.tx) ∧ w.cell? ⟨b, o + i * 4 + 3, none⟩ = some (.slice x.hA x.hm x.hc) := by
  have hi := (List.getElem?_eq_some_iff.1 hx).1
  obtain ⟨b, o, hA, -, hb, hc⟩ := h.1.2 (by rw [← h.len]; omega)
  have hc := fun j v hv => hc i x.cells (by simp [hx]) j v hv
  exact ⟨b, o, hA, hb, hc 0 _ rfl, hc 1 _ rfl, hc 2 _ rfl, hc 3 _ rfl⟩
set_option maxHeartbeats 4000000 in
theorem near_any (A : Option Addr) (n c : Nat) (l : List Rw) (a b : Int) (w : World) (h : RowsAt w A n l) (hn : n ≤ 100) (ha : -200 ≤ a) (hb : b ≤ 200) :
    Calls Tryd.prog 35 #[.slice A n c, .int .i64 a, .int .i64 b] w fun e w' => e = .returned (.bool (nearB l a b)) ∧ Below w.heap.size w w' := by
  have H := Lib.hid h
  have HL := Lib.hid h.len
  obtain ⟨v, hv⟩ : ∃ v, v = nearB l a b := ⟨_, rfl⟩
  rw [← hv]
  have HV := Lib.hid hv
  clear h hv
  have hcl := row_cells
  go_enter Tryd.func35, Tryd.ntmps35
  go_wp2_with fail
  go_loopw [7] (fun vi wr => ∃ i : Int, vi = .int .i64 i ∧ a ≤ i ∧ (i ≤ b + 1 ∨ i = a) ∧ Hid (Below w.heap.size w wr ∧ ∀ j : Nat, a ≤ (j : Int) → (j : Int) < i → hitB l j = false)) (fun vi _ => (b + 1 - intOf vi).toNat)
  case atStart => exact ⟨a, rfl, Int.le_refl _, .inr rfl, Lib.hid ⟨Below.refl _ _, fun j h1 h2 => by omega⟩⟩
  case round =>
    obtain ⟨i, rfl, hai, hib, HO⟩ := hrel
    by_cases hlt : i ≤ b
    · have next : hitB l i.toNat = false ∨ i < 0 ∨ (n : Int) ≤ i → ∀ w2, Below w.heap.size w w2 → Hid (Below w.heap.size w w2 ∧ ∀ j : Nat, a ≤ (j : Int) → (j : Int) < i + 1 → hitB l j = false) := fun hc w2 hw => Lib.hid ⟨hw, fun j h1 h2 => by
        by_cases hj : (j : Int) < i
        · exact HO.out.2 j h1 hj
        · have hji : (j : Int) = i := by omega
          rcases hc with hc | hc | hc
          · rw [← hji, Int.toNat_natCast] at hc; exact hc
          · omega
          · unfold hitB
            rw [List.getElem?_eq_none (by rw [HL.out]; omega)]⟩
      have NX := Lib.hid next
      clear next hib
      by_cases h0 : 0 ≤ i
      · by_cases hil : i < (n : Int)
        · obtain ⟨k, rfl⟩ : ∃ k : Nat, i = (k : Int) := ⟨i.toNat, by omega⟩
          obtain ⟨x, hx⟩ : ∃ x, l[k]? = some x := ⟨_, List.getElem?_eq_getElem (by rw [HL.out]; omega)⟩
          obtain ⟨bb, o, rfl, hbl, d0, d1, d2, d3⟩ := (H.out.below HO.out.1).at hx
          have hmem := H.out.2 x (List.mem_of_getElem? hx)
          have HC := Lib.hid (hits_any x wr (hmem.1.below HO.out.1) (by omega) (by omega))
          have hh : hitB l k = !(goodH x).isEmpty := by unfold hitB; rw [hx]
          obtain ⟨m, hm⟩ : ∃ m, m = (goodH x).length := ⟨_, rfl⟩
          have hme : (goodH x).isEmpty = decide (m = 0) := by rw [hm]; cases goodH x <;> simp
          rw [hme] at hh
          rw [← hm] at HC
          unfold Rw.val at HC
          have HHH := Lib.hid hh
          have HW := Lib.hid HO.out.1
          have HNEW : ∀ j : Nat, hitB l j = true → a ≤ (j : Int) → (j : Int) ≤ b → j < n → Hid (v = true) := fun j h1 h2 h3 h4 => Lib.hid (by
            rw [HV.out]
            unfold nearB
            refine List.any_eq_true.2 ⟨j, List.mem_range.2 (by rw [HL.out]; exact h4), by simp [h1, h2, h3]⟩)
          have HNW := Lib.hid HNEW
          have hkl := hil
          clear hx hmem hh hm hme HO HNEW
          have hkn : k < n := by omega
          by_cases hm0 : m = 0
          · subst hm0
            go_wp2_with (go_at_call 23; (with_reducible refine HC.out.mono ?_); rintro e w2 ⟨A2, c2, rfl, -, hb2⟩; have HB2 := Lib.hid (HW.out.trans (hb2.mono HW.out.size)); clear hb2)
            have HF := NX.out (.inl (by rw [Int.toNat_natCast, HHH.out]; rfl)) w2 HB2.out
            exact ⟨⟨(k : Int) + 1, by go_num, by omega, .inl (by omega), HF⟩, by simp [intOf]; omega⟩
          · have hmp : 0 < m := by omega
            have HVT := HNW.out k (by rw [HHH.out]; simp [hm0]) hai hlt hkn
            go_wp2_with (go_at_call 23; (with_reducible refine HC.out.mono ?_); rintro e w2 ⟨A2, c2, rfl, -, hb2⟩; have HB2 := Lib.hid (HW.out.trans (hb2.mono HW.out.size)); clear hb2)
            go_ret
            exact ⟨by rw [HVT.out]; rfl, HB2.out⟩
        · have HF := NX.out (.inr (.inr (by omega))) wr HO.out.1
          clear HO
          go_wp2_with fail
          exact ⟨⟨i + 1, by go_num, by omega, .inl (by omega), HF⟩, by simp [intOf]; omega⟩
      · have HF := NX.out (.inr (.inl (by omega))) wr HO.out.1
        clear HO
        go_wp2_with fail
        exact ⟨⟨i + 1, by go_num, by omega, .inl (by omega), HF⟩, by simp [intOf]; omega⟩
    · have HVF : Hid (v = false) := Lib.hid (by
        rw [HV.out]
        unfold nearB
        rw [List.any_eq_false]
        intro j hj hh
        simp only [Bool.and_eq_true, decide_eq_true_eq] at hh
        have := HO.out.2 j hh.1.1 (by omega)
        rw [this] at hh
        cases hh.2)
      have HW := Lib.hid HO.out.1
      clear HO hib
      go_wp2_with fail
      go_ret
      exact ⟨by rw [HVF.out]; rfl, HW.out⟩
end Go.Proofs.YtebmafghekfllaaDoor
