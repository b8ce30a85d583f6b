/- The document's ring as a window of places. -/
import Derived.Test.YtmpemcooianfiaaDrgG
namespace Go.Proofs.Ytmpemcooianfiaa
open Go Go.RowKit
set_option linter.unusedVariables false
set_option maxRecDepth 20000
section
variable {next : Nat} {W : List (Option It)}
theorem hold_split (W : List (Option It)) (q : Nat) : hold W = hold (W.take q) ++ hold (W.drop q) := by
  unfold hold
  rw [← List.filterMap_append, List.take_append_drop]
theorem mem_take {q : Nat} {y : It} (h : y ∈ hold (W.take q)) : ∃ i, i < q ∧ W[i]? = some (some y) := by
  rw [mem_hold] at h
  obtain ⟨i, hi⟩ := List.getElem?_of_mem h
  rw [List.getElem?_take] at hi
  split at hi
  · exact ⟨i, by assumption, hi⟩
  · cases hi
theorem mem_drop {q : Nat} {y : It} (h : y ∈ hold (W.drop q)) : ∃ i, q ≤ i ∧ W[i]? = some (some y) := by
  rw [mem_hold] at h
  obtain ⟨i, hi⟩ := List.getElem?_of_mem h
  rw [List.getElem?_drop] at hi
  exact ⟨q + i, by omega, hi⟩
theorem hold_sp (hw : Wok next W) (q : Nat) : SplitN (hold W) ((next + q : Nat) : Int) (hold (W.take q)).length := by
  refine ⟨by rw [hold_split W q, List.length_append]; omega, fun k y hy => ?_⟩
  rw [hold_split W q] at hy
  refine ⟨fun hk => ?_, fun hk => ?_⟩
  · rw [List.getElem?_append_left hk] at hy
    obtain ⟨i, hi, he⟩ := mem_take (List.mem_of_getElem? hy)
    have := hw.1 i y he
    omega
  · rw [List.getElem?_append_right hk] at hy
    obtain ⟨i, hi, he⟩ := mem_drop (List.mem_of_getElem? hy)
    have := hw.1 i y he
    omega
theorem hold_drop {q : Nat} {o : Option It} (h : W[q]? = some o) : hold (W.drop q) = o.toList ++ hold (W.drop (q + 1)) := by
  obtain ⟨h1, h2⟩ := List.getElem?_eq_some_iff.1 h
  rw [List.drop_eq_getElem_cons h1, h2]
  unfold hold
  rw [List.filterMap_cons]
  cases o <;> simp
theorem hold_set {q : Nat} (h : W[q]? = some none) (x : It) : hold (W.set q (some x)) = (hold W).take (hold (W.take q)).length ++ x :: (hold W).drop (hold (W.take q)).length := by
  obtain ⟨h1, h2⟩ := List.getElem?_eq_some_iff.1 h
  have e1 : hold W = hold (W.take q) ++ hold (W.drop (q + 1)) := by
    rw [hold_split W q, hold_drop h]
    rfl
  have e2 : hold (W.set q (some x)) = hold (W.take q) ++ x :: hold (W.drop (q + 1)) := by
    rw [hold_split (W.set q (some x)) q, hold_drop (W := W.set q (some x)) (q := q) (o := some x) (by rw [List.getElem?_set_self h1])]
    rw [List.take_set_of_le (Nat.le_refl _), List.drop_set_of_lt (by omega)]
    rfl
  rw [e2, e1, List.take_left' rfl, List.drop_left' rfl]
/-- What is put, of the list. -/
theorem put_dup {q : Nat} (hw : Wok next W) (hq : q < W.length) : putR next W ((next + q : Nat) : Int) = 2 ∧ (∃ y, (hold W)[(hold (W.take q)).length]? = some y ∧ y.n = ((next + q : Nat) : Int)) ∨
    putR next W ((next + q : Nat) : Int) = 0 ∧ W[q]? = some none ∧ ∀ y, (hold W)[(hold (W.take q)).length]? = some y → y.n ≠ ((next + q : Nat) : Int) := by
  have hp : putR next W ((next + q : Nat) : Int) = match W[q]? with | some none => 0 | _ => 2 := by
    unfold putR
    rw [if_neg (by omega), if_neg (by omega)]
    have e : (((next + q : Nat) : Int) - (next : Int)).toNat = q := by omega
    rw [e]
    rfl
  obtain ⟨o, ho⟩ : ∃ o, W[q]? = some o := ⟨_, List.getElem?_eq_getElem hq⟩
  rw [hp, ho]
  rcases o with _ | y
  · refine .inr ⟨rfl, rfl, fun y hy => ?_⟩
    rw [hold_split W q, List.getElem?_append_right (Nat.le_refl _), Nat.sub_self, hold_drop ho] at hy
    obtain ⟨i, hi, he⟩ := mem_drop (W := W) (q := q + 1) (y := y) (List.mem_of_getElem? (by simpa using hy))
    have := hw.1 i y he
    omega
  · refine .inl ⟨rfl, y, ?_, hw.1 q y ho⟩
    rw [hold_split W q, List.getElem?_append_right (Nat.le_refl _), Nat.sub_self, hold_drop ho]
    rfl
theorem hold_cons (o : Option It) (r : List (Option It)) : hold (o :: r) = o.toList ++ hold r := by
  unfold hold
  rw [List.filterMap_cons]
  cases o <;> simp
theorem hold_tailW {x : It} {r : List (Option It)} : hold (tailW (some x :: r)) = hold r := by
  unfold hold
  show List.filterMap id (r ++ [none]) = _
  rw [List.filterMap_append]
  simp
theorem head_cases (hw : Wok next W) : (∃ x R, headW W = some x ∧ hold W = x :: R ∧ x.n = (next : Int) ∧ hold (tailW W) = R ∧ nextN next W = next + 1) ∨ (headW W = none ∧ tailW W = W ∧ nextN next W = next ∧ ∀ y, (hold W)[0]? = some y → y.n ≠ (next : Int)) := by
  rcases W with _ | ⟨_ | x, r⟩
  · exact .inr ⟨rfl, rfl, rfl, fun y hy => by simp [hold] at hy⟩
  · refine .inr ⟨rfl, rfl, rfl, fun y hy => ?_⟩
    rw [hold_cons] at hy
    obtain ⟨i, hi⟩ := List.getElem?_of_mem (mem_hold.1 (List.mem_of_getElem? (by simpa using hy)))
    have := hw.1 (i + 1) y (by simpa using hi)
    omega
  · refine .inl ⟨x, hold r, rfl, by rw [hold_cons]; rfl, ?_, hold_tailW, rfl⟩
    have := hw.1 0 x rfl
    simpa using this
theorem hold_le (W : List (Option It)) : (hold W).length ≤ W.length := List.length_filterMap_le _ _
theorem room_any (hw : Wok next W) (t : Int) (h0 : (next : Int) ≤ t) (h1 : t - (next : Int) < (W.length : Int)) : decide (putR next W t = 0) = !((hold W).any fun y => y.n == t) := by
  obtain ⟨q, hq⟩ : ∃ q : Nat, t = ((next + q : Nat) : Int) := ⟨(t - next).toNat, by omega⟩
  subst hq
  have hql : q < W.length := by omega
  rcases put_dup hw hql with ⟨e1, y, hy, hyn⟩ | ⟨e1, hn, hall⟩
  · rw [e1, List.any_eq_true.2 ⟨y, List.mem_of_getElem? hy, by simpa using hyn⟩]
    rfl
  · rw [e1]
    have : ((hold W).any fun y => y.n == ((next + q : Nat) : Int)) = false := by
      rw [List.any_eq_false]
      intro y hy he
      have he : y.n = ((next + q : Nat) : Int) := by simpa using he
      obtain ⟨i, hi⟩ := List.getElem?_of_mem (mem_hold.1 hy)
      have := hw.1 i y hi
      have : i = q := by omega
      subst this
      rw [hn] at hi
      injection hi with hi
      cases hi
    rw [this]
    rfl
end
/-- The document's ring over a window. -/
def DrgV (w : World) (B : Nat) (D : Nat → Prop) (r next : Nat) (W : List (Option It)) : Prop := DrgS w B D r W.length next (hold W)
section
variable {w w' : World} {B r next : Nat} {D : Nat → Prop} {W : List (Option It)}
theorem DrgV.keep (h : DrgV w B D r next W) (hs : ∀ k, D k → w'.heap[k]? = w.heap[k]?) (hz : w.heap.size ≤ w'.heap.size) : DrgV w' B D r next W := by
  obtain ⟨A, c, h⟩ := h
  exact ⟨A, c, h.keep hs hz⟩
theorem DrgV.low (h : DrgV w B D r next W) : ∀ k, D k → B ≤ k ∧ k < w.heap.size := by
  obtain ⟨A, c, h⟩ := h
  exact h.low
theorem dPutV (h : DrgV w B D r next W) (hw : Wok next W) (x : It) (hx : x.n < 9223372036854775808) :
    Calls Try.prog 9 #[.pointer (some ⟨r, 0, none⟩), x.val] w fun e w' => e = .returned (.int .i64 (putR next W x.n)) ∧ ∃ D', DrgV w' B D' r next (putW next W x) ∧ Step D D' w w' := by
  obtain ⟨A, c, h⟩ := h
  have hb : ∀ {w' : World}, Below w.heap.size w w' → ∃ D', DrgV w' B D' r next W ∧ Step D D' w w' := fun hb => ⟨D, ⟨A, c, h.below hb⟩, Moved.of_below hb D, fun k hk => .inl hk⟩
  by_cases h1 : x.n < (next : Int)
  · have e : putR next W x.n = 2 := by unfold putR; rw [if_pos h1]
    have e2 : putW next W x = W := by unfold putW; rw [e]; rfl
    rw [e, e2]
    exact (dput_low h x h1).mono fun e w' hh => ⟨hh.1, hb hh.2⟩
  · by_cases h2 : (W.length : Int) ≤ x.n - (next : Int)
    · have e : putR next W x.n = 16 := by unfold putR; rw [if_neg h1, if_pos h2]
      have e2 : putW next W x = W := by unfold putW; rw [e]; rfl
      rw [e, e2]
      exact (dput_big h x (by omega) h2 hx).mono fun e w' hh => ⟨hh.1, hb hh.2⟩
    · obtain ⟨q, hq⟩ : ∃ q : Nat, x.n = ((next + q : Nat) : Int) := ⟨(x.n - next).toNat, by omega⟩
      have hql : q < W.length := by omega
      have hsp := hold_sp hw q
      have hl := hold_le W
      have hl2 := hw.2.2
      rw [hq]
      rcases put_dup hw hql with ⟨e1, hd⟩ | ⟨e1, hn, hd⟩
      · have e2 : putW next W x = W := by unfold putW; rw [hq, e1]; rfl
        rw [e1, e2]
        refine (dput_in h x (by omega) (by omega) hw.2.2 hx (p := (hold (W.take q)).length) (by rw [hq]; exact hsp) (by omega) true (by rw [if_pos rfl, hq]; exact hd)).mono fun e w' hh => ?_
        obtain ⟨he, D', h3, h4⟩ := hh
        exact ⟨he, D', h3, h4⟩
      · have e2 : putW next W x = W.set q (some x) := by
          unfold putW
          rw [hq, e1, if_pos rfl]
          congr 1
          omega
        rw [e1, e2]
        refine (dput_in h x (by omega) (by omega) hw.2.2 hx (p := (hold (W.take q)).length) (by rw [hq]; exact hsp) (by omega) false (by rw [if_neg (by decide), hq]; exact hd)).mono fun e w' hh => ?_
        obtain ⟨he, D', h3, h4⟩ := hh
        rw [if_neg (by decide), ← hold_set hn x] at h3
        refine ⟨he, D', ?_, h4⟩
        unfold DrgV
        rw [List.length_set]
        exact h3
theorem dGiveV (h : DrgV w B D r next W) (hw : Wok next W) (hn : next ≤ 100000) :
    Calls Try.prog 11 #[.pointer (some ⟨r, 0, none⟩)] w fun e w' => e = .returned (.tuple #[(nextX W).val, .bool (headW W).isSome]) ∧ ∃ D', DrgV w' B D' r (nextN next W) (tailW W) ∧ Step D D' w w' := by
  obtain ⟨A, c, h⟩ := h
  have hl := hold_le W
  have hl2 := hw.2.2
  rcases head_cases hw with ⟨x, R, e1, e2, e3, e4, e5⟩ | ⟨e1, e2, e3, e4⟩
  · rw [e2] at h hl
    have hlc : R.length + 1 ≤ W.length := by simpa using hl
    rw [show nextX W = x by unfold nextX; rw [e1]; rfl, e1, e5]
    refine (dgive_some h e3 (by omega) (by omega)).mono fun e w' hh => ?_
    obtain ⟨he, h3, h4⟩ := hh
    refine ⟨he, D, ?_, h4, fun k hk => .inl hk⟩
    unfold DrgV
    rw [e4, tailW_length]
    exact h3
  · rw [show nextX W = numIt 0 by unfold nextX; rw [e1]; rfl, e1, e2, e3]
    exact (dgive_none h e4 (by omega)).mono fun e w' hh => ⟨hh.1, D, ⟨A, c, h.below hh.2⟩, Moved.of_below hh.2 D, fun k hk => .inl hk⟩
theorem dRoomV (h : DrgV w B D r next W) (hw : Wok next W) (hn : next ≤ 100000) (t : Int) (h0 : -9223372036854775808 ≤ t) (h1 : t < 9223372036854775808) :
    Calls Try.prog 14 #[.pointer (some ⟨r, 0, none⟩), .int .i64 t] w fun e w' => e = .returned (.bool (decide (putR next W t = 0))) ∧ Below w.heap.size w w' := by
  obtain ⟨A, c, h⟩ := h
  have hl := hold_le W
  have hl2 := hw.2.2
  by_cases h3 : t < (next : Int) ∨ (W.length : Int) ≤ t - (next : Int)
  · have e : decide (putR next W t = 0) = false := by
      unfold putR
      by_cases h4 : t < (next : Int)
      · rw [if_pos h4]; rfl
      · rw [if_neg h4, if_pos (h3.resolve_left h4)]; rfl
    rw [e]
    exact (droom_out h t h3 h0 h1 (by omega)).mono fun e w' hh => ⟨hh.1, by obtain ⟨q, rfl⟩ := hh.2; exact below_drewN (Below.refl _ _) q⟩
  · rw [room_any hw t (by omega) (by omega)]
    exact (droom_in h t (by omega) (by omega) h1 (by omega)).mono fun e w' hh => ⟨hh.1, by obtain ⟨q, rfl⟩ := hh.2; exact below_drewN (Below.refl _ _) q⟩
end
end Go.Proofs.Ytmpemcooianfiaa
