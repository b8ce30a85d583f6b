/- The document's pool: Take, Fill, View, Bytes, Turn. -/
import Derived.Test.YtgjmgbpphfccaaaRMem
import Derived.BigRegion
namespace Go.Proofs.Ytgjmgbpphfccaaa
open Go Go.RowKit
set_option linter.unusedVariables false

theorem QRow.rowI {w : World} {B n : Nat} {v : Value} {xs : List Nat} (h : QRow w B v n xs) : ∃ A c, v = .slice A n c ∧ RowI .i64 w A n (ints xs) ∧ (A = none → n = 0 ∧ c = 0) ∧ n ≤ c ∧ c ≤ maxLen := by
  rcases h.2 with ⟨rfl, rfl⟩ | ⟨g, o, cap, cur, rfl, hb, hg, h1, h2, h3, h4⟩
  · have : xs = [] := List.eq_nil_of_length_eq_zero h.1
    subst this
    exact ⟨none, 0, rfl, RowI.nil_, fun _ => ⟨rfl, rfl⟩, Nat.le_refl _, Nat.zero_le _⟩
  · refine ⟨_, cap, rfl, ⟨by rw [ints_length, h.1], fun hn => ⟨g, o, rfl, (Array.getElem?_eq_some_iff.1 hg).1, fun j hj => ?_⟩⟩, (fun e => by cases e), h1, h2⟩
    rw [cell_of_row w g (o + j) cur _ (0, 0) hg, h4 j hj, ints_get xs j (by rw [h.1]; exact hj)]
theorem q_of_row {w : World} {B n : Nat} {v : Value} {xs : List Nat} (h : w.ownsRow B 3 1 v n (iv xs)) : QRow w B v n xs := by
  have hl := h.1
  rw [iv_length, Nat.mul_one] at hl
  refine ⟨hl, ?_⟩
  rcases h.2 with h2 | ⟨g, cap, cur, rfl, hb, hg, h1, h2, h3, h4⟩
  · exact .inl h2
  · refine .inr ⟨g, 0, cap, cur, rfl, hb, hg, h1, h2, by omega, fun j hj => ?_⟩
    have e1 : (cur.toList.take (n * 1))[j]? = (iv xs)[j]? := by rw [h4]
    rw [List.getElem?_take_of_lt (by omega), Array.getElem?_toList] at e1
    rw [Nat.zero_add, e1, iv_get]
    simp [List.getD, List.getElem?_eq_getElem (show j < xs.length by omega)]

def RefS (w : World) (B : Nat) (F : Nat → Prop) (g size : Nat) (s : St) : Prop := ∃ HV BV LV, RefC w B F g HV BV LV size s.os s.hs s.ln
section
variable {w w' : World} {B g size : Nat} {F : Nat → Prop} {s : St}
theorem RefS.low (h : RefS w B F g size s) {k : Nat} (hk : F k) : B ≤ k ∧ k < w.heap.size := by obtain ⟨a, b, c, hp⟩ := h; exact hp.low k hk
theorem RefS.fg (h : RefS w B F g size s) : F g := by obtain ⟨a, b, c, hp⟩ := h; exact hp.fg
theorem RefS.below (h : RefS w B F g size s) (hb : Below w.heap.size w w') : RefS w' B F g size s := by obtain ⟨a, b, c, hp⟩ := h; exact ⟨a, b, c, hp.below hb⟩
theorem RefS.drewN (h : RefS w B F g size s) (q : Nat) : RefS (w.drewN q) B F g size s := by obtain ⟨a, b, c, hp⟩ := h; exact ⟨a, b, c, hp.keep (fun _ _ => rfl) (Nat.le_refl _)⟩
theorem RefS.moved (h : RefS w B F g size s) {F2 : Nat → Prop} (hm : Moved F2 w w') (hd : ∀ k, F k → ¬ F2 k) : RefS w' B F g size s := by obtain ⟨a, b, c, hp⟩ := h; exact ⟨a, b, c, hp.moved hm hd⟩
end

section
variable {w : World} {B g size : Nat} {F : Nat → Prop} {HV BV LV : Value} {os : List (List Int)} {hs ln : List Nat}
theorem rtake_no (h : RefC w B F g HV BV LV size os hs []) :
    Calls Try.prog 12 #[.pointer (some ⟨g, 0, none⟩)] w fun e w' => e = .returned (.tuple #[.int .i64 0, .int .i64 19]) ∧ w = w' := by
  obtain ⟨A, c, rfl, _⟩ := h.line.form
  have c2 := h.c2
  clear h
  simp only [List.length_nil] at c2
  go_enter Try.func12, Try.ntmps12
  go_wp2_with fail
  go_ret2
  exact ⟨rfl, rfl⟩
set_option maxHeartbeats 1000000 in
theorem rtake_yes {i : Nat} {rest : List Nat} (h : RefC w B F g HV BV LV size os hs (i :: rest)) (hi : i < hs.length) (hn : hs.length ≤ 64) (hr : rest.length ≤ 64) :
    Calls Try.prog 12 #[.pointer (some ⟨g, 0, none⟩)] w fun e w' => e = .returned (.tuple #[.int .i64 (i : Int), .int .i64 0]) ∧ ∃ F' LV', RefC w' B F' g HV BV LV' size os (hs.set i 1) rest ∧ Step F F' w w' := by
  have c2 := h.c2
  obtain ⟨m, hm⟩ : ∃ m, m = rest.length := ⟨_, rfl⟩
  have hq : QRow w 0 LV (m + 1) (i :: rest) := by have := h.line; simpa [hm] using this
  obtain ⟨A, c, rfl, hc1, hc2, hcell⟩ := hq.form
  obtain ⟨b, o, rfl, hcells⟩ := hcell (by omega)
  have hc0 : w.cell? ⟨b, o, none⟩ = some (.int .i64 (i : Int)) := by simpa using hcells 0 (by omega)
  obtain ⟨v', hsl, hq', hvb⟩ := hq.cut1
  have hL := h.setL v' rest (Below.refl _ _) (by rw [← hm]; exact hq') (fun k hk => .inl (by rw [← hvb]; exact hk))
  obtain ⟨gh, ch, gt, ct, rfl, rfl, h1, h2, h3, h4, hH, hT, f1, f2, hFh, hFt⟩ := hL.rows (by omega)
  have k1 := hL.c0
  have k2 := hH i hi
  have k3 := f1 i
  have fz := h.fz 2
  have HFIN : Hid (∃ F' LV', RefC ((w.setCell ⟨g, 2, none⟩ v').setCell ⟨gh, i, none⟩ (.int .i64 1)) B F' g (.slice (some ⟨gh, 0, none⟩) hs.length ch) (.slice (some ⟨gt, 0, none⟩) hs.length ct) LV' size os (hs.set i 1) rest ∧ Step F F' w ((w.setCell ⟨g, 2, none⟩ v').setCell ⟨gh, i, none⟩ (.int .i64 1))) := by
    refine Lib.hid ⟨_, v', hL.setH i 1, ?_, fun k hk => ?_⟩
    · refine ((Moved.refl F w).setCell (p := ⟨g, 2, none⟩) (.inl h.fg) _).setCell (p := ⟨gh, i, none⟩) (.inl ?_) _
      exact h.fh gh rfl
    · rcases hk with hk | hk
      · exact .inl hk
      · exact .inr hk.1
  obtain ⟨A', c', rfl, _⟩ := hq'.form
  unfold maxLen at hc2 h2
  clear h hq hcell hcells hq' hvb hL hH hT f1 f2 hm hFh hFt
  go_enter Try.func12, Try.ntmps12
  go_wp2_with fail
  go_ret2
  exact ⟨rfl, HFIN.out⟩

theorem rfill_no (h : RefC w B F g HV BV LV size os hs ln) (i : Int) (A : Option Addr) (m c : Nat) (hn : 0 < hs.length ∧ hs.length ≤ 64) (h0 : heldL hs i = 0) :
    Calls Try.prog 14 #[.pointer (some ⟨g, 0, none⟩), .int .i64 i, .slice A m c] w fun e w' => e = .returned (.int .i64 2) ∧ w = w' := by
  have HH := Lib.hid (is_any h i hn)
  rw [h0, show decide (0 < 0) = false by decide] at HH
  clear h h0 hn
  go_enter Try.func14, Try.ntmps14
  go_wp2_with fail
  refine HH.out.mono ?_; rintro e w' ⟨rfl, rfl⟩
  go_wp2_with fail
  go_ret
  exact ⟨rfl, rfl⟩
theorem is_yes (h : RefC w B F g HV BV LV size os hs ln) (i : Nat) (hn : hs.length ≤ 64) (hi : i < hs.length) (h0 : 0 < hs.getD i 0) :
    Calls Try.prog 27 #[.pointer (some ⟨g, 0, none⟩), .int .i64 (i : Int)] w fun e w' => e = .returned (.bool true) ∧ w = w' := by
  have := is_any h (i : Int) ⟨by omega, hn⟩
  rwa [heldL_nat, show decide (0 < hs.getD i 0) = true by simpa using h0] at this
theorem rfill_busy (h : RefC w B F g HV BV LV size os hs ln) (i : Nat) (A : Option Addr) (m c : Nat) (hn : hs.length ≤ 64) (hi : i < hs.length) (h0 : 1 < hs.getD i 0) :
    Calls Try.prog 14 #[.pointer (some ⟨g, 0, none⟩), .int .i64 (i : Int), .slice A m c] w fun e w' => e = .returned (.int .i64 18) ∧ w = w' := by
  have HH := Lib.hid (is_yes h i hn hi (by omega))
  obtain ⟨gh, ch, gt, ct, rfl, rfl, h1, h2, h3, h4, hH, hT, f1, f2, _⟩ := h.rows (by omega)
  have c0 := h.c0
  have k2 := hH i hi
  obtain ⟨x, hx⟩ : ∃ x, x = hs.getD i 0 := ⟨_, rfl⟩
  rw [← hx] at k2 h0
  clear h hx hH hT f1 f2
  have d1 : decide (1 < (x : Int)) = true := by simp; omega
  go_enter Try.func14, Try.ntmps14
  go_wp2_with fail
  refine HH.out.mono ?_; rintro e w' ⟨rfl, rfl⟩
  go_wp2_with fail
  go_ret
  exact ⟨rfl, rfl⟩
theorem rfill_big (h : RefC w B F g HV BV LV size os hs ln) (i : Nat) (A : Option Addr) (m c : Nat) (hn : hs.length ≤ 64) (hi : i < hs.length) (h0 : hs.getD i 0 = 1) (hm : size < m) (hmm : m ≤ 100000) :
    Calls Try.prog 14 #[.pointer (some ⟨g, 0, none⟩), .int .i64 (i : Int), .slice A m c] w fun e w' => e = .returned (.int .i64 16) ∧ w = w' := by
  have HH := Lib.hid (is_yes h i hn hi (by omega))
  obtain ⟨gh, ch, gt, ct, rfl, rfl, h1, h2, h3, h4, hH, hT, f1, f2, _⟩ := h.rows (by omega)
  have c0 := h.c0
  have c3 := h.c3
  have k2 : w.cell? ⟨gh, i, none⟩ = some (.int .i64 1) := by have := hH i hi; rw [h0] at this; exact this
  clear h hH hT f1 f2 h0
  have d1 : decide ((size : Int) < (m : Int)) = true := by simp; omega
  go_enter Try.func14, Try.ntmps14
  go_wp2_with fail
  refine HH.out.mono ?_; rintro e w' ⟨rfl, rfl⟩
  go_wp2_with fail
  go_ret
  exact ⟨rfl, rfl⟩
set_option maxHeartbeats 2000000 in
theorem rfill_yes (h : RefC w B F g HV BV LV size os hs ln) (i : Nat) (Ab : Option Addr) (m cb : Nat) (ys : List Int) (hr : RowI .u8 w Ab m ys) (hn : hs.length ≤ 64) (hi : i < hs.length) (h0 : hs.getD i 0 = 1) (hm : m ≤ size) (hmm : m ≤ 100000) :
    Calls Try.prog 14 #[.pointer (some ⟨g, 0, none⟩), .int .i64 (i : Int), .slice Ab m cb] w fun e w' => e = .returned (.int .i64 0) ∧ RefC w' B F g HV BV LV size (os.set i ys) hs ln ∧ Moved F w w' := by
  have HH := Lib.hid (is_yes h i hn hi (by omega))
  obtain ⟨gh, ch, gt, ct, rfl, rfl, h1, h2, h3, h4, hH, hT, f1, f2, hFh, hFt⟩ := h.rows (by omega)
  have c0 := h.c0
  have c1 := h.c1
  have c3 := h.c3
  have k2 : w.cell? ⟨gh, i, none⟩ = some (.int .i64 1) := by have := hH i hi; rw [h0] at this; exact this
  have k4 := hT i hi
  have k5 := f2 i
  have hst := strRow w.drew Ab m cb ys hr
  have hd : RefC w.drew B F g (.slice (some ⟨gh, 0, none⟩) hs.length ch) (.slice (some ⟨gt, 0, none⟩) os.length ct) LV size os hs ln := by rw [h.lo]; exact h.keep (fun _ _ => rfl) (Nat.le_refl _)
  have hfin := hd.setB i ys
  rw [h.lo] at hfin
  have hW : (w.drew.setCell ⟨gt, i, none⟩ (.string (strOfNums ys))) = (w.setCell ⟨gt, i, none⟩ (.string (strOfNums ys))).drew := rfl
  rw [hW] at hfin
  have HFIN := Lib.hid hfin
  have HMV : Hid (Moved F w (w.setCell ⟨gt, i, none⟩ (.string (strOfNums ys))).drew) := Lib.hid (((Moved.refl F w).setCell (p := ⟨gt, i, none⟩) (.inl hFt) _).drew)
  obtain ⟨S0, hS0⟩ : ∃ S0, S0 = strOfNums (os.getD i []) := ⟨_, rfl⟩
  obtain ⟨S1, hS1⟩ : ∃ S1, S1 = strOfNums ys := ⟨_, rfl⟩
  rw [← hS0] at k4
  rw [← hS1] at hst HFIN HMV
  clear h hH hT f1 f2 h0 hd hfin hW hr hS0 hS1 hFh hFt
  have d1 : decide ((size : Int) < (m : Int)) = false := by simp; omega
  go_enter Try.func14, Try.ntmps14
  go_wp2_with fail
  refine HH.out.mono ?_; rintro e w' ⟨rfl, rfl⟩
  go_wp2_with fail
  go_region
  all_goals go_wp2_with fail
  all_goals go_ret
  all_goals exact ⟨rfl, HFIN.out, HMV.out⟩
end
end Go.Proofs.Ytgjmgbpphfccaaa
