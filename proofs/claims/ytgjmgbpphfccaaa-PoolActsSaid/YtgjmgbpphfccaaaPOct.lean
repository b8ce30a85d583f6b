/- Octets, View: what a buffer has. -/
import Derived.Test.YtgjmgbpphfccaaaPHolds
namespace Go.Proofs.Ytgjmgbpphfccaaa
open Go Go.RowKit
set_option linter.unusedVariables false

theorem u8_elem : Try.prog.elem 31 = 5 := by kernel_rfl
theorem u8_size (w : World) : (sizeOf 5).run Try.prog w = .ok 1 w := by kernel_rfl
theorem u8_slice : Try.prog.underlying 31 = some (.slice (Try.prog.elem 31)) := by rw [u8_elem]; exact Try.underlying31

/-- b[i:j], of a slice of octets at whatever address. -/
theorem slice_cut (A : Option Addr) (n c i j : Nat) (hij : i ≤ j) (hj : j ≤ n) (hnc : n ≤ c) :
    ∃ A', (∀ w : World, (Instr.slice 31 (.slice A n c) (some (.int .i64 (i : Int))) (some (.int .i64 (j : Int))) none).run Try.prog w = .ok (.slice A' (j - i) (c - i)) w) ∧
      ∀ (w : World) (xs : List Int), RowI .u8 w A n xs → RowI .u8 w A' (j - i) ((xs.drop i).take (j - i)) := by
  refine ⟨if c = i then A else A.map (·.add (i * 1)), fun w => ?_, fun w xs h => ?_⟩
  · have hr := run_slice_lh (P := Try.prog) (w := w) (t := 31) (a := A) (len := n) (cap := c) (ht := u8_slice) (kl := .i64) (kh := .i64) (l := (i : Int)) (h := (j : Int)) (h0 := by omega) (h1 := by omega) (h2 := by omega)
    rw [hr, u8_elem, u8_size]
    have e1 : ((j : Int).toNat - (i : Int).toNat) = j - i := by omega
    simp [Result.andThen, sliced]
  · have hl := h.1
    refine ⟨by rw [List.length_take, List.length_drop]; omega, fun h0 => ?_⟩
    obtain ⟨b, o, hA, hlt, hc⟩ := h.2 (by omega)
    rw [if_neg (by omega), hA]
    refine ⟨b, o + i, by simp [Addr.add], hlt, fun m hm => ?_⟩
    rw [Nat.add_assoc, hc (i + m) (by omega)]
    simp [List.getD, List.getElem?_drop, hm]
/-- b[:0]. -/
theorem slice_none (A : Option Addr) (n c : Nat) (w : World) :
    (Instr.slice 31 (.slice A n c) none (some (.int .i64 0)) none).run Try.prog w = .ok (.slice A 0 c) w := by
  have hr := run_slice_h (P := Try.prog) (w := w) (t := 31) (a := A) (len := n) (cap := c) (ht := u8_slice) (kh := .i64) (h := 0) (h0 := by omega) (h2 := by omega)
  rw [hr, u8_elem, u8_size]
  have ha : (if c = 0 then A else A.map fun x => x.add (0 * 1)) = A := by
    split
    · rfl
    · cases A <;> simp [Addr.add]
  simp [Result.andThen, sliced]
  simpa using ha

section
variable {w : World} {B g gb size : Nat} {F : Nat → Prop} {FV : Value} {Vs : List Value} {os : List (List Int)} {hs ln : List Nat}
/-- A buffer's octets. -/
theorem PoolC.octAt (h : PoolC w B F g gb FV Vs size os hs ln) {i : Nat} (hi : i < hs.length) :
    ∃ A c, Vs[i]? = some (.slice A (os.getD i []).length c) ∧ w.cell? ⟨gb, i * 2, none⟩ = some (.slice A (os.getD i []).length c) ∧ RowI .u8 w A (os.getD i []).length (os.getD i []) ∧ (os.getD i []).length ≤ c ∧ c ≤ maxLen ∧ (A = none → c = 0) := by
  have h1 : i < Vs.length := by have := h.lv; omega
  have h2 : i < os.length := by have := h.lo; omega
  have ho := h.oct i Vs[i] os[i] (List.getElem?_eq_getElem h1) (List.getElem?_eq_getElem h2)
  obtain ⟨A, c, hv, hr, hc, hm⟩ := row_of_own ho
  obtain ⟨A', c', hv', _, _, hn, _⟩ := own_cells ho
  rw [hv] at hv'
  injection hv' with e1 _ e3
  subst e1; subst e3
  have hg : os.getD i [] = os[i] := by simp [List.getD, List.getElem?_eq_getElem h2]
  rw [hg]
  exact ⟨A, c, by rw [List.getElem?_eq_getElem h1, hv], by rw [h.cO hi, List.getElem?_eq_getElem h1, hv], hr, hc, hm, fun e => (hn e).2⟩

theorem octets_no (h : PoolC w B F g gb FV Vs size os hs ln) (i : Int) (hn : hs.length ≤ 64) (h0 : heldL hs i = 0) :
    Calls Try.prog 15 #[.pointer (some ⟨g, 0, none⟩), .int .i64 i] w fun e w' => e = .returned (.string ⟨#[]⟩) ∧ w = w' := by
  have HH := Lib.hid (holds_any h i hn)
  rw [h0] at HH
  clear h h0
  go_enter Try.func15, Try.ntmps15
  go_wp2_with fail
  refine HH.out.mono ?_; rintro e w' ⟨rfl, rfl⟩
  go_wp2_with fail
  go_ret
  exact ⟨rfl, rfl⟩
theorem octets_yes (h : PoolC w B F g gb FV Vs size os hs ln) (i : Nat) (hn : hs.length ≤ 64) (hi : i < hs.length) (h0 : 0 < hs.getD i 0) :
    Calls Try.prog 15 #[.pointer (some ⟨g, 0, none⟩), .int .i64 (i : Int)] w fun e w' => e = .returned (.string (strOfNums (os.getD i []))) ∧ w = w' := by
  have HH := Lib.hid (holds_in h i hi hn)
  have c1 := h.c1
  obtain ⟨A, c, _, cO, hr, hc, hm, hz⟩ := h.octAt hi
  have hst := strRow w A _ c _ hr
  obtain ⟨o, ho⟩ : ∃ o, o = os.getD i [] := ⟨_, rfl⟩
  obtain ⟨x, hx⟩ : ∃ x, x = hs.getD i 0 := ⟨_, rfl⟩
  rw [← ho] at cO hst hc ⊢
  rw [← hx] at HH h0
  clear h hx ho hr hz
  have hne : ((x : Int) == 0) = false := by simp; omega
  go_enter Try.func15, Try.ntmps15
  go_wp2_with fail
  refine HH.out.mono ?_; rintro e w' ⟨rfl, rfl⟩
  go_wp2_with fail
  go_ret
  exact ⟨rfl, rfl⟩

/-- What View tells: the octets from from to ahead of to, if it may. -/
def viewOk (os : List (List Int)) (hs : List Nat) (i a b : Int) : Prop := 0 < heldL hs i ∧ 0 ≤ a ∧ a ≤ b ∧ b ≤ ((os.getD i.toNat []).length : Int)
instance (os : List (List Int)) (hs : List Nat) (i a b : Int) : Decidable (viewOk os hs i a b) := by unfold viewOk; infer_instance

theorem view_yes (h : PoolC w B F g gb FV Vs size os hs ln) (i a b : Nat) (hn : hs.length ≤ 64) (hi : i < hs.length) (h0 : 0 < hs.getD i 0) (hab : a ≤ b) (hb : b ≤ (os.getD i []).length) :
    Calls Try.prog 16 #[.pointer (some ⟨g, 0, none⟩), .int .i64 (i : Int), .int .i64 (a : Int), .int .i64 (b : Int)] w fun e w' => e = .returned (.tuple #[.string (strOfNums (((os.getD i []).drop a).take (b - a))), .int .i64 0]) ∧ w = w' := by
  have HH := Lib.hid (holds_in h i hi hn)
  have c1 := h.c1
  obtain ⟨A, c, _, cO, hr, hc, hm, hz⟩ := h.octAt hi
  obtain ⟨A', hsl, hcut⟩ := slice_cut A _ c a b hab hb hc
  have hst := strRow w A' (b - a) (c - a) _ (hcut w _ hr)
  obtain ⟨o, ho⟩ : ∃ o, o = os.getD i [] := ⟨_, rfl⟩
  obtain ⟨x, hx⟩ : ∃ x, x = hs.getD i 0 := ⟨_, rfl⟩
  rw [← ho] at cO hst hc hb hsl ⊢
  rw [← hx] at HH h0
  clear h hx ho hr hz hcut
  have hne : ((x : Int) == 0) = false := by simp; omega
  have d1 : decide ((a : Int) < 0) = false := by simp
  have d2 : decide ((b : Int) < (a : Int)) = false := by simp; omega
  have d3 : decide ((o.length : Int) < (b : Int)) = false := by simp; omega
  unfold maxLen at hm
  go_enter Try.func16, Try.ntmps16
  go_wp2_with fail
  refine HH.out.mono ?_; rintro e w' ⟨rfl, rfl⟩
  go_wp2_with fail
  go_ret2
  exact ⟨rfl, rfl⟩
set_option maxHeartbeats 1000000 in
theorem view_no (h : PoolC w B F g gb FV Vs size os hs ln) (i a b : Int) (hn : hs.length ≤ 64) (hno : ¬ viewOk os hs i a b) :
    Calls Try.prog 16 #[.pointer (some ⟨g, 0, none⟩), .int .i64 i, .int .i64 a, .int .i64 b] w fun e w' => e = .returned (.tuple #[.string ⟨#[]⟩, .int .i64 2]) ∧ w = w' := by
  have HH := Lib.hid (holds_any h i hn)
  have c1 := h.c1
  by_cases h0 : heldL hs i = 0
  · rw [h0] at HH
    clear h h0 hno
    go_enter Try.func16, Try.ntmps16
    go_wp2_with fail
    refine HH.out.mono ?_; rintro e w' ⟨rfl, rfl⟩
    go_wp2_with fail
    go_ret2
    exact ⟨rfl, rfl⟩
  · obtain ⟨k, rfl, hk, hx⟩ := heldL_pos (show 0 < heldL hs i by omega)
    obtain ⟨A, c, _, cO, hr, hc, hm, hz⟩ := h.octAt hk
    rw [← hx] at HH
    have h0' : 0 < hs.getD k 0 := by omega
    have hno' : a < 0 ∨ b < a ∨ ((os.getD k []).length : Int) < b := by
      unfold viewOk at hno
      simp only [Int.toNat_natCast] at hno
      by_cases q1 : a < 0
      · exact .inl q1
      · by_cases q2 : b < a
        · exact .inr (.inl q2)
        · refine .inr (.inr ?_)
          rcases Int.lt_or_le ((os.getD k []).length : Int) b with q3 | q3
          · exact q3
          · exact absurd ⟨by omega, by omega, by omega, q3⟩ hno
    obtain ⟨o, ho⟩ : ∃ o, o = os.getD k [] := ⟨_, rfl⟩
    obtain ⟨x, hx'⟩ : ∃ x, x = hs.getD k 0 := ⟨_, rfl⟩
    rw [← ho] at cO hc hno'
    rw [← hx'] at HH h0'
    clear h hx hx' ho hr hz hno h0
    have hne : ((x : Int) == 0) = false := by simp; omega
    unfold maxLen at hm
    rcases hno' with q | q
    · have d1 : decide (a < 0) = true := by simpa using q
      go_enter Try.func16, Try.ntmps16
      go_wp2_with fail
      refine HH.out.mono ?_; rintro e w' ⟨rfl, rfl⟩
      go_wp2_with fail
      go_ret2
      exact ⟨rfl, rfl⟩
    · by_cases q1 : a < 0
      · have d1 : decide (a < 0) = true := by simpa using q1
        go_enter Try.func16, Try.ntmps16
        go_wp2_with fail
        refine HH.out.mono ?_; rintro e w' ⟨rfl, rfl⟩
        go_wp2_with fail
        go_ret2
        exact ⟨rfl, rfl⟩
      · have d1 : decide (a < 0) = false := by simpa using q1
        by_cases q2 : b < a
        · have d2 : decide (b < a) = true := by simpa using q2
          go_enter Try.func16, Try.ntmps16
          go_wp2_with fail
          refine HH.out.mono ?_; rintro e w' ⟨rfl, rfl⟩
          go_wp2_with fail
          go_ret2
          exact ⟨rfl, rfl⟩
        · have d2 : decide (b < a) = false := by simpa using q2
          have d3 : decide ((o.length : Int) < b) = true := by simp; omega
          go_enter Try.func16, Try.ntmps16
          go_wp2_with fail
          refine HH.out.mono ?_; rintro e w' ⟨rfl, rfl⟩
          go_wp2_with fail
          go_ret2
          exact ⟨rfl, rfl⟩
end
end Go.Proofs.Ytgjmgbpphfccaaa
