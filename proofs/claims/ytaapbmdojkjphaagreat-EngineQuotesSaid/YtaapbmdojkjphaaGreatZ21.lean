/- Texts. -/
import Derived.Test.YtaapbmdojkjphaaGreatZ01
import Derived.Test.YtaapbmdojkjphaaGreatZ02
import Derived.Lib.Hide
import Derived.Laws.BytesArg
import Derived.IntWalk
import Derived.Laws.IdiomStrings
import Derived.Handy
import Derived.Deep.OwnRows
import Derived.Deep.RegionHeldLaw
import Derived.BigQuiet
import Derived.BigRegion
import Derived.RangeFuncNested
import Derived.RangeFuncBound
import Derived.RangeFuncCalls
import Derived.RangeFuncLeaves
import Derived.RangeFuncFrom
import Derived.RangeFuncBox
import Derived.Shelf.Abstract
import Derived.Shelf.RegionOpen
import Derived.WalkKit
import Derived.OwnWalkIn
import Derived.TacticsInMore
import Derived.LoopNIn
import Derived.LoopIn
import Derived.Lib.MinMax
namespace Go.Proofs.YtaapbmdojkjphaaGreat
open Go Go.RowKit
set_option linter.unusedVariables false
def SufK (L u : List Int) (k : Nat) : Prop := k ≤ L.length ∧ L.take k <:+ u
def MxK (L u : List Int) (k : Nat) : Prop := SufK L u k ∧ ∀ j, SufK L u j → j ≤ k
def BdK (L : List Int) (k b : Nat) : Prop := b < k ∧ SufK L (L.take k) b ∧ ∀ j, j < k → SufK L (L.take k) j → j ≤ b
def TryK (L u : List Int) (c : Int) (h : Nat) : Prop := SufK L u h ∧ ∀ j, SufK L u j → h < j → L[j]? ≠ some c
section
variable {L u : List Int} {c : Int} {k h b : Nat}
theorem sufK_zero : SufK L u 0 := ⟨Nat.zero_le _, by rw [List.take_zero]; exact List.nil_suffix⟩
theorem SufK.len (s : SufK L u k) : k ≤ u.length := by
  have := s.2.length_le
  rw [List.length_take, Nat.min_eq_left s.1] at this
  exact this
theorem sufK_snoc {j : Nat} : SufK L (u ++ [c]) (j + 1) ↔ SufK L u j ∧ L[j]? = some c := by
  constructor
  · rintro ⟨h1, h2⟩
    have hj : j < L.length := h1
    rw [List.take_succ_eq_append_getElem hj] at h2
    obtain ⟨t, ht⟩ := h2
    rw [← List.append_assoc] at ht
    obtain ⟨h3, h4⟩ := List.append_inj' ht rfl
    injection h4 with h4
    exact ⟨⟨by omega, t, h3⟩, by rw [List.getElem?_eq_getElem hj, h4]⟩
  · rintro ⟨⟨h1, t, ht⟩, h3⟩
    obtain ⟨hj, h4⟩ := List.getElem?_eq_some_iff.1 h3
    refine ⟨hj, t, ?_⟩
    rw [List.take_succ_eq_append_getElem hj, ← List.append_assoc, ht, h4]
theorem sufK_in {j : Nat} (s : SufK L u k) (hj : j ≤ k) : SufK L u j ↔ SufK L (L.take k) j := by
  have hk := s.1
  constructor
  · rintro ⟨h1, h2⟩
    exact ⟨h1, List.suffix_of_suffix_length_le h2 s.2 (by rw [List.length_take, List.length_take]; omega)⟩
  · rintro ⟨h1, h2⟩
    exact ⟨h1, h2.trans s.2⟩
theorem mxK_nil : MxK L [] 0 := ⟨sufK_zero, fun j h => by have := h.len; simpa using this⟩
theorem MxK.try_ (h : MxK L u k) : TryK L u c k := ⟨h.1, fun j s hj => by have := h.2 j s; omega⟩
theorem TryK.next (t : TryK L u c h) (hn : L[h]? ≠ some c) (hb : BdK L h b) : TryK L u c b := by
  refine ⟨(sufK_in t.1 (Nat.le_of_lt hb.1)).2 hb.2.1, fun j s hj => ?_⟩
  rcases Nat.lt_trichotomy j h with h1 | h1 | h1
  · have := hb.2.2 j h1 ((sufK_in t.1 (Nat.le_of_lt h1)).1 s)
    omega
  · rw [h1]; exact hn
  · exact t.2 j s h1
theorem TryK.hit (t : TryK L u c h) (hc : L[h]? = some c) : MxK L (u ++ [c]) (h + 1) := by
  refine ⟨sufK_snoc.2 ⟨t.1, hc⟩, fun j s => ?_⟩
  rcases j with _ | j
  · omega
  · obtain ⟨h1, h2⟩ := sufK_snoc.1 s
    rcases Nat.lt_or_ge h j with h3 | h3
    · exact absurd h2 (t.2 j h1 h3)
    · omega
theorem TryK.none_ (t : TryK L u c 0) (hc : L[0]? ≠ some c) : MxK L (u ++ [c]) 0 := by
  refine ⟨sufK_zero, fun j s => ?_⟩
  rcases j with _ | j
  · omega
  · obtain ⟨h1, h2⟩ := sufK_snoc.1 s
    rcases Nat.eq_zero_or_pos j with h3 | h3
    · rw [h3] at h2; exact absurd h2 hc
    · exact absurd h2 (t.2 j h1 h3)
theorem MxK.border {n : Nat} (h : MxK L ((L.take n).drop 1) b) (hn : 1 ≤ n) (hl : n ≤ L.length) : BdK L n b := by
  have h1 := h.1.len
  rw [List.length_drop, List.length_take, Nat.min_eq_left hl] at h1
  refine ⟨by omega, ⟨h.1.1, h.1.2.trans (List.drop_suffix _ _)⟩, fun j hj s => h.2 j ⟨s.1, ?_⟩⟩
  refine List.suffix_of_suffix_length_le s.2 (List.drop_suffix 1 _) ?_
  rw [List.length_drop, List.length_take, List.length_take]
  omega
theorem take_more {n : Nat} (hn : 1 ≤ n) (hl : n < L.length) : (L.take (n + 1)).drop 1 = (L.take n).drop 1 ++ [L[n]] := by
  rw [List.take_succ_eq_append_getElem hl, List.drop_append_of_le_length (by rw [List.length_take]; omega)]
theorem MxK.all (h : MxK L u k) : k = L.length ↔ L <:+ u := by
  constructor
  · intro e
    have := h.1.2
    rwa [e, List.take_length] at this
  · intro s
    have h1 := h.2 L.length ⟨Nat.le_refl _, by rw [List.take_length]; exact s⟩
    have h2 := h.1.1
    omega
end
def Pl (T L : List Int) (f q : Nat) : Prop := f ≤ q ∧ q + L.length ≤ T.length ∧ (T.drop q).take L.length = L
instance (T L : List Int) (f q : Nat) : Decidable (Pl T L f q) := by unfold Pl; infer_instance
theorem suf_place {T L : List Int} {f i : Nat} (hf : f ≤ i) (hi : i ≤ T.length) : L <:+ (T.take i).drop f ↔ L.length ≤ i ∧ Pl T L f (i - L.length) := by
  have hv : ((T.take i).drop f).length = i - f := by rw [List.length_drop, List.length_take]; omega
  have hcut : ∀ m, m ≤ i → (T.take i).drop m = (T.drop m).take (i - m) := fun m _ => by rw [List.drop_take]
  constructor
  · intro s
    have hl := s.length_le
    rw [hv] at hl
    have e := List.suffix_iff_eq_drop.1 s
    rw [hv, List.drop_drop, show f + (i - f - L.length) = i - L.length by omega, hcut _ (by omega), show i - (i - L.length) = L.length by omega] at e
    exact ⟨by omega, by omega, by omega, e.symm⟩
  · rintro ⟨h1, h2, h3, h4⟩
    refine List.suffix_iff_eq_drop.2 ?_
    rw [hv, List.drop_drop, show f + (i - f - L.length) = i - L.length by omega, hcut _ (by omega), show i - (i - L.length) = L.length by omega, h4]
theorem take_grow {T : List Int} {f i : Nat} (hf : f ≤ i) (hi : i < T.length) : (T.take (i + 1)).drop f = (T.take i).drop f ++ [T[i]] := by
  rw [List.take_succ_eq_append_getElem hi, List.drop_append_of_le_length (by rw [List.length_take]; omega)]
end Go.Proofs.YtaapbmdojkjphaaGreat
namespace Go.Proofs.YtaapbmdojkjphaaGreat
open Go Go.RowKit
set_option linter.unusedVariables false
set_option maxRecDepth 20000
def FinM (B : Nat) (L : ByteArray) (tab : Nat → Nat) (h : Nat) (w : World) : Prop :=
  w.heap[B]? = some (.cells #[.string L] 9 (0, 0)) ∧ w.rowIs (B + 1) 3 (L.size + 1) (fun j => .int .i64 (tab j : Int)) ∧
  w.heap[B + 2]? = some (.cells #[.slice (some ⟨B + 1, 0, none⟩) (L.size + 1) (L.size + 1)] 46 (0, 0)) ∧ w.heap[B + 3]? = some (.cells #[.int .i64 (h : Int)] 3 (0, 0))
def Sole (b : Nat) (w w' : World) : Prop := Below b w w' ∧ w'.heap.size = w.heap.size ∧ ∀ k, k ≠ b → w'.heap[k]? = w.heap[k]?
theorem Sole.refl (b : Nat) (w : World) : Sole b w w := ⟨Below.refl _ _, rfl, fun _ _ => rfl⟩
theorem Sole.set {b : Nat} {w w' : World} (h : Sole b w w') (v : Value) : Sole b w (w'.setCell ⟨b, 0, none⟩ v) :=
  ⟨h.1.setCell (p := ⟨b, 0, none⟩) (Nat.le_refl _) v, by simp [h.2.1], fun k hk => (Below.heap_setCell _ _ _ _ hk).trans (h.2.2 k hk)⟩
section
variable {B : Nat} {L : ByteArray} {tab : Nat → Nat} {h : Nat} {w w' : World}
theorem FinM.keep (m : FinM B L tab h w) (hk : ∀ k, B ≤ k → k ≤ B + 3 → w'.heap[k]? = w.heap[k]?) : FinM B L tab h w' :=
  ⟨(hk B (Nat.le_refl _) (by omega)).trans m.1, m.2.1.of_block (hk _ (by omega) (by omega)), (hk _ (by omega) (by omega)).trans m.2.2.1, (hk _ (by omega) (Nat.le_refl _)).trans m.2.2.2⟩
theorem FinM.lt (m : FinM B L tab h w) : B + 3 < w.heap.size := (Array.getElem?_eq_some_iff.1 m.2.2.2).1
theorem FinM.below {D : Nat} (m : FinM B L tab h w) (hb : Below D w w') (hD : B + 3 < D) : FinM B L tab h w' :=
  m.keep fun k _ hk => hb.block k (by omega)
theorem FinM.set (m : FinM B L tab h w) (h' : Nat) : FinM B L tab h' (w.setCell ⟨B + 3, 0, none⟩ (.int .i64 (h' : Int))) :=
  ⟨(Below.heap_setCell _ _ _ _ (by simp)).trans m.1, m.2.1.of_block (Below.heap_setCell _ _ _ _ (by simp)), (Below.heap_setCell _ _ _ _ (by simp)).trans m.2.2.1, heap_setCell_same w (B + 3) 0 _ _ _ m.2.2.2⟩
theorem FinM.facts (m : FinM B L tab h w) : w.cell? ⟨B, 0, none⟩ = some (.string L) ∧ w.cell? ⟨B + 2, 0, none⟩ = some (.slice (some ⟨B + 1, 0, none⟩) (L.size + 1) (L.size + 1)) ∧ w.cell? ⟨B + 3, 0, none⟩ = some (.int .i64 (h : Int)) ∧ w.frozen? ⟨B + 3, 0, none⟩ = false :=
  ⟨cell_of_row w B 0 _ _ (0, 0) m.1, cell_of_row w (B + 2) 0 _ _ (0, 0) m.2.2.1, cell_of_row w (B + 3) 0 _ _ (0, 0) m.2.2.2, by simp [World.frozen?, m.2.2.2]⟩
theorem FinM.at_ (m : FinM B L tab h w) {k : Nat} (hk : k ≤ L.size) : w.cell? ⟨B + 1, k, none⟩ = some (.int .i64 (tab k : Int)) := m.2.1.cell (by omega)
end
theorem nums_none {L : ByteArray} {k : Nat} (h : L.size ≤ k) : (nums L)[k]? = none := List.getElem?_eq_none (by rw [nums_length]; exact h)
theorem nums_some {L : ByteArray} {k : Nat} (h : k < L.size) : ∃ x, (nums L)[k]? = some x ∧ 0 ≤ x ∧ x < 256 ∧ ∀ w : World, (Instr.index 9 (.string L) (.int .i64 (k : Int))).run Tryz.prog w = .ok (.int .u8 x) w := by
  have hl : k < (nums L).length := by rw [nums_length]; exact h
  refine ⟨(nums L)[k], List.getElem?_eq_getElem hl, (nums_byte L _ (List.getElem_mem hl)).1, (nums_byte L _ (List.getElem_mem hl)).2, fun w => ?_⟩
  have := idx_at L k h w
  rwa [show (nums L).getD k 0 = (nums L)[k] by simp [List.getD, hl]] at this
def haveOf (B : Nat) (w : World) : Nat := match w.cell? ⟨B + 3, 0, none⟩ with
  | some v => (intOf v).toNat
  | none => 0
theorem haveOf_eq {B : Nat} {L : ByteArray} {tab : Nat → Nat} {h : Nat} {w : World} (m : FinM B L tab h w) : haveOf B w = h := by
  unfold haveOf
  rw [m.facts.2.2.1]
  simp [intOf]
set_option maxHeartbeats 4000000 in
theorem fends_any {B : Nat} {L : ByteArray} {tab : Nat → Nat} {h : Nat} {u : List Int} (c : Int) (w : World) (m : FinM B L tab h w) (hm : MxK (nums L) u h) (ht : ∀ k, 0 < k → k ≤ h → BdK (nums L) k (tab k)) (hL : L.size ≤ 100000) :
    Calls Tryz.prog 109 #[.int .u8 c, .pointer (some ⟨B + 3, 0, none⟩), .pointer (some ⟨B, 0, none⟩), .pointer (some ⟨B + 2, 0, none⟩)] w fun e w' =>
      ∃ h' : Nat, e = .returned (.bool (decide (h' = L.size))) ∧ FinM B L tab h' w' ∧ MxK (nums L) (u ++ [c]) h' ∧ h' ≤ h + 1 ∧ Sole (B + 3) w w' := by
  have HM := Lib.hid m
  have HT := Lib.hid (And.intro hm ht)
  have hLi : (L.size : Int) ≤ 100000 := by omega
  clear m hm ht
  go_enter Tryz.func109, Tryz.ntmps109
  go_wp2_with fail
  go_loopw [] (fun wr => ∃ k : Nat, k ≤ h ∧ Hid (FinM B L tab k wr ∧ TryK (nums L) u c k ∧ Sole (B + 3) w wr)) (fun wr => haveOf B wr)
  case atStart => exact ⟨h, Nat.le_refl _, Lib.hid ⟨HM.out, HT.out.1.try_, Sole.refl _ _⟩⟩
  case round =>
    obtain ⟨k, hkh, H⟩ := hrel
    have hkl : k ≤ L.size := by have := H.out.2.1.1.1; rwa [nums_length] at this
    obtain ⟨c0, c2, c3, f3⟩ := H.out.1.facts
    have c1 := H.out.1.at_ hkl
    have hk0 : (0 : Int) ≤ (k : Int) := by omega
    have hk1 : (k : Int) < (L.size : Int) + 1 := by omega
    by_cases hit : (nums L)[k]? = some c
    · have hlt : k < L.size := by
        rcases Nat.lt_or_ge k L.size with h1 | h1
        · exact h1
        · rw [nums_none h1] at hit; cases hit
      obtain ⟨x, hx, _, _, hidx⟩ := nums_some hlt
      rw [hx] at hit
      injection hit with hit
      subst hit
      have hkL : (k : Int) < (L.size : Int) := by omega
      have hkN : ¬ (k : Int) = (L.size : Int) := by omega
      have HX := Lib.hid (And.intro hx (And.intro hlt hkh))
      clear hx hlt hkh hkl
      have hk9 : (k : Int) ≤ 100000 := by omega
      have hdec : ((k : Int) + 1 == (L.size : Int)) = decide (k + 1 = L.size) := by rw [Bool.eq_iff_iff]; simp; omega
      have HD := Lib.hid hdec
      clear hdec
      rcases Nat.eq_zero_or_pos k with h0 | h0
      · have hk2 : ¬ (0 : Int) < (k : Int) := by omega
        have H0 := Lib.hid h0
        clear h0
        go_wp2
        go_ret
        exact ⟨k + 1, by rw [HD.out]; rfl, H.out.1.set (k + 1), H.out.2.1.hit HX.out.1, by have := HX.out.2.2; omega, H.out.2.2.set _⟩
      · have hk2 : (0 : Int) < (k : Int) := by omega
        go_wp2
        go_ret
        exact ⟨k + 1, by rw [HD.out]; rfl, H.out.1.set (k + 1), H.out.2.1.hit HX.out.1, by have := HX.out.2.2; omega, H.out.2.2.set _⟩
    · have HX := Lib.hid (And.intro hit hkh)
      rcases Nat.eq_zero_or_pos k with h0 | h0
      · have hk2 : ¬ (0 : Int) < (k : Int) := by omega
        have HE : Hid (MxK (nums L) (u ++ [c]) k) := by
          subst h0
          exact Lib.hid (H.out.2.1.none_ hit)
        have hdec : ((k : Int) == (L.size : Int)) = decide (k = L.size) := by rw [Bool.eq_iff_iff]; simp; omega
        have HD := Lib.hid hdec
        clear h0 hdec
        rcases Nat.lt_or_ge k L.size with hlt | hge
        · obtain ⟨x, hx, _, _, hidx⟩ := nums_some hlt
          have hkL : (k : Int) < (L.size : Int) := by omega
          have hkN : ¬ (k : Int) = (L.size : Int) := by omega
          have hxc : ¬ x = c := fun e => hit (by rw [hx, e])
          clear hx hlt hkh hkl hit
          go_wp2
          go_ret
          exact ⟨k, by first | (rw [HD.out]; rfl) | (have := HD.out; simp_all), H.out.1, HE.out, by have := HX.out.2; omega, H.out.2.2⟩
        · obtain rfl : k = L.size := by omega
          have hkL : ¬ (L.size : Int) < (L.size : Int) := by omega
          clear hkh hkl hit hge
          go_wp2
          go_ret
          exact ⟨L.size, by first | (rw [HD.out]; rfl) | (have := HD.out; simp_all), H.out.1, HE.out, by have := HX.out.2; omega, H.out.2.2⟩
      · have hk2 : (0 : Int) < (k : Int) := by omega
        have hbd := HT.out.2 k h0 hkh
        have HE := Lib.hid (And.intro hbd (And.intro (H.out.2.1.next hit hbd) (And.intro (H.out.1.set (tab k)) (H.out.2.2.set (.int .i64 (tab k : Int))))))
        clear hbd
        rcases Nat.lt_or_ge k L.size with hlt | hge
        · obtain ⟨x, hx, _, _, hidx⟩ := nums_some hlt
          have hkL : (k : Int) < (L.size : Int) := by omega
          have hkN : ¬ (k : Int) = (L.size : Int) := by omega
          have hxc : ¬ x = c := fun e => hit (by rw [hx, e])
          have hb1 : ((k : Int) == (L.size : Int)) = false := by simp; omega
          have hb2 : (x == c) = false := by simp [hxc]
          have hb3 : (x != c) = true := by simp [hxc]
          clear hx hlt hkh hkl hit h0
          go_wp2
          refine ⟨⟨tab k, by have := HX.out.2; have := HE.out.1.1; omega, Lib.hid ⟨HE.out.2.2.1, HE.out.2.1, HE.out.2.2.2⟩⟩, ?_⟩
          rw [haveOf_eq HE.out.2.2.1, haveOf_eq H.out.1]
          exact HE.out.1.1
        · have hkL : ¬ (k : Int) < (L.size : Int) := by omega
          have hb1 : ((k : Int) == (L.size : Int)) = true := by simp; omega
          clear hkh hkl hit hge h0
          go_wp2
          refine ⟨⟨tab k, by have := HX.out.2; have := HE.out.1.1; omega, Lib.hid ⟨HE.out.2.2.1, HE.out.2.1, HE.out.2.2.2⟩⟩, ?_⟩
          rw [haveOf_eq HE.out.2.2.1, haveOf_eq H.out.1]
          exact HE.out.1.1
end Go.Proofs.YtaapbmdojkjphaaGreat
namespace Go.Proofs.YtaapbmdojkjphaaGreat
open Go Go.RowKit
set_option linter.unusedVariables false
set_option maxRecDepth 20000
theorem FinM.setTab {B : Nat} {L : ByteArray} {tab : Nat → Nat} {h : Nat} {w : World} (m : FinM B L tab h w) (i v : Nat) : FinM B L (fun j => if j = i then v else tab j) h (w.setCell ⟨B + 1, i, none⟩ (.int .i64 (v : Int))) :=
  ⟨(Below.heap_setCell _ _ _ _ (by simp)).trans m.1, (m.2.1.set i (.int .i64 (v : Int))).congr fun j _ => by by_cases e : j = i <;> simp [e], (Below.heap_setCell _ _ _ _ (by simp)).trans m.2.2.1, (Below.heap_setCell _ _ _ _ (by simp)).trans m.2.2.2⟩
theorem FinM.facts1 {g : Nat} {L : ByteArray} {tab : Nat → Nat} {h : Nat} {w : World} (m : FinM g L tab h w) : w.cell? ⟨g, 0, none⟩ = some (.string L) ∧ w.cell? ⟨g + 1 + 1, 0, none⟩ = some (.slice (some ⟨g + 1, 0, none⟩) (L.size + 1) (L.size + 1)) ∧ w.cell? ⟨g + 1 + 1 + 1, 0, none⟩ = some (.int .i64 (h : Int)) ∧ w.frozen? ⟨g + 1 + 1 + 1, 0, none⟩ = false := m.facts
theorem bdK_one {L : List Int} : BdK L 1 0 := ⟨by omega, sufK_zero, fun j h _ => by omega⟩
def FinN (B : Nat) (L : ByteArray) (w : World) (e : Ending) (w' : World) : Prop :=
  e = .returned (.func (.func 109) #[] #[.pointer (some ⟨B + 3, 0, none⟩), .pointer (some ⟨B, 0, none⟩), .pointer (some ⟨B + 2, 0, none⟩)]) ∧
  ∃ tab : Nat → Nat, FinM B L tab 0 w' ∧ (∀ k, 0 < k → k ≤ L.size → BdK (nums L) k (tab k)) ∧ Below B w w' ∧ w'.heap.size = B + 4
theorem info_intL : (Tryz.prog.info? 3).map (fun i => (i.zero, i.size, i.bytes)) = some (some (.int .i64 0), 1, 8) := by kernel_rfl
set_option maxHeartbeats 4000000 in
theorem finder_any (L : ByteArray) (w : World) (hL : L.size ≤ 100000) : Calls Tryz.prog 81 #[.string L] w (FinN w.heap.size L w) := by
  have hmk := run_make_row' (P := Tryz.prog) 46 3 (.int .i64 0) 8 Tryz.underlying46 info_intL rfl .i64 .i64 (L.size + 1) (by omega) (by omega)
  rw [show ((L.size + 1 : Nat) : Int) = (L.size : Int) + 1 by omega] at hmk
  have hLi : (L.size : Int) ≤ 100000 := by omega
  have hr0 := World.rowIs_made (w.alloc (.cells #[.string L] 9)) (.int .i64 0) (L.size + 1) 3
  obtain ⟨B, hB⟩ : ∃ B, B = w.heap.size := ⟨_, rfl⟩
  rw [show (w.alloc (.cells #[.string L] 9)).heap.size = w.heap.size + 1 by simp] at hr0
  obtain ⟨M, hM⟩ : ∃ M, M = madeCells #[Value.int .i64 0] (L.size + 1) := ⟨_, rfl⟩
  rw [← hM] at hmk hr0
  have HR := Lib.hid (And.intro hr0 hM)
  have HBe := Lib.hid hB
  clear hr0 hM
  rw [← hB]
  go_enter Tryz.func81, Tryz.ntmps81
  go_wp2_with fail
  go_loopw [5] (fun v5 wr => ∃ n : Nat, v5 = .int .i64 (n : Int) ∧ 1 ≤ n ∧ (n ≤ L.size ∨ n = 1) ∧ Hid (∃ (tab : Nat → Nat) (h : Nat), FinM B L tab h wr ∧ MxK (nums L) (((nums L).take n).drop 1) h ∧ (∀ k, 0 < k → k ≤ n → k ≤ L.size → BdK (nums L) k (tab k)) ∧ Below B w wr ∧ wr.heap.size = B + 4)) (fun v5 _ => L.size - (intOf v5).toNat)
  case atStart =>
    subst hB
    refine ⟨1, rfl, Nat.le_refl _, .inr rfl, Lib.hid ⟨fun _ => 0, 0, ⟨?_, ?_, ?_, ?_⟩, ?_, ?_, ?_, ?_⟩⟩
    · exact at_up (at_up (at_up (at_new w _ rfl) _) _) _
    · exact ((HR.out.1.congr fun _ _ => rfl).alloc _).alloc _
    · exact at_up (at_new _ _ (by simp)) _
    · exact at_new _ _ (by simp)
    · rw [List.drop_eq_nil_of_le (by rw [List.length_take]; omega)]
      exact mxK_nil
    · intro k h1 h2 _
      obtain rfl : k = 1 := by omega
      exact bdK_one
    · exact ((((Below.refl _ w).alloc (Nat.le_refl _) _).alloc (by simp) _).alloc (by simp; omega) _).alloc (by simp; omega) _
    · simp
  case round =>
    obtain ⟨n, rfl, hn1, hn2, H⟩ := hrel
    obtain ⟨tab, h, hF, hM, hT, hb, hs⟩ := H.out
    rw [hB] at hF hb hs
    obtain ⟨c0, c2, c3, f3⟩ := hF.facts1
    by_cases hlt : n < L.size
    · obtain ⟨x, hx, _, _, hidx⟩ := nums_some hlt
      have hhl : h ≤ n - 1 := by
        have := hM.1.len
        rw [List.length_drop, List.length_take] at this
        omega
      have HC := Lib.hid (fends_any x wr hF hM (fun k h1 h2 => hT k h1 (by omega) (by omega)) hL)
      have f1 : ∀ i, wr.frozen? ⟨w.heap.size + 1, i, none⟩ = false := fun i => hF.2.1.frozen i
      have hnL : (n : Int) < (L.size : Int) := by omega
      have hn0 : (0 : Int) ≤ (n : Int) := by omega
      have hn3 : (n : Int) + 1 < (L.size : Int) + 1 := by omega
      have hn4 : (0 : Int) ≤ (n : Int) + 1 := by omega
      have hn5 : ((n : Int) + 1).toNat = n + 1 := by omega
      have hw1 : IntKind.i64.wrap ((n : Int) + 1) = (n : Int) + 1 := by rw [IntKind.wrap_i64]; omega
      have HX := Lib.hid (And.intro hx (And.intro hlt hhl))
      have HH := Lib.hid (And.intro hn1 (And.intro hM (And.intro hT (And.intro hb hs))))
      clear hF hM hT hb hs hx hlt hhl hn1 hn2 c3 f3 H
      go_wp2_with (go_at_call 109; (with_reducible refine HC.out.mono ?_); rintro e w1 ⟨h', rfl, hF1, hM1, hh1, hso⟩; obtain ⟨d0, d2, d3, g3⟩ := hF1.facts1; have g1 : ∀ i, w1.frozen? ⟨w.heap.size + 1, i, none⟩ = false := (fun i => hF1.2.1.frozen i); have d1 := hF1.at_ (k := n + 1) HX.out.2.1; have H1 := Lib.hid (And.intro hF1 (And.intro hM1 (And.intro hh1 hso))); clear hF1 hM1 hh1 hso)
      have hlt := HX.out.2.1
      refine ⟨⟨n + 1, rfl, by omega, .inl hlt, Lib.hid ⟨fun j => if j = n + 1 then h' else tab j, h', ?_, ?_, ?_, ?_, ?_⟩⟩, by simp [intOf]; omega⟩
      · rw [hB]; exact H1.out.1.setTab (n + 1) h'
      · have hnl : n < (nums L).length := by rw [nums_length]; exact hlt
        rw [take_more HH.out.1 hnl, show (nums L)[n] = x from Option.some.inj ((List.getElem?_eq_getElem hnl).symm.trans HX.out.1)]
        exact H1.out.2.1
      · intro k h1 h2 h3
        show BdK (nums L) k (if k = n + 1 then h' else tab k)
        by_cases e : k = n + 1
        · rw [if_pos e, e]
          have hnl : n < (nums L).length := by rw [nums_length]; exact hlt
          refine MxK.border ?_ (by omega) (by omega)
          rw [take_more HH.out.1 hnl, show (nums L)[n] = x from Option.some.inj ((List.getElem?_eq_getElem hnl).symm.trans HX.out.1)]
          exact H1.out.2.1
        · rw [if_neg e]
          exact HH.out.2.2.1 k h1 (by omega) h3
      · rw [hB]
        exact (HH.out.2.2.2.1.trans (H1.out.2.2.2.1.mono (by omega))).setCell (p := ⟨w.heap.size + 1, n + 1, none⟩) (by simp) _
      · have := H1.out.2.2.2.2.1
        have := HH.out.2.2.2.2
        simp [hB]; omega
    · have hnL : ¬ (n : Int) < (L.size : Int) := by omega
      have HH := Lib.hid (And.intro (hF.set 0) (And.intro hT (And.intro (hb.setCell (p := ⟨w.heap.size + 3, 0, none⟩) (by simp) (.int .i64 ((0 : Nat) : Int))) (And.intro hs hn2))))
      clear hF hM hT hb hs H
      go_wp2
      go_ret
      try (unfold FinN; rw [hB])
      refine ⟨rfl, tab, HH.out.1, fun k h1 h2 => HH.out.2.1 k h1 ?_ h2, HH.out.2.2.1, by have := HH.out.2.2.2.1; simp; omega⟩
      have h5 := HH.out.2.2.2.2
      have h6 : ¬ n < L.size := by omega
      omega
end Go.Proofs.YtaapbmdojkjphaaGreat
namespace Go.Proofs.YtaapbmdojkjphaaGreat
open Go Go.RowKit Go.Shelf
set_option linter.unusedVariables false
def KpB (b : Nat) (W W' : World) : Prop := W.heap.size ≤ W'.heap.size ∧ ∀ k cs t f, k ≠ b → W.heap[k]? = some (.cells cs t f) → W'.heap[k]? = W.heap[k]?
theorem KpB.trans {b : Nat} {A B C : World} (h : KpB b A B) (k : KpB b B C) : KpB b A C :=
  ⟨Nat.le_trans h.1 k.1, fun i cs t f hi hc => by
    have e := h.2 i cs t f hi hc
    exact (k.2 i cs t f hi (e.trans hc)).trans e⟩
theorem KpB.put {b l : Nat} {W : World} {o : Obj} (o' : Obj) (h : W.heap[l]? = some o) (hc : o.isCells = false) : KpB b W (W.putObj l o') :=
  ⟨by simp, fun k cs t f _ hk => World.putObj_heap_other (by rintro rfl; rw [h] at hk; injection hk with hk; subst hk; cases hc)⟩
theorem KpB.set {b : Nat} {W : World} (v : Value) : KpB b W (W.setCell ⟨b, 0, none⟩ v) := ⟨by simp, fun k _ _ _ hk _ => Below.heap_setCell _ _ _ _ hk⟩
theorem below_put {B l : Nat} {W : World} {o : Obj} (o' : Obj) (h : W.heap[l]? = some o) (hB : B ≤ l) : Below B W (W.putObj l o') :=
  ⟨rfl, rfl, rfl, by simp, fun k hk => World.putObj_heap_other (by omega)⟩
def postB (b : Nat) (I Ix : World → Prop) (W : World) : Exit → Act → World → Prop
  | .normal, _, W' => KeepsOthers W W' ∧ KpB b W W' ∧ I W'
  | .ret, _, W' => KeepsOthers W W' ∧ Ix W'
  | _, _, _ => False
def YieldB (F : Fence) (n : Nat) (P : Program) (l b : Nat) (Pr : Nat → Prop) (J Jx : Nat → World → Prop) : Prop :=
  ∀ q W, J q W → Pr q → YieldAt F n P l #[.int .i64 (q : Int)] W fun e W' => (e = .returned (.bool true) ∧ J (q + 1) W' ∧ KpB b W W') ∨ (e = .returned (.bool false) ∧ Jx q W')
def SeqB (F : Fence) (n : Nat) (P : Program) (g : Nat) (lb : Array Value) (b : Nat) (Pr : Nat → Prop) (f0 : Nat) (w : World) : Prop :=
  ∀ (l : Nat) (J Jx : Nat → World → Prop) (W : World), Below w.heap.size w W → (∀ q A B, J q A → Below W.heap.size A B → J q B) → (∀ q A, J q A → ¬ Pr q → J (q + 1) A) →
    YieldB F (n - 1) P l b Pr J Jx → J f0 W →
    CallsIn F n P g (#[.func (.yield l) #[] #[]] ++ lb) W fun e W' => (∃ v, e = .returned v) ∧ ((∃ q, (∀ p, q ≤ p → ¬ Pr p) ∧ J q W') ∨ ∃ q, Pr q ∧ Jx q W')
theorem range_law {F : Fence} {n : Nat} {P : Program} {g : Operand} {ps : Array Tmp} {assign body : Code} {Q : Exit → Act → World → Prop} {a : Act} {w : World}
    (hro : F.round = none) (h1 : 1 ≤ n) {gf : Nat} {lb : Array Value} (hg : a.eval g = .func (.func gf) #[] lb) (hFg : F.fn gf) (eg : ∀ args w, (callFunc gf args).run P w = .ok (.enter gf args) w) (hps : ps.size = 1)
    {b f0 : Nat} {Pr : Nat → Prop} (hseq : SeqB F (n - 1) P gf lb b Pr f0 w)
    (I Ix : Nat → World → Prop) (hI : ∀ q A B, I q A → Below w.heap.size A B → I q B) (hIx : ∀ q A B, Ix q A → Below w.heap.size A B → Ix q B) (hskip : ∀ q A, I q A → ¬ Pr q → I (q + 1) A) (h0 : I f0 w) (a1 : Nat → Act)
    (hassign : ∀ (l q : Nat) (W : World) (K : Act → World → Prop), K (a1 q) W →
      assign.wpIn (F.inRound l) (n - 1 - 1) P (Exit.then K (fun _ _ _ => False)) { tmps := (ps.zip #[Value.int .i64 (q : Int)]).foldl (fun t (p, v) => t.setIfInBounds p v) a.tmps, defers := [] } W)
    (hbody : ∀ (l q : Nat) (W : World), I q W → Pr q → body.wpIn (F.inRound l) (n - 1 - 1) P (postB b (I (q + 1)) (Ix q) W) (a1 q) W)
    (hdone : ∀ (D q : Nat) (W : World), w.heap.size ≤ D → (∀ p, q ≤ p → ¬ Pr p) → I q W → W.heap[D]? = some (.deferred (some [])) → Q .normal { a with defers := { target := .collected D, args := #[] } :: a.defers } W)
    (hstop : ∀ (D q : Nat) (W : World), w.heap.size ≤ D → Pr q → Ix q W → W.heap[D]? = some (.deferred (some [])) → Code.ret.wpIn F n P Q { a with defers := { target := .collected D, args := #[] } :: a.defers } W) :
    (Code.rangeFunc g ps assign body).wpIn F n P Q a w := by
  apply wpIn_rangeFunc
  intro fn hfn
  rw [hro]
  generalize hd : w.heap.size = d at *
  let R : LoopState → Option Code → Obj := fun s j => .loop { state := s, pending := j, fn, tmps := a.tmps, params := ps, assign, body, defers := d }
  let W1 := (w.alloc (.deferred (some []))).alloc (R .ready none)
  have z1 : W1.heap.size = d + 2 := by simp [W1, hd]
  have l1 : W1.heap[d + 1]? = some (R .ready none) := at_new _ _ (by simp [hd])
  have d1 : W1.heap[d]? = some (.deferred (some [])) := at_up (at_new w _ hd.symm) _
  have b1 : Below d w W1 := ((Below.refl d w).alloc (by omega) _).alloc (by simp; omega) _
  refine ⟨d + 1, [{ target := .collected d, args := #[] }], W1, ⟨.fn (.func gf) lb, #[.func (.yield (d + 1)) #[] #[]]⟩, W1, gf, #[.func (.yield (d + 1)) #[] #[]] ++ lb, W1, ?_, ?_, ?_, ?_, fun _ => h1, ?_⟩
  · have := run_enterLoop_outer (P := P) (w := w) fn a.tmps ps assign body
    rwa [hd] at this
  · simp only [resolve, hg]
    simp [go_sem]
  · intro f' hf'
    simp [Target.leads] at hf'
    exact hf' ▸ hFg
  · simp [invoke, go_sem, eg]
  have hround : YieldB F (n - 1 - 1) P (d + 1) b Pr (fun q W => I q W ∧ W.heap[d + 1]? = some (R .ready none) ∧ W.heap[d]? = some (.deferred (some []))) (fun q W => Ix q W ∧ W.heap[d + 1]? = some (R .done (some .ret)) ∧ W.heap[d]? = some (.deferred (some []))) := by
    intro q W ⟨hi, hl, hk⟩ hp
    refine ⟨fn, _, assign, body, run_yield hl (by simpa using hps.symm), roundIn_of_wpIn hfn (hassign _ q W _ ?_)⟩
    have hlt : d + 1 < W.heap.size := (Array.getElem?_eq_some_iff.1 hl).1
    refine ⟨_, run_beginRound hl rfl, ?_⟩
    have l2 : (W.putObj (d + 1) (R .busy none)).heap[d + 1]? = some (R .busy none) := World.putObj_heap_same hlt
    have k2 : (W.putObj (d + 1) (R .busy none)).heap[d]? = some (.deferred (some [])) := (World.putObj_heap_other (by omega)).trans hk
    refine wpIn_mono (hbody _ q _ (hI q _ _ hi (below_put _ hl (by omega))) hp) fun e a3 W3 hp3 => ?_
    cases e with
    | normal =>
      obtain ⟨ho, hkp, hi3⟩ := hp3
      have l3 := ho.same _ _ l2 rfl
      refine ⟨_, _, run_endRound none l3, .inl ⟨rfl, ⟨hI _ _ _ hi3 (below_put _ l3 (by omega)), World.putObj_heap_same (Array.getElem?_eq_some_iff.1 l3).1, (World.putObj_heap_other (by omega)).trans (ho.same _ _ k2 rfl)⟩, ((KpB.put _ hl rfl).trans hkp).trans (KpB.put _ l3 rfl)⟩⟩
    | ret =>
      obtain ⟨ho, hi3⟩ := hp3
      have l3 := ho.same _ _ l2 rfl
      exact ⟨_, _, run_endRound (some .ret) l3, .inr ⟨rfl, hIx _ _ _ hi3 (below_put _ l3 (by omega)), World.putObj_heap_same (Array.getElem?_eq_some_iff.1 l3).1, (World.putObj_heap_other (by omega)).trans (ho.same _ _ k2 rfl)⟩⟩
    | exit _ => exact hp3.elim
    | goto _ => exact hp3.elim
    | panic _ => exact hp3.elim
    | outgrown => exact hp3.elim
  have hcall := hseq (d + 1) _ _ W1 (by rw [hd]; exact b1)
    (fun q A B h hb => ⟨hI q A B h.1 (hb.mono (by omega)), (hb.block _ (by omega)).trans h.2.1, (hb.block _ (by omega)).trans h.2.2⟩)
    (fun q A h hp => ⟨hskip q A h.1 hp, h.2⟩) hround ⟨hI _ _ _ h0 b1, l1, d1⟩
  refine hcall.mono ?_
  rintro e W2 ⟨⟨v, rfl⟩, ⟨q, hq, hi, hl, hk⟩ | ⟨q, hq, hi, hl, hk⟩⟩
  · exact ⟨none, _, run_endLoop hl (by simp), hdone _ q _ (Nat.le_refl _) hq (hI _ _ _ hi (below_put _ hl (by omega))) ((World.putObj_heap_other (by omega)).trans hk)⟩
  · exact ⟨some .ret, _, run_endLoop hl (by simp), hstop _ q _ (Nat.le_refl _) hq (hIx _ _ _ hi (below_put _ hl (by omega))) ((World.putObj_heap_other (by omega)).trans hk)⟩
end Go.Proofs.YtaapbmdojkjphaaGreat
namespace Go.Proofs.YtaapbmdojkjphaaGreat
open Go Go.RowKit Go.Shelf
set_option linter.unusedVariables false
set_option maxRecDepth 20000
attribute [local go_sem] Oper.semAt_some
theorem lplaces_any (T L : ByteArray) (a : Int) (f : Nat) (hf : max a 0 = (f : Int)) (w : World) :
    Calls Tryz.prog 47 #[.string T, .string L, .int .i64 a] w fun e w' =>
      e = .returned (.func (.func 80) #[] #[.pointer (some ⟨w.heap.size + 1, 0, none⟩), .pointer (some ⟨w.heap.size, 0, none⟩), .pointer (some ⟨w.heap.size + 1 + 1, 0, none⟩)]) ∧
      ((w.alloc (.cells #[.string T] 9)).alloc (.cells #[.string L] 9)).alloc (.cells #[.int .i64 (f : Int)] 3) = w' := by
  go_enter Tryz.func47, Tryz.ntmps47
  go_wp2
  go_ret
  exact ⟨rfl, rfl⟩
def qAt (f n i : Nat) : Nat := max f (i + 1 - n)
def SeqM (g : Nat) (T L : ByteArray) (f : Nat) (w : World) : Prop :=
  w.heap[g]? = some (.cells #[.string T] 9 (0, 0)) ∧ w.heap[g + 1]? = some (.cells #[.string L] 9 (0, 0)) ∧ w.heap[g + 1 + 1]? = some (.cells #[.int .i64 (f : Int)] 3 (0, 0))
section
variable {g : Nat} {T L : ByteArray} {f : Nat} {w w' : World}
theorem SeqM.keep (m : SeqM g T L f w) (hk : ∀ k, g ≤ k → k ≤ g + 1 + 1 → w'.heap[k]? = w.heap[k]?) : SeqM g T L f w' :=
  ⟨(hk _ (Nat.le_refl _) (by omega)).trans m.1, (hk _ (by omega) (by omega)).trans m.2.1, (hk _ (by omega) (Nat.le_refl _)).trans m.2.2⟩
theorem SeqM.lt (m : SeqM g T L f w) : g + 1 + 1 < w.heap.size := (Array.getElem?_eq_some_iff.1 m.2.2).1
theorem SeqM.below {D : Nat} (m : SeqM g T L f w) (hb : Below D w w') (hD : g + 1 + 1 < D) : SeqM g T L f w' := m.keep fun k _ hk => hb.block k (by omega)
theorem SeqM.kp {b : Nat} (m : SeqM g T L f w) (hk : KpB b w w') (hb : b < g) : SeqM g T L f w' :=
  ⟨(hk.2 _ _ _ _ (by omega) m.1).trans m.1, (hk.2 _ _ _ _ (by omega) m.2.1).trans m.2.1, (hk.2 _ _ _ _ (by omega) m.2.2).trans m.2.2⟩
theorem SeqM.facts (m : SeqM g T L f w) : w.cell? ⟨g, 0, none⟩ = some (.string T) ∧ w.cell? ⟨g + 1, 0, none⟩ = some (.string L) ∧ w.cell? ⟨g + 1 + 1, 0, none⟩ = some (.int .i64 (f : Int)) :=
  ⟨cell_of_row w g 0 _ _ (0, 0) m.1, cell_of_row w (g + 1) 0 _ _ (0, 0) m.2.1, cell_of_row w (g + 1 + 1) 0 _ _ (0, 0) m.2.2⟩
end
theorem FinM.kp {B b : Nat} {L : ByteArray} {tab : Nat → Nat} {h : Nat} {w w' : World} (m : FinM B L tab h w) (hk : KpB b w w') (hb : b < B) : FinM B L tab h w' := by
  obtain ⟨cs, e, _⟩ := m.2.1
  exact ⟨(hk.2 _ _ _ _ (by omega) m.1).trans m.1, m.2.1.of_block (hk.2 _ _ _ _ (by omega) e), (hk.2 _ _ _ _ (by omega) m.2.2.1).trans m.2.2.1, (hk.2 _ _ _ _ (by omega) m.2.2.2).trans m.2.2.2⟩
theorem no_more {T L : ByteArray} {f p : Nat} (h : T.size < p + L.size) : ¬ Pl (nums T) (nums L) f p := by
  rintro ⟨_, h2, _⟩
  rw [nums_length, nums_length] at h2
  omega
theorem qAt_next {f n i : Nat} : (qAt f n (i + 1) = qAt f n i + 1 ∧ n ≤ i + 1 ∧ f ≤ i + 1 - n ∧ qAt f n i = i + 1 - n) ∨ qAt f n (i + 1) = qAt f n i := by
  unfold qAt; omega
set_option maxHeartbeats 8000000 in
theorem lit_seq (n : Nat) (hn : 3 ≤ n) (T L : ByteArray) (f g b : Nat) (w : World) (m : SeqM g T L f w) (hb : b < g) (hT : T.size ≤ 10000) (hL : L.size ≤ 10000) (hf : f ≤ 10001) :
    SeqB Fence.wide n Tryz.prog 80 #[.pointer (some ⟨g + 1, 0, none⟩), .pointer (some ⟨g, 0, none⟩), .pointer (some ⟨g + 1 + 1, 0, none⟩)] b (Pl (nums T) (nums L) f) f w := by
  intro l J Jx W hW hJ hsk hY h0
  have hm := m.below hW m.lt
  obtain ⟨D, hD⟩ : ∃ D, D = W.heap.size := ⟨_, rfl⟩
  rw [← hD] at hJ
  obtain ⟨c0, c1, c2⟩ := hm.facts
  have hlt := hm.lt
  have hTi : (T.size : Int) ≤ 10000 := by omega
  have hLi : (L.size : Int) ≤ 10000 := by omega
  have hfi : (f : Int) ≤ 10001 := by omega
  have HM := Lib.hid (And.intro hm (And.intro (show g + 1 + 1 < D by omega) h0))
  have HJ := Lib.hid (And.intro hJ (And.intro hsk hY))
  have HD := Lib.hid hD
  clear hm hlt h0 hJ hsk hY m hW hD
  refine callsIn_of_wp Tryz.func80 rfl trivial ?_ rfl
  simp only [Tryz.ntmps80, List.size_toArray, List.length_cons, List.length_nil, Nat.reduceAdd, Nat.reduceSub, Array.replicate_succ, Array.replicate_zero, List.push_toArray, List.append_toArray, List.nil_append, List.cons_append]
  by_cases hbig : (L.size : Int) > (T.size : Int) - (f : Int)
  · gi_wp2
    refine bodyPost_ret (results_none rfl _ _ _) rfl ?_
    exact ⟨⟨_, rfl⟩, .inl ⟨f, fun p hp => no_more (by omega), HM.out.2.2⟩⟩
  have HBg := Lib.hid (show f + L.size ≤ T.size by omega)
  have hlen : L.toList.length = L.size := by rw [ByteArray.toList_eq]; rfl
  have h1n : 1 ≤ n := by omega
  by_cases he : L.size = 0
  · have hemp : L.toList = [] := List.eq_nil_of_length_eq_zero (by omega)
    have hemp2 : L.toList.isEmpty = true := by rw [hemp]; rfl
    have hp : Pl (nums T) (nums L) f f := by
      refine ⟨Nat.le_refl _, by rw [nums_length, nums_length]; omega, ?_⟩
      have : nums L = [] := List.eq_nil_of_length_eq_zero (by rw [nums_length]; exact he)
      rw [this]
      rfl
    obtain ⟨fn, tmps, assign, body, hy, hR⟩ := HJ.out.2.2 f W HM.out.2.2 hp
    have HR := Lib.hid hR
    have HE := Lib.hid (And.intro he hp)
    clear hp hR he hlen
    gi_wp2
    refine HR.out.mono ?_
    rintro e W3 (⟨rfl, hJ3, hk3⟩ | ⟨rfl, hJx3⟩)
    rotate_left
    · gi_wp2
      refine bodyPost_ret (results_none rfl _ _ _) rfl ?_
      exact ⟨⟨_, rfl⟩, .inr ⟨f, HE.out.2, hJx3⟩⟩
    · have hm3 := HM.out.1.kp hk3 hb
      obtain ⟨d0, d1, d2⟩ := hm3.facts
      have HC := Lib.hid (finder_any L W3 (by omega))
      have HS := Lib.hid (And.intro hm3 (And.intro (show D ≤ W3.heap.size by have := hk3.1; have := HD.out; omega) (show J (qAt f L.size f) W3 by rw [show qAt f L.size f = f + 1 by unfold qAt; have := HE.out.1; omega]; exact hJ3)))
      clear hm3 hk3 hJ3
      gi_wp2_with (refine ⟨trivial, ?_⟩; gi_at_call 81; refine (callsIn_wide.2 HC.out).mono ?_; rintro en w4 ⟨rfl, tab, hF, ht, hb4, hs4⟩; have hm4 := HS.out.1.below hb4 HS.out.1.lt; obtain ⟨e0, e1, e2⟩ := hm4.facts; have HF := Lib.hid (And.intro hF (And.intro ht (And.intro hb4 hm4))); clear hF ht hb4 hm4)
      have HFg := Lib.hid (show g + 1 + 1 < W3.heap.size by have := HM.out.2.1; have := HS.out.2.1; have := HD.out; omega)
      obtain ⟨Wc, hWc⟩ : ∃ Wc, Wc = W3 := ⟨_, rfl⟩
      subst hWc
      gi_loopw [6] (fun v6 wr => ∃ i : Nat, v6 = .int .i64 (i : Int) ∧ f ≤ i ∧ i ≤ T.size ∧ Hid (∃ h : Nat, FinM Wc.heap.size L tab h wr ∧ MxK (nums L) (((nums T).take i).drop f) h ∧ SeqM g T L f wr ∧ J (qAt f L.size i) wr ∧ D ≤ wr.heap.size)) (fun v6 _ => T.size - (intOf v6).toNat)
      case atStart =>
        refine ⟨f, rfl, Nat.le_refl _, by have := HBg.out; omega, Lib.hid ⟨0, HF.out.1, ?_, HF.out.2.2.2, HJ.out.1 _ _ _ HS.out.2.2 (HF.out.2.2.1.mono HS.out.2.1), ?_⟩⟩
        · rw [List.drop_eq_nil_of_le (by rw [List.length_take]; omega)]
          exact mxK_nil
        · exact Nat.le_trans HS.out.2.1 HF.out.2.2.1.size
      case round =>
        obtain ⟨i, rfl, hfi1, hiT, H⟩ := hrel
        obtain ⟨h, hF, hM, hm, hJi, hDr⟩ := H.out
        obtain ⟨d0, d1, d2⟩ := hm.facts
        have hi0 : (0 : Int) ≤ (i : Int) := by omega
        by_cases hlt : i < T.size
        · obtain ⟨x, hx, _, _, hidx⟩ := nums_some hlt
          have hnl : i < (nums T).length := by rw [nums_length]; exact hlt
          have hxe : (nums T)[i] = x := Option.some.inj ((List.getElem?_eq_getElem hnl).symm.trans hx)
          have HC := Lib.hid (fends_any x wr hF hM (fun k h1 h2 => HF.out.2.1 k h1 (by have := hM.1.1; rw [nums_length] at this; omega)) (by omega))
          have hiL : (i : Int) < (T.size : Int) := by omega
          have hgr := take_grow hfi1 hnl
          rw [hxe] at hgr
          have HX := Lib.hid (And.intro hlt (And.intro hgr (And.intro hm (And.intro hJi (And.intro hDr (And.intro hfi1 hF.lt))))))
          clear hF hM hm hJi hDr hgr hlt hx hxe hnl H hiT hfi1
          gi_wp2_with (refine ⟨trivial, ?_⟩; gi_at_call 109; refine (callsIn_wide.2 HC.out).mono ?_; rintro en w1 ⟨h', rfl, hF1, hM1, _, hso⟩; obtain ⟨r, hr⟩ : ∃ r, r = decide (h' = L.size) := ⟨_, rfl⟩; rw [← hr]; have H1 := Lib.hid (And.intro hF1 (And.intro hM1 hso)); have HR1 := Lib.hid hr; have hm1 := HX.out.2.2.1.keep (w' := w1) (fun k h1 h2 => hso.2.2 k (by have := HFg.out; omega)); obtain ⟨e0, e1, e2⟩ := hm1.facts; have HM1 := Lib.hid hm1; clear hF1 hM1 hso hr hm1; cases r)
          · refine ⟨fun _ h => (by cases h), ?_⟩
            gi_wp2
            refine ⟨⟨i + 1, rfl, by have := HX.out.2.2.2.2.2.1; omega, HX.out.1, Lib.hid ⟨h', H1.out.1, by rw [HX.out.2.1]; exact H1.out.2.1, HM1.out, ?_, by have := H1.out.2.2.2.1; have := HX.out.2.2.2.2.1; omega⟩⟩, by have := HX.out.1; simp [intOf]; omega⟩
            have h1 := HJ.out.1 _ _ _ HX.out.2.2.2.1 (H1.out.2.2.1.mono (by have := HFg.out; have := HM.out.2.1; have := HS.out.2.1; omega))
            rcases qAt_next (f := f) (n := L.size) (i := i) with ⟨q1, q2, q3, q4⟩ | q1
            · rw [q1]
              refine HJ.out.2.1 _ _ h1 fun hp => ?_
              rw [q4] at hp
              have hsuf := (suf_place (T := nums T) (L := nums L) (f := f) (i := i + 1) (by have := HX.out.2.2.2.2.2.1; omega) (by rw [nums_length]; exact HX.out.1)).2 ⟨by rw [nums_length]; exact q2, by rw [nums_length]; exact hp⟩
              rw [HX.out.2.1] at hsuf
              have hh := (H1.out.2.1.all).2 hsuf
              rw [nums_length] at hh
              have := HR1.out
              simp [hh] at this
            · rw [q1]; exact h1
          · have hh : h' = L.size := by have := HR1.out; simpa using this.symm
            have hsuf := (H1.out.2.1.all).1 (by rw [nums_length]; exact hh)
            rw [← HX.out.2.1] at hsuf
            obtain ⟨hi1, hpl⟩ := (suf_place (by have := HX.out.2.2.2.2.2.1; omega) (by rw [nums_length]; exact HX.out.1)).1 hsuf
            rw [nums_length] at hi1 hpl
            have hJ1 : J (i + 1 - L.size) w1 := by
              have h1 := HJ.out.1 _ _ _ HX.out.2.2.2.1 (H1.out.2.2.1.mono (by have := HFg.out; have := HM.out.2.1; have := HS.out.2.1; omega))
              rwa [show qAt f L.size i = i + 1 - L.size by unfold qAt; have := hpl.1; omega] at h1
            obtain ⟨fn2, tmps2, assign2, body2, hy2, hR2⟩ := HJ.out.2.2 _ w1 hJ1 hpl
            rw [show ((i + 1 - L.size : Nat) : Int) = (i : Int) + 1 - (L.size : Int) by omega] at hy2
            have HR2 := Lib.hid (And.intro hR2 hpl)
            have HI1 := Lib.hid hi1
            clear hR2 hJ1 hpl hsuf hh hi1
            rw [hy2]
            gi_wp2
            refine HR2.out.1.mono ?_
            rintro e W5 (⟨rfl, hJ5, hk5⟩ | ⟨rfl, hJx5⟩)
            rotate_left
            · gi_wp2
              refine bodyPost_ret (results_none rfl _ _ _) rfl ?_
              exact ⟨⟨_, rfl⟩, .inr ⟨_, HR2.out.2, hJx5⟩⟩
            · gi_wp2
              refine ⟨⟨i + 1, rfl, by have := HX.out.2.2.2.2.2.1; omega, HX.out.1, Lib.hid ⟨h', H1.out.1.kp hk5 (by have := HFg.out; omega), by rw [HX.out.2.1]; exact H1.out.2.1, HM1.out.kp hk5 hb, ?_, by have := hk5.1; have := H1.out.2.2.2.1; have := HX.out.2.2.2.2.1; omega⟩⟩, by have := HX.out.1; simp [intOf]; omega⟩
              rwa [show qAt f L.size (i + 1) = i + 1 - L.size + 1 by unfold qAt; have h9 := HR2.out.2.1; have h8 := HR2.out.2.2.1; rw [nums_length, nums_length] at h8; have h7 := HI1.out; omega]
        · have hiL : ¬ (i : Int) < (T.size : Int) := by omega
          have HX := Lib.hid hJi
          clear hF hM hm hJi hDr H
          gi_wp2
          go_end0
          refine ⟨⟨_, rfl⟩, .inl ⟨_, fun p hp => no_more ?_, HX.out⟩⟩
          unfold qAt at hp
          omega
  · have hemp : ¬ L.toList = [] := fun h => he (by rw [← hlen, h]; rfl)
    have hemp2 : L.toList.isEmpty = false := by
      cases hc : L.toList with
      | nil => exact absurd hc hemp
      | cons _ _ => rfl
    have HE := Lib.hid he
    clear he hlen
    gi_wp2
    refine ⟨fun _ h => (by cases h), ?_⟩
    have HC := Lib.hid (finder_any L W (by omega))
    have HS := Lib.hid (And.intro HM.out.1 (And.intro (show D ≤ W.heap.size by have := HD.out; omega) (show J (qAt f L.size f) W by rw [show qAt f L.size f = f by unfold qAt; have := HE.out; omega]; exact HM.out.2.2)))
    gi_wp2_with (refine ⟨trivial, ?_⟩; gi_at_call 81; refine (callsIn_wide.2 HC.out).mono ?_; rintro en w4 ⟨rfl, tab, hF, ht, hb4, hs4⟩; have hm4 := HS.out.1.below hb4 HS.out.1.lt; obtain ⟨e0, e1, e2⟩ := hm4.facts; have HF := Lib.hid (And.intro hF (And.intro ht (And.intro hb4 hm4))); clear hF ht hb4 hm4)
    have HFg := Lib.hid (show g + 1 + 1 < W.heap.size by have := HM.out.2.1; have := HS.out.2.1; have := HD.out; omega)
    obtain ⟨Wc, hWc⟩ : ∃ Wc, Wc = W := ⟨_, rfl⟩
    subst hWc
    gi_loopw [6] (fun v6 wr => ∃ i : Nat, v6 = .int .i64 (i : Int) ∧ f ≤ i ∧ i ≤ T.size ∧ Hid (∃ h : Nat, FinM Wc.heap.size L tab h wr ∧ MxK (nums L) (((nums T).take i).drop f) h ∧ SeqM g T L f wr ∧ J (qAt f L.size i) wr ∧ D ≤ wr.heap.size)) (fun v6 _ => T.size - (intOf v6).toNat)
    case atStart =>
      refine ⟨f, rfl, Nat.le_refl _, by have := HBg.out; omega, Lib.hid ⟨0, HF.out.1, ?_, HF.out.2.2.2, HJ.out.1 _ _ _ HS.out.2.2 (HF.out.2.2.1.mono HS.out.2.1), ?_⟩⟩
      · rw [List.drop_eq_nil_of_le (by rw [List.length_take]; omega)]
        exact mxK_nil
      · exact Nat.le_trans HS.out.2.1 HF.out.2.2.1.size
    case round =>
      obtain ⟨i, rfl, hfi1, hiT, H⟩ := hrel
      obtain ⟨h, hF, hM, hm, hJi, hDr⟩ := H.out
      obtain ⟨d0, d1, d2⟩ := hm.facts
      have hi0 : (0 : Int) ≤ (i : Int) := by omega
      by_cases hlt : i < T.size
      · obtain ⟨x, hx, _, _, hidx⟩ := nums_some hlt
        have hnl : i < (nums T).length := by rw [nums_length]; exact hlt
        have hxe : (nums T)[i] = x := Option.some.inj ((List.getElem?_eq_getElem hnl).symm.trans hx)
        have HC := Lib.hid (fends_any x wr hF hM (fun k h1 h2 => HF.out.2.1 k h1 (by have := hM.1.1; rw [nums_length] at this; omega)) (by omega))
        have hiL : (i : Int) < (T.size : Int) := by omega
        have hgr := take_grow hfi1 hnl
        rw [hxe] at hgr
        have HX := Lib.hid (And.intro hlt (And.intro hgr (And.intro hm (And.intro hJi (And.intro hDr (And.intro hfi1 hF.lt))))))
        clear hF hM hm hJi hDr hgr hlt hx hxe hnl H hiT hfi1
        gi_wp2_with (refine ⟨trivial, ?_⟩; gi_at_call 109; refine (callsIn_wide.2 HC.out).mono ?_; rintro en w1 ⟨h', rfl, hF1, hM1, _, hso⟩; obtain ⟨r, hr⟩ : ∃ r, r = decide (h' = L.size) := ⟨_, rfl⟩; rw [← hr]; have H1 := Lib.hid (And.intro hF1 (And.intro hM1 hso)); have HR1 := Lib.hid hr; have hm1 := HX.out.2.2.1.keep (w' := w1) (fun k h1 h2 => hso.2.2 k (by have := HFg.out; omega)); obtain ⟨e0, e1, e2⟩ := hm1.facts; have HM1 := Lib.hid hm1; clear hF1 hM1 hso hr hm1; cases r)
        · refine ⟨fun _ h => (by cases h), ?_⟩
          gi_wp2
          refine ⟨⟨i + 1, rfl, by have := HX.out.2.2.2.2.2.1; omega, HX.out.1, Lib.hid ⟨h', H1.out.1, by rw [HX.out.2.1]; exact H1.out.2.1, HM1.out, ?_, by have := H1.out.2.2.2.1; have := HX.out.2.2.2.2.1; omega⟩⟩, by have := HX.out.1; simp [intOf]; omega⟩
          have h1 := HJ.out.1 _ _ _ HX.out.2.2.2.1 (H1.out.2.2.1.mono (by have := HFg.out; have := HM.out.2.1; have := HS.out.2.1; omega))
          rcases qAt_next (f := f) (n := L.size) (i := i) with ⟨q1, q2, q3, q4⟩ | q1
          · rw [q1]
            refine HJ.out.2.1 _ _ h1 fun hp => ?_
            rw [q4] at hp
            have hsuf := (suf_place (T := nums T) (L := nums L) (f := f) (i := i + 1) (by have := HX.out.2.2.2.2.2.1; omega) (by rw [nums_length]; exact HX.out.1)).2 ⟨by rw [nums_length]; exact q2, by rw [nums_length]; exact hp⟩
            rw [HX.out.2.1] at hsuf
            have hh := (H1.out.2.1.all).2 hsuf
            rw [nums_length] at hh
            have := HR1.out
            simp [hh] at this
          · rw [q1]; exact h1
        · have hh : h' = L.size := by have := HR1.out; simpa using this.symm
          have hsuf := (H1.out.2.1.all).1 (by rw [nums_length]; exact hh)
          rw [← HX.out.2.1] at hsuf
          obtain ⟨hi1, hpl⟩ := (suf_place (by have := HX.out.2.2.2.2.2.1; omega) (by rw [nums_length]; exact HX.out.1)).1 hsuf
          rw [nums_length] at hi1 hpl
          have hJ1 : J (i + 1 - L.size) w1 := by
            have h1 := HJ.out.1 _ _ _ HX.out.2.2.2.1 (H1.out.2.2.1.mono (by have := HFg.out; have := HM.out.2.1; have := HS.out.2.1; omega))
            rwa [show qAt f L.size i = i + 1 - L.size by unfold qAt; have := hpl.1; omega] at h1
          obtain ⟨fn2, tmps2, assign2, body2, hy2, hR2⟩ := HJ.out.2.2 _ w1 hJ1 hpl
          rw [show ((i + 1 - L.size : Nat) : Int) = (i : Int) + 1 - (L.size : Int) by omega] at hy2
          have HR2 := Lib.hid (And.intro hR2 hpl)
          have HI1 := Lib.hid hi1
          clear hR2 hJ1 hpl hsuf hh hi1
          rw [hy2]
          gi_wp2
          refine HR2.out.1.mono ?_
          rintro e W5 (⟨rfl, hJ5, hk5⟩ | ⟨rfl, hJx5⟩)
          rotate_left
          · gi_wp2
            refine bodyPost_ret (results_none rfl _ _ _) rfl ?_
            exact ⟨⟨_, rfl⟩, .inr ⟨_, HR2.out.2, hJx5⟩⟩
          · gi_wp2
            refine ⟨⟨i + 1, rfl, by have := HX.out.2.2.2.2.2.1; omega, HX.out.1, Lib.hid ⟨h', H1.out.1.kp hk5 (by have := HFg.out; omega), by rw [HX.out.2.1]; exact H1.out.2.1, HM1.out.kp hk5 hb, ?_, by have := hk5.1; have := H1.out.2.2.2.1; have := HX.out.2.2.2.2.1; omega⟩⟩, by have := HX.out.1; simp [intOf]; omega⟩
            rwa [show qAt f L.size (i + 1) = i + 1 - L.size + 1 by unfold qAt; have h9 := HR2.out.2.1; have h8 := HR2.out.2.2.1; rw [nums_length, nums_length] at h8; have h7 := HI1.out; omega]
      · have hiL : ¬ (i : Int) < (T.size : Int) := by omega
        have HX := Lib.hid hJi
        clear hF hM hm hJi hDr H
        gi_wp2
        go_end0
        refine ⟨⟨_, rfl⟩, .inl ⟨_, fun p hp => no_more ?_, HX.out⟩⟩
        unfold qAt at hp
        omega
end Go.Proofs.YtaapbmdojkjphaaGreat
namespace Go.Proofs.YtaapbmdojkjphaaGreat
open Go Go.RowKit Go.Shelf
set_option linter.unusedVariables false
set_option maxRecDepth 20000
attribute [local go_sem] Oper.semAt_some
theorem results_cellL {fn : Func} {p : Tmp} {ty : TypeId} (h : fn.results = #[.cell p ty]) (tmps : Array Value) (P : Program) (w : World) :
    (results fn tmps).run P w = ((asAddr (tmps.getD p undef)).run P w).andThen fun a w₁ => (loadVar ty a).run P w₁ := by
  simp only [results, h]
  simp [Sem.run_bind, Result.andThen]
theorem results_num {x : Int} {b : Nat} {tmps : Array Value} {w : World} (hp : tmps.getD 6 undef = .pointer (some ⟨b, 0, none⟩)) (hc : w.heap[b]? = some (.cells #[.int .i64 x] 3 (0, 0))) : (results Tryz.f23 tmps).run Tryz.prog w = .ok (.int .i64 x) w := by
  have c0 := cell_of_row w b 0 _ _ (0, 0) hc
  rw [results_cellL (p := 6) (ty := 3) rfl, hp]
  go_simp
def IndV (T L : ByteArray) (f : Nat) (w : World) (e : Ending) (w' : World) : Prop :=
  Below w.heap.size w w' ∧ ((∃ q : Nat, Pl (nums T) (nums L) f q ∧ (∀ p, p < q → ¬ Pl (nums T) (nums L) f p) ∧ e = .returned (.int .i64 (q : Int))) ∨ ((∀ p, ¬ Pl (nums T) (nums L) f p) ∧ e = .returned (.int .i64 (-1))))
set_option maxHeartbeats 4000000 in
theorem index_any (T L : ByteArray) (a : Int) (f : Nat) (hf : max a 0 = (f : Int)) (w : World) (hT : T.size ≤ 10000) (hL : L.size ≤ 10000) (hf1 : f ≤ 10001) :
    Calls Tryz.prog 23 #[.string T, .string L, .int .i64 a] w (IndV T L f w) := by
  have HP := Lib.hid (lplaces_any T L a f hf (w.alloc (.cells #[.int .i64 0] 3)))
  refine (callsIn_wide (n := 10)).1 ?_
  refine callsIn_of_wp_marks Tryz.func23 rfl trivial ?_ rfl
  simp only [Tryz.ntmps23, List.size_toArray, List.length_cons, List.length_nil, Nat.reduceAdd, Nat.reduceSub, Array.replicate_succ, Array.replicate_zero, List.push_toArray, List.append_toArray, List.nil_append, List.cons_append]
  gi_wp2_with (refine ⟨trivial, ?_⟩; gi_at_call 47; refine (callsIn_wide.2 HP.out).mono ?_; rintro en w2 ⟨rfl, rfl⟩)
  obtain ⟨W0, hW0⟩ : ∃ W0, W0 = (((w.alloc (.cells #[.int .i64 0] 3)).alloc (.cells #[.string T] 9)).alloc (.cells #[.string L] 9)).alloc (.cells #[.int .i64 (f : Int)] 3) := ⟨_, rfl⟩
  have z0 : W0.heap.size = w.heap.size + 4 := by rw [hW0]; simp
  have hb0 : Below w.heap.size w W0 := by rw [hW0]; exact ((((Below.refl _ w).alloc (Nat.le_refl _) _).alloc (by simp) _).alloc (by simp; omega) _).alloc (by simp; omega) _
  have hr0 : W0.heap[w.heap.size]? = some (.cells #[.int .i64 0] 3 (0, 0)) := by rw [hW0]; exact at_up (at_up (at_up (at_new w _ rfl) _) _) _
  have hm0 : SeqM (w.heap.size + 1) T L f W0 := by
    rw [hW0]
    exact ⟨at_up (at_up (at_new _ _ (by simp)) _) _, at_up (at_new _ _ (by simp)) _, at_new _ _ (by simp)⟩
  rw [← hW0]
  have hseq := lit_seq (10 - 1) (by omega) T L f (w.heap.size + 1) w.heap.size W0 hm0 (by omega) hT hL hf1
  have HZ := Lib.hid z0
  clear hm0 hW0 z0
  refine range_law rfl (by omega) (gf := 80) (lb := #[.pointer (some ⟨w.heap.size + 1 + 1, 0, none⟩), .pointer (some ⟨w.heap.size + 1, 0, none⟩), .pointer (some ⟨w.heap.size + 1 + 1 + 1, 0, none⟩)]) rfl trivial (enters_of Tryz.func80 (by kernel_rfl) rfl) rfl hseq
    (fun q W => (∀ p, p < q → ¬ Pl (nums T) (nums L) f p) ∧ W.heap[w.heap.size]? = some (.cells #[.int .i64 0] 3 (0, 0)) ∧ Below w.heap.size w W)
    (fun q W => (∀ p, p < q → ¬ Pl (nums T) (nums L) f p) ∧ W.heap[w.heap.size]? = some (.cells #[.int .i64 (q : Int)] 3 (0, 0)) ∧ Below w.heap.size w W)
    (fun q A B h hb => ⟨h.1, (hb.block _ (by have := HZ.out; omega)).trans h.2.1, h.2.2.trans (hb.mono (by have := HZ.out; omega))⟩)
    (fun q A B h hb => ⟨h.1, (hb.block _ (by have := HZ.out; omega)).trans h.2.1, h.2.2.trans (hb.mono (by have := HZ.out; omega))⟩)
    (fun q A h hp => ⟨fun p hpq hpl => by
      rcases Nat.lt_or_ge p q with h1 | h1
      · exact h.1 p h1 hpl
      · obtain rfl : p = q := by omega
        exact hp hpl, h.2⟩)
    ⟨fun p hp hpl => by have := hpl.1; omega, hr0, hb0⟩
    (fun q => { tmps := #[.string T, .string L, .int .i64 a, undef, undef, undef, .pointer (some ⟨w.heap.size, 0, none⟩), .int .i64 (q : Int), .string T, .string L, .int .i64 a, .func (.func 80) #[] #[.pointer (some ⟨w.heap.size + 1 + 1, 0, none⟩), .pointer (some ⟨w.heap.size + 1, 0, none⟩), .pointer (some ⟨w.heap.size + 1 + 1 + 1, 0, none⟩)], .int .i64 (q : Int), undef], defers := [] }) ?assign ?body ?done ?stop
  case assign =>
    intro l q W K hK
    gi_wp2
    exact hK
  case body =>
    rintro l q W ⟨hq, hr, hb⟩ hp
    have c0 := cell_of_row W w.heap.size 0 _ _ (0, 0) hr
    have f0 : W.frozen? ⟨w.heap.size, 0, none⟩ = false := by simp [World.frozen?, hr]
    have HX := Lib.hid (And.intro hq (And.intro (heap_setCell_same W w.heap.size 0 _ _ (.int .i64 (q : Int)) hr) (hb.setCell (p := ⟨w.heap.size, 0, none⟩) (Nat.le_refl _) (.int .i64 (q : Int)))))
    clear hq hr hb
    gi_wp2
    exact ⟨KeepsOthers.setCell _ _ _, HX.out⟩
  case done =>
    rintro D q W hD hq ⟨hn, hr, hb⟩ hK
    have c0 := cell_of_row W w.heap.size 0 _ _ (0, 0) hr
    have f0 : W.frozen? ⟨w.heap.size, 0, none⟩ = false := by simp [World.frozen?, hr]
    have HX := Lib.hid (And.intro hq (And.intro hn (And.intro hr hb)))
    clear hq hn hr hb
    gi_wp2
    have hK2 : (W.setCell ⟨w.heap.size, 0, none⟩ (.int .i64 (-1))).heap[D]? = some (.deferred (some [])) := (Below.heap_setCell _ _ _ _ (by have := HZ.out; simp; omega)).trans hK
    refine ⟨by simp, .inl ⟨_, _, rfl, run_takeDeferred hK2, ?_⟩⟩
    have hr2 : ((W.setCell ⟨w.heap.size, 0, none⟩ (.int .i64 (-1))).putObj D (.deferred none)).heap[w.heap.size]? = some (.cells #[.int .i64 (-1)] 3 (0, 0)) := (World.putObj_heap_other (by have := HZ.out; omega)).trans (heap_setCell_same W w.heap.size 0 _ _ _ HX.out.2.2.1)
    refine ⟨_, results_num rfl hr2, ?_⟩
    refine ⟨(HX.out.2.2.2.setCell (p := ⟨w.heap.size, 0, none⟩) (Nat.le_refl _) (.int .i64 (-1))).trans ((below_put _ hK2 hD).mono (by have := HZ.out; omega)), .inr ⟨fun p hp => ?_, rfl⟩⟩
    rcases Nat.lt_or_ge p q with h1 | h1
    · exact HX.out.2.1 p h1 hp
    · exact HX.out.1 p h1 hp
  case stop =>
    rintro D q W hD hp ⟨hn, hr, hb⟩ hK
    have HX := Lib.hid (And.intro hn (And.intro hr hb))
    clear hn hb
    gi_wp2
    refine ⟨by simp, .inl ⟨_, _, rfl, run_takeDeferred hK, ?_⟩⟩
    refine ⟨_, results_num rfl ((World.putObj_heap_other (by have := HZ.out; omega)).trans hr), ?_⟩
    exact ⟨HX.out.2.2.trans ((below_put _ hK hD).mono (by have := HZ.out; omega)), .inl ⟨q, hp, HX.out.1, rfl⟩⟩
end Go.Proofs.YtaapbmdojkjphaaGreat
