/- The document's Size of trees. -/
import Derived.Test.YtajnedkjmgjjbaaDoorM03
import Derived.Test.YtajnedkjmgjjbaaDoorM05
import Derived.Test.YtajnedkjmgjjbaaDoorM10
import Derived.Test.YtajnedkjmgjjbaaDoorM11
import Derived.Test.YtajnedkjmgjjbaaDoorM16
import Derived.Test.YtajnedkjmgjjbaaDoorM17
import Derived.Test.YtajnedkjmgjjbaaDoorM18
import Derived.Test.YtajnedkjmgjjbaaDoorM19
import Derived.Test.YtajnedkjmgjjbaaDoorN01
import Derived.Deep.RegionHeldLaw
namespace Go.Proofs.YtajnedkjmgjjbaaDoor
open Go Go.RowKit
set_option linter.unusedVariables false
set_option maxRecDepth 20000

theorem size_nth : ∀ (a : Wood) (j : Nat), j < a.len → (a.nth j).size ≤ a.size
  | .nil, _, h => by simp [Wood.len] at h
  | .cons .., 0, _ => by simp only [Wood.nth, Wood.size]; omega
  | .cons _ _ _ _ _ x, j + 1, h => by
    have := size_nth x j (by simp only [Wood.len] at h; omega)
    simp only [Wood.nth, Wood.size]; omega
theorem size_take (a : Wood) (j : Nat) (h : j < a.len) : (a.take (j + 1)).size = (a.take j).size + (a.nth j).size := by
  rw [Wood.take_succ a j h, Wood.size_app]
theorem size_take_le : ∀ (a : Wood) (j : Nat), (a.take j).size ≤ a.size
  | .nil, j => by cases j <;> exact Nat.le_refl _
  | .cons .., 0 => by simp [Wood.take, Wood.size]
  | .cons _ _ _ _ _ x, j + 1 => by have := size_take_le x j; simp only [Wood.take, Wood.size]; omega

set_option maxHeartbeats 1000000 in
theorem rsize_any (N : Nat) : ∀ (T : Wood), T.size ≤ N → ∀ (F : Nat → Prop) (W : World) (v : Value), NodeIn F W v T → T.size ≤ 1000000 →
    Calls Tryd.prog 16 #[v] W fun e w' => e = .returned (.int .i64 (T.size : Int)) ∧ Below W.heap.size W w' := by
  induction N with
  | zero =>
    intro T hN F W v hv hs
    obtain ⟨op, s, mn, mx, k, A, D, ns, cs, nk, ck, rfl, _⟩ := hv
    simp [Wood.size] at hN
  | succ N ih =>
    intro T hN F W v hv hs
    obtain ⟨op, s, mn, mx, k, A, D, ns, cs, nk, ck, rfl, rfl, hr, hk⟩ := hv
    have hsz : (Wood.cons op s mn mx k .nil).size = 1 + k.size := by simp [Wood.size]
    rw [hsz] at hN hs ⊢
    have hkl := hk.1
    have HK := Lib.hid hk
    have IH := Lib.hid ih
    clear ih
    obtain ⟨K, hK⟩ : ∃ K, K = k.size := ⟨_, rfl⟩
    have HKS := Lib.hid hK
    rw [← hK] at hN hs
    clear hsz hk hr hK
    go_enter Tryd.func16, Tryd.ntmps16
    have hnK : nk ≤ K := by have := len_size k; have := HKS.out; omega
    obtain ⟨W1, g, hW1, hg, _, _, hbox⟩ := box_world W #[.int .i64 op, .slice A ns cs, .int .i64 mn, .int .i64 mx, .slice D nk ck] 26
    have HBOX := Lib.hid hbox
    clear hbox
    go_wp2
    rw [← hW1, ← hg]
    clear hW1 hg
    go_loopw [3, 4] (fun vs vi wr => ∃ (j S : Nat), vs = .int .i64 (S : Int) ∧ vi = .int .i64 (j : Int) ∧ j ≤ nk ∧ S ≤ 1 + K ∧ Hid (S = 1 + (k.take j).size ∧ Below W1.heap.size W1 wr)) (fun _ vi _ => nk - (intOf vi).toNat)
    case atStart => exact ⟨0, 1, rfl, rfl, Nat.zero_le _, by omega, Lib.hid ⟨by rw [Wood.take_zero]; rfl, Below.refl _ _⟩⟩
    case round =>
      obtain ⟨j, S, rfl, rfl, hj, hS, HO⟩ := hrel
      obtain ⟨hbx, hbW⟩ := HBOX.out wr HO.out.2
      have b4 := hbx 4
      rw [show (#[.int .i64 op, .slice A ns cs, .int .i64 mn, .int .i64 mx, .slice D nk ck] : Array Value)[4]? = some (.slice D nk ck) from rfl] at b4
      clear hbx
      by_cases hlt : j < nk
      · obtain ⟨b, o, op', s', mn', mx', k', A', D', ns', cs', nk', ck', rfl, _, _, c0, c1, c2, c3, c4, hin⟩ := (HK.out.below hbW).kid hlt
        have hst := size_take k j (by rw [hkl]; exact hlt)
        have hsl := size_take_le k (j + 1)
        have hnl := size_nth k j (by rw [hkl]; exact hlt)
        rw [← HKS.out] at hsl hnl
        have HC := Lib.hid (IH.out (k.nth j) (by omega) F wr _ hin (by omega))
        obtain ⟨Z, hZ⟩ : ∃ Z, Z = (k.nth j).size := ⟨_, rfl⟩
        rw [← hZ] at HC hst hnl
        have hS2 : S + Z = 1 + (k.take (j + 1)).size := by have := HO.out.1; omega
        have hS3 : S + Z ≤ 1 + K := by omega
        have HS2 := Lib.hid hS2
        clear hin hst hsl hnl hZ hS2 hbW
        go_wp2_with (go_at_call 16; refine HC.out.mono ?_; rintro e w1 ⟨rfl, hb1⟩; have HB1 := Lib.hid (HO.out.2.trans (hb1.mono HO.out.2.size)); clear hb1)
        exact ⟨⟨j + 1, S + Z, by go_num, by go_num, by omega, hS3, Lib.hid ⟨HS2.out, HB1.out⟩⟩, by simp [intOf]; omega⟩
      · have hjn : j = nk := by omega
        subst hjn
        have HE := Lib.hid (show S = 1 + k.size by rw [HO.out.1, ← hkl, Wood.take_all])
        have HBW := Lib.hid hbW
        clear hbW
        go_wp2
        go_ret
        rw [HE.out]
        exact ⟨rfl, HBW.out⟩
end Go.Proofs.YtajnedkjmgjjbaaDoor
/- The law's shallow: isn't a tree too deep, or too great? -/
namespace Go.Proofs.YtajnedkjmgjjbaaDoor
open Go Go.RowKit
set_option linter.unusedVariables false
set_option maxRecDepth 20000

def shalD : Nat → Wood → Bool
  | 0, _ => false
  | _ + 1, .nil => false
  | d + 1, .cons _ s _ _ k _ => decide (k.len ≤ 5) && (decide (s.length ≤ 10) && (List.range k.len).all fun j => shalD d (k.nth j))
theorem shalD_no {d : Nat} {op mn mx : Int} {s : List (Int × Int)} {k x : Wood} {j : Nat} (hj : j < k.len) (h : shalD d (k.nth j) = false) : shalD (d + 1) (.cons op s mn mx k x) = false := by
  rw [shalD, Bool.and_eq_false_iff, Bool.and_eq_false_iff]
  refine Or.inr (Or.inr ?_)
  cases hx : (List.range k.len).all fun j => shalD d (k.nth j) with
  | false => rfl
  | true =>
    rw [List.all_eq_true] at hx
    have := hx j (List.mem_range.2 hj)
    rw [h] at this; cases this
theorem shalD_yes {d : Nat} {op mn mx : Int} {s : List (Int × Int)} {k x : Wood} (h1 : k.len ≤ 5) (h2 : s.length ≤ 10) (h : ∀ j, j < k.len → shalD d (k.nth j) = true) : shalD (d + 1) (.cons op s mn mx k x) = true := by
  rw [shalD, decide_eq_true h1, decide_eq_true h2, Bool.true_and, Bool.true_and, List.all_eq_true]
  exact fun j hj => h j (List.mem_range.1 hj)

set_option maxHeartbeats 1000000 in
theorem shallow_any (d : Nat) : d ≤ 5 → ∀ (T : Wood) (F : Nat → Prop) (W : World) (v : Value), NodeIn F W v T →
    Calls Tryd.prog 12 #[v, .int .i64 (d : Int)] W fun e w' => e = .returned (.bool (shalD d T)) ∧ Below W.heap.size W w' := by
  induction d with
  | zero =>
    intro _ T F W v hv
    obtain ⟨op, s, mn, mx, k, A, D, ns, cs, nk, ck, rfl, rfl, hr, hk⟩ := hv
    go_enter Tryd.func12, Tryd.ntmps12
    go_wp2
    go_ret
    exact ⟨rfl, (Below.refl _ _).alloc (Nat.le_refl _) _⟩
  | succ d ih =>
    intro hd T F W v hv
    obtain ⟨op, s, mn, mx, k, A, D, ns, cs, nk, ck, rfl, rfl, hr, hk⟩ := hv
    have hkl := hk.1
    have hsl := hr.1.1
    have hd1 : ((d + 1 : Nat) : Int) - 1 = (d : Int) := by omega
    have hd2 : ¬ ((d + 1 : Nat) : Int) < 1 := by omega
    obtain ⟨E, hE⟩ : ∃ E, E = ((d + 1 : Nat) : Int) := ⟨_, rfl⟩
    rw [← hE] at hd1 hd2 ⊢
    have HK := Lib.hid hk
    have IH := Lib.hid (ih (by omega))
    have HLN := Lib.hid (And.intro hkl hsl)
    have hE5 : E ≤ 5 := by omega
    clear ih hr hk hE hkl hsl hd
    by_cases h5 : nk ≤ 5
    · by_cases h10 : ns ≤ 10
      · have hn1 : ¬ (5 : Int) < (nk : Int) := by omega
        have hn2 : ¬ (10 : Int) < (ns : Int) := by omega
        go_enter Tryd.func12, Tryd.ntmps12
        obtain ⟨W1, g, hW1, hg, _, _, hbox⟩ := box_world W #[.int .i64 op, .slice A ns cs, .int .i64 mn, .int .i64 mx, .slice D nk ck] 26
        have HBOX := Lib.hid hbox
        clear hbox
        go_wp2
        rw [← hW1, ← hg]
        clear hW1 hg
        go_loopw [5] (fun vi wr => ∃ (j : Nat), vi = .int .i64 (j : Int) ∧ j ≤ nk ∧ Hid ((∀ i, i < j → shalD d (k.nth i) = true) ∧ Below W1.heap.size W1 wr)) (fun vi _ => nk - (intOf vi).toNat)
        case atStart => exact ⟨0, rfl, Nat.zero_le _, Lib.hid ⟨fun i hi => by omega, Below.refl _ _⟩⟩
        case round =>
          obtain ⟨j, rfl, hj, HO⟩ := hrel
          obtain ⟨hbx, hbW⟩ := HBOX.out wr HO.out.2
          have b4 := hbx 4
          rw [show (#[.int .i64 op, .slice A ns cs, .int .i64 mn, .int .i64 mx, .slice D nk ck] : Array Value)[4]? = some (.slice D nk ck) from rfl] at b4
          clear hbx
          by_cases hlt : j < nk
          · obtain ⟨b, o, op', s', mn', mx', k', A', D', ns', cs', nk', ck', rfl, _, _, c0, c1, c2, c3, c4, hin⟩ := (HK.out.below hbW).kid hlt
            have HC := Lib.hid (IH.out (k.nth j) F wr _ hin)
            obtain ⟨Z, hZ⟩ : ∃ Z, Z = shalD d (k.nth j) := ⟨_, rfl⟩
            rw [← hZ] at HC
            have HZ := Lib.hid hZ
            have HW := Lib.hid hbW
            clear hin hZ hbW
            cases Z with
            | true =>
              go_wp2_with (go_at_call 12; refine HC.out.mono ?_; rintro e w1 ⟨rfl, hb1⟩; have HB1 := Lib.hid (HO.out.2.trans (hb1.mono HO.out.2.size)); clear hb1)
              refine ⟨⟨j + 1, by go_num, by omega, Lib.hid ⟨fun i hi => ?_, HB1.out⟩⟩, by simp [intOf]; omega⟩
              rcases Nat.lt_or_ge i j with h | h
              · exact HO.out.1 i h
              · rw [show i = j by omega]; exact HZ.out.symm
            | false =>
              go_wp2_with (go_at_call 12; refine HC.out.mono ?_; rintro e w1 ⟨rfl, hb1⟩; have HB1 := Lib.hid (HW.out.trans (hb1.mono HW.out.size)); clear hb1)
              go_ret
              rw [shalD_no (by rw [HLN.out.1]; exact hlt) HZ.out.symm]
              exact ⟨rfl, HB1.out⟩
          · have hjn : j = nk := by omega
            subst hjn
            have HBW := Lib.hid hbW
            clear hbW
            go_wp2
            go_ret
            rw [shalD_yes (by rw [HLN.out.1]; exact h5) (by rw [HLN.out.2]; exact h10) fun i hi => HO.out.1 i (by rw [← HLN.out.1]; exact hi)]
            exact ⟨rfl, HBW.out⟩
      · have hn1 : ¬ (5 : Int) < (nk : Int) := by omega
        have hn2 : (10 : Int) < (ns : Int) := by omega
        go_enter Tryd.func12, Tryd.ntmps12
        go_wp2
        go_ret
        rw [shalD, decide_eq_false (show ¬ s.length ≤ 10 by rw [HLN.out.2]; exact h10), Bool.false_and, Bool.and_false]
        exact ⟨rfl, (Below.refl _ _).alloc (Nat.le_refl _) _⟩
    · have hn1 : (5 : Int) < (nk : Int) := by omega
      go_enter Tryd.func12, Tryd.ntmps12
      go_wp2
      go_ret
      rw [shalD, decide_eq_false (show ¬ k.len ≤ 5 by rw [HLN.out.1]; exact h5), Bool.false_and]
      exact ⟨rfl, (Below.refl _ _).alloc (Nat.le_refl _) _⟩
end Go.Proofs.YtajnedkjmgjjbaaDoor
/- The program's Size. -/
namespace Go.Proofs.YtajnedkjmgjjbaaDoor
open Go Go.RowKit
set_option linter.unusedVariables false
set_option maxRecDepth 20000

set_option maxHeartbeats 1000000 in
theorem psize_any (N : Nat) : ∀ (T : Wood), T.size ≤ N → ∀ (F : Nat → Prop) (W : World) (v : Value), NodeIn F W v T → T.size ≤ 1000000 →
    Calls Tryd.prog 15 #[v] W fun e w' => e = .returned (.int .i64 (T.size : Int)) ∧ Below W.heap.size W w' := by
  induction N with
  | zero =>
    intro T hN F W v hv hs
    obtain ⟨op, s, mn, mx, k, A, D, ns, cs, nk, ck, rfl, _⟩ := hv
    simp [Wood.size] at hN
  | succ N ih =>
    intro T hN F W v hv hs
    obtain ⟨op, s, mn, mx, k, A, D, ns, cs, nk, ck, rfl, rfl, hr, hk⟩ := hv
    have hsz : (Wood.cons op s mn mx k .nil).size = 1 + k.size := by simp [Wood.size]
    rw [hsz] at hN hs ⊢
    have hkl := hk.1
    have IH := Lib.hid ih
    clear ih
    obtain ⟨K, hK⟩ : ∃ K, K = k.size := ⟨_, rfl⟩
    have HKS := Lib.hid hK
    rw [← hK] at hN hs
    have hnK : nk ≤ K := by have := len_size k; have := HKS.out; omega
    obtain ⟨W1, g, hW1, hg, hb1, hsw, hbox⟩ := box_world W #[.int .i64 op, .slice A ns cs, .int .i64 mn, .int .i64 mx, .slice D nk ck] 26
    have HK := Lib.hid (hk.below hb1)
    have HB1 := Lib.hid hb1
    have b4 := (hbox W1 (Below.refl _ _)).1 4
    rw [show (#[.int .i64 op, .slice A ns cs, .int .i64 mn, .int .i64 mx, .slice D nk ck] : Array Value)[4]? = some (.slice D nk ck) from rfl] at b4
    clear hsz hk hr hK hbox hb1
    go_enter Tryd.func15, Tryd.ntmps15
    go_wp2_with fail
    rw [← hW1, ← hg]
    clear hW1 hg
    go_loopw [3, 9] (fun vs vi wr => ∃ (j S : Nat), vs = .int .i64 (S : Int) ∧ vi = .int .i64 (j : Int) ∧ j ≤ nk ∧ S ≤ 1 + K ∧ Hid (S = 1 + (k.take j).size ∧ Below W1.heap.size W1 wr)) (fun _ vi _ => nk - (intOf vi).toNat)
    case atStart => exact ⟨0, 1, rfl, rfl, Nat.zero_le _, by omega, Lib.hid ⟨by rw [Wood.take_zero]; rfl, Below.refl _ _⟩⟩
    case round =>
      obtain ⟨j, S, rfl, rfl, hj, hS, HO⟩ := hrel
      by_cases hlt : j < nk
      · obtain ⟨b, o, op', s', mn', mx', k', A', D', ns', cs', nk', ck', rfl, _, _, c0, c1, c2, c3, c4, hin⟩ := (HK.out.below HO.out.2).kid hlt
        have hst := size_take k j (by rw [hkl]; exact hlt)
        have hsl := size_take_le k (j + 1)
        have hnl := size_nth k j (by rw [hkl]; exact hlt)
        rw [← HKS.out] at hsl hnl
        have hb2 : Below wr.heap.size wr (wr.alloc (.cells #[.int .i64 op', .slice A' ns' cs', .int .i64 mn', .int .i64 mx', .slice D' nk' ck'] 26)) := (Below.refl _ _).alloc (Nat.le_refl _) _
        have HC := Lib.hid (IH.out (k.nth j) (by omega) F _ _ (hin.below hb2) (by omega))
        obtain ⟨Z, hZ⟩ : ∃ Z, Z = (k.nth j).size := ⟨_, rfl⟩
        rw [← hZ] at HC hst hnl
        have hS2 : S + Z = 1 + (k.take (j + 1)).size := by have := HO.out.1; omega
        have hS3 : S + Z ≤ 1 + K := by omega
        have HS2 := Lib.hid (And.intro hS2 hb2)
        clear hin hst hsl hnl hZ hS2 hb2
        go_wp2_with (go_at_call 15; refine HC.out.mono ?_; rintro e w1 ⟨rfl, hb1⟩; have HB2 := Lib.hid (HO.out.2.trans ((HS2.out.2.trans (hb1.mono HS2.out.2.size)).mono HO.out.2.size)); clear hb1)
        exact ⟨⟨j + 1, S + Z, by go_num, by go_num, by omega, hS3, Lib.hid ⟨HS2.out.1, HB2.out⟩⟩, by simp [intOf]; omega⟩
      · have hjn : j = nk := by omega
        subst hjn
        have HE := Lib.hid (show S = 1 + k.size by rw [HO.out.1, ← hkl, Wood.take_all])
        go_wp2
        go_ret
        rw [HE.out]
        exact ⟨rfl, then_ HB1.out HO.out.2⟩
end Go.Proofs.YtajnedkjmgjjbaaDoor
/- ParseTrees: how any trees are shown, how great they are, and whether two are the same: the walk. -/
namespace Go.Proofs.YtajnedkjmgjjbaaDoor
open Go Go.RowKit
set_option linter.unusedVariables false
set_option maxRecDepth 20000

theorem heavy_each (M : Nat) : ∀ k : Wood, (∀ j, j < k.len → heavy (k.nth j) ≤ M) → heavy k ≤ k.len * M
  | .nil, _ => Nat.zero_le _
  | .cons o s a z k x, h => by
    have h0 := h 0 (by simp only [Wood.len]; omega)
    have h1 := heavy_each M x fun j hj => h (j + 1) (by simp only [Wood.len]; omega)
    simp only [Wood.nth, heavy] at h0
    simp only [heavy, Wood.len, Nat.add_mul]
    omega
def heapD : Nat → Nat
  | 0 => 0
  | d + 1 => 11 + 5 * heapD d
theorem shalD_heavy : ∀ (d : Nat) (T : Wood), T.len = 1 → shalD d T = true → heavy T ≤ heapD d
  | 0, _, _, h => by cases h
  | d + 1, .nil, _, h => by cases h
  | d + 1, .cons op s mn mx k x, hl, h => by
    cases x with
    | cons => simp only [Wood.len] at hl; omega
    | nil =>
      rw [shalD, Bool.and_eq_true, Bool.and_eq_true, decide_eq_true_iff, decide_eq_true_iff, List.all_eq_true] at h
      obtain ⟨h1, h2, h3⟩ := h
      have h4 := heavy_each (heapD d) k fun j hj => shalD_heavy d (k.nth j) (Wood.nth_len k j hj) (h3 j (List.mem_range.2 hj))
      have h5 : k.len * heapD d ≤ 5 * heapD d := Nat.mul_le_mul_right _ h1
      simp only [heavy, heapD]
      omega
theorem NodeIn.len1 {F : Nat → Prop} {w : World} {v : Value} {T : Wood} (h : NodeIn F w v T) : T.len = 1 := by
  obtain ⟨op, s, mn, mx, k, A, D, ns, cs, nk, ck, rfl, _⟩ := h
  rfl

theorem shallow_five (T : Wood) (F : Nat → Prop) (W : World) (v : Value) (h : NodeIn F W v T) :
    Calls Tryd.prog 12 #[v, .int .i64 5] W fun e w' => e = .returned (.bool (shalD 5 T)) ∧ Below W.heap.size W w' := shallow_any 5 (by decide) T F W v h

/-- What all the calls of the last line answer. -/
theorem tree_calls {F G : Nat → Prop} {T U : Wood} {w X : World} {v u : Value} (hv : NodeIn F X v T) (hu : NodeIn G X u U) (wT : WfW T) (wU : WfW U) (hT : heavy T ≤ 1000000) (hU : heavy U ≤ 1000000) (hM : Pow w) (hb : Below w.heap.size w X) :
    (∀ y, Below X.heap.size X y → Calls Tryd.prog 13 #[v] y fun e w' => e = .returned (.string (oneB T)) ∧ Below X.heap.size X w') ∧
    (∀ y, Below X.heap.size X y → Calls Tryd.prog 14 #[v] y fun e w' => e = .returned (.string (oneB T)) ∧ Below X.heap.size X w') ∧
    (∀ y, Below X.heap.size X y → Calls Tryd.prog 15 #[v] y fun e w' => e = .returned (.int .i64 (T.size : Int)) ∧ Below X.heap.size X w') ∧
    (∀ y, Below X.heap.size X y → Calls Tryd.prog 16 #[v] y fun e w' => e = .returned (.int .i64 (T.size : Int)) ∧ Below X.heap.size X w') ∧
    (∀ y, Below X.heap.size X y → Calls Tryd.prog 17 #[v, u] y fun e w' => e = .returned (.bool (T.same U)) ∧ Below X.heap.size X w') ∧
    (∀ y, Below X.heap.size X y → Calls Tryd.prog 11 #[v, u] y fun e w' => e = .returned (.bool (T.same U)) ∧ Below X.heap.size X w') ∧
    (∀ y, Below X.heap.size X y → Calls Tryd.prog 17 #[u, u] y fun e w' => e = .returned (.bool true) ∧ Below X.heap.size X w') := by
  have tab : ∀ v, Below X.heap.size X v → Tab v.heap.size v := fun v h => (hM.on (then_ hb h)).up (then_ hb h).size
  have sT := Nat.le_trans (size_heavy T) hT
  refine ⟨fun y h => ?_, fun y h => ?_, fun y h => ?_, fun y h => ?_, fun y h => ?_, fun y h => ?_, fun y h => ?_⟩
  · exact (pshow_any T _ _ _ (hv.below h) wT hT (tab y h)).mono fun e w' ⟨he, k⟩ => ⟨he, then_ h k⟩
  · exact (rshow_any (heavy T) T (Nat.le_refl _) _ _ _ (hv.below h) wT hT).mono fun e w' ⟨he, k⟩ => ⟨he, then_ h k⟩
  · exact (psize_any T.size T (Nat.le_refl _) _ _ _ (hv.below h) sT).mono fun e w' ⟨he, k⟩ => ⟨he, then_ h k⟩
  · exact (rsize_any T.size T (Nat.le_refl _) _ _ _ (hv.below h) sT).mono fun e w' ⟨he, k⟩ => ⟨he, then_ h k⟩
  · exact (psame_any (heavy T) T (Nat.le_refl _) U _ _ _ _ _ (hv.below h) (hu.below h) hT hU).mono fun e w' ⟨he, k⟩ => ⟨he, then_ h k⟩
  · exact (rsame_any (heavy T) T (Nat.le_refl _) U _ _ _ _ _ (hv.below h) (hu.below h) hT hU).mono fun e w' ⟨he, k⟩ => ⟨he, then_ h k⟩
  · exact (psame_any (heavy U) U (Nat.le_refl _) U _ _ _ _ _ (hu.below h) (hu.below h) hU hU).mono fun e w' ⟨he, k⟩ => ⟨by rw [he, Wood.same_refl], then_ h k⟩

/-- Two trees that came in, and the boxes that hold them. -/
structure TwoAt (F G : Nat → Prop) (x y : NV) (T U : Wood) (a b : Nat) (w : World) : Prop where
  ha : w.heap[a]? = some (.cells #[.int .i64 x.op, .slice x.A x.ns x.cs, .int .i64 x.mn, .int .i64 x.mx, .slice x.D x.nk x.ck] 26 (0, 0))
  hb : w.heap[b]? = some (.cells #[.int .i64 y.op, .slice y.A y.ns y.cs, .int .i64 y.mn, .int .i64 y.mx, .slice y.D y.nk y.ck] 26 (0, 0))
  la : a < w.heap.size
  lb : b < w.heap.size
  hx : NodeIn F w (.agg #[.int .i64 x.op, .slice x.A x.ns x.cs, .int .i64 x.mn, .int .i64 x.mx, .slice x.D x.nk x.ck]) T
  hy : NodeIn G w (.agg #[.int .i64 y.op, .slice y.A y.ns y.cs, .int .i64 y.mn, .int .i64 y.mx, .slice y.D y.nk y.ck]) U
theorem TwoAt.below {F G : Nat → Prop} {x y : NV} {T U : Wood} {a b : Nat} {w w' : World} (h : TwoAt F G x y T U a b w) (k : Below w.heap.size w w') : TwoAt F G x y T U a b w' :=
  ⟨(k.block a h.la).trans h.ha, (k.block b h.lb).trans h.hb, Nat.lt_of_lt_of_le h.la k.size, Nat.lt_of_lt_of_le h.lb k.size, h.hx.below k, h.hy.below k⟩
theorem two_new {F G : Nat → Prop} {x y : NV} {T U : Wood} {w : World} (hx : NodeIn F w (.agg #[.int .i64 x.op, .slice x.A x.ns x.cs, .int .i64 x.mn, .int .i64 x.mx, .slice x.D x.nk x.ck]) T) (hy : NodeIn G w (.agg #[.int .i64 y.op, .slice y.A y.ns y.cs, .int .i64 y.mn, .int .i64 y.mx, .slice y.D y.nk y.ck]) U) :
    TwoAt F G x y T U w.heap.size (w.heap.size + 1) ((w.alloc (.cells #[.int .i64 x.op, .slice x.A x.ns x.cs, .int .i64 x.mn, .int .i64 x.mx, .slice x.D x.nk x.ck] 26)).alloc (.cells #[.int .i64 y.op, .slice y.A y.ns y.cs, .int .i64 y.mn, .int .i64 y.mx, .slice y.D y.nk y.ck] 26)) ∧ Below w.heap.size w ((w.alloc (.cells #[.int .i64 x.op, .slice x.A x.ns x.cs, .int .i64 x.mn, .int .i64 x.mx, .slice x.D x.nk x.ck] 26)).alloc (.cells #[.int .i64 y.op, .slice y.A y.ns y.cs, .int .i64 y.mn, .int .i64 y.mx, .slice y.D y.nk y.ck] 26)) := by
  have k : Below w.heap.size w ((w.alloc (.cells #[.int .i64 x.op, .slice x.A x.ns x.cs, .int .i64 x.mn, .int .i64 x.mx, .slice x.D x.nk x.ck] 26)).alloc (.cells #[.int .i64 y.op, .slice y.A y.ns y.cs, .int .i64 y.mn, .int .i64 y.mx, .slice y.D y.nk y.ck] 26)) := ((Below.refl _ _).alloc (Nat.le_refl _) _).alloc (by simp) _
  exact ⟨⟨at_up (heap_alloc_new w _) _, at_new _ _ (by simp), by simp; omega, by simp, hx.below k, hy.below k⟩, k⟩
theorem two_facts {F G : Nat → Prop} {x y : NV} {T U : Wood} {a b : Nat} {w : World} (h : TwoAt F G x y T U a b w) :
    (w.cell? ⟨a, 0, none⟩ = some (.int .i64 x.op) ∧ w.cell? ⟨a, 1, none⟩ = some (.slice x.A x.ns x.cs) ∧ w.cell? ⟨a, 2, none⟩ = some (.int .i64 x.mn) ∧ w.cell? ⟨a, 3, none⟩ = some (.int .i64 x.mx) ∧ w.cell? ⟨a, 4, none⟩ = some (.slice x.D x.nk x.ck)) ∧
    (w.cell? ⟨b, 0, none⟩ = some (.int .i64 y.op) ∧ w.cell? ⟨b, 1, none⟩ = some (.slice y.A y.ns y.cs) ∧ w.cell? ⟨b, 2, none⟩ = some (.int .i64 y.mn) ∧ w.cell? ⟨b, 3, none⟩ = some (.int .i64 y.mx) ∧ w.cell? ⟨b, 4, none⟩ = some (.slice y.D y.nk y.ck)) := by
  obtain ⟨p0, p1, p2, p3, p4, _⟩ := box_facts h.ha
  obtain ⟨q0, q1, q2, q3, q4, _⟩ := box_facts h.hb
  exact ⟨⟨p0, p1, p2, p3, p4⟩, q0, q1, q2, q3, q4⟩

set_option maxHeartbeats 2000000 in
/-- Trees that are let go: the first one. -/
theorem trees_no1 {F G : Nat → Prop} {T U : Wood} (x y : NV) (w : World) (hM : Pow w) (hv : NodeIn F w (.agg #[.int .i64 x.op, .slice x.A x.ns x.cs, .int .i64 x.mn, .int .i64 x.mx, .slice x.D x.nk x.ck]) T) (hu : NodeIn G w (.agg #[.int .i64 y.op, .slice y.A y.ns y.cs, .int .i64 y.mn, .int .i64 y.mx, .slice y.D y.nk y.ck]) U) (h : shalD 5 T = false) :
    Calls Tryd.prog 4 #[.agg #[.int .i64 x.op, .slice x.A x.ns x.cs, .int .i64 x.mn, .int .i64 x.mx, .slice x.D x.nk x.ck], .agg #[.int .i64 y.op, .slice y.A y.ns y.cs, .int .i64 y.mn, .int .i64 y.mx, .slice y.D y.nk y.ck]] w fun e w' => e = .returned (.bool true) ∧ Below w.heap.size w w' := by
  have HK := Lib.hid (two_new hv hu)
  have HM := Lib.hid (show Tab w.heap.size w from hM)
  have HH := Lib.hid h
  clear hM hv hu h
  go_enter Tryd.func4, Tryd.ntmps4
  go_wp2_with (first
    | (go_at_call 8; (with_reducible refine (awake_any _ ((HM.out.on HK.out.2).up HK.out.2.size)).mono ?_); rintro e w1 ⟨rfl, hb⟩; have K1 := Lib.hid (HK.out.1.below hb); have HB1 := Lib.hid (then_ HK.out.2 hb); obtain ⟨⟨p10, p11, p12, p13, p14⟩, q10, q11, q12, q13, q14⟩ := two_facts K1.out; clear hb)
    | (go_at_call 12; (with_reducible refine (shallow_five T _ w1 _ K1.out.hx).mono ?_); rintro e w2 ⟨rfl, hb⟩; rw [HH.out]; have K2 := Lib.hid (K1.out.below hb); have HB2 := Lib.hid (then_ HB1.out hb); obtain ⟨⟨p20, p21, p22, p23, p24⟩, q20, q21, q22, q23, q24⟩ := two_facts K2.out; clear hb)
    | (go_at_call 8; (with_reducible refine (awake_any _ ((HM.out.on HB2.out).up HB2.out.size)).mono ?_); rintro e w4 ⟨rfl, hb⟩; have HB4 := Lib.hid (then_ HB2.out hb); clear hb))
  go_ret
  exact ⟨rfl, HB4.out⟩

set_option maxHeartbeats 2000000 in
/-- Trees that are let go: the other one. -/
theorem trees_no2 {F G : Nat → Prop} {T U : Wood} (x y : NV) (w : World) (hM : Pow w) (hv : NodeIn F w (.agg #[.int .i64 x.op, .slice x.A x.ns x.cs, .int .i64 x.mn, .int .i64 x.mx, .slice x.D x.nk x.ck]) T) (hu : NodeIn G w (.agg #[.int .i64 y.op, .slice y.A y.ns y.cs, .int .i64 y.mn, .int .i64 y.mx, .slice y.D y.nk y.ck]) U) (h : shalD 5 T = true) (h2 : shalD 5 U = false) :
    Calls Tryd.prog 4 #[.agg #[.int .i64 x.op, .slice x.A x.ns x.cs, .int .i64 x.mn, .int .i64 x.mx, .slice x.D x.nk x.ck], .agg #[.int .i64 y.op, .slice y.A y.ns y.cs, .int .i64 y.mn, .int .i64 y.mx, .slice y.D y.nk y.ck]] w fun e w' => e = .returned (.bool true) ∧ Below w.heap.size w w' := by
  have HK := Lib.hid (two_new hv hu)
  have HM := Lib.hid (show Tab w.heap.size w from hM)
  have HH := Lib.hid (And.intro h h2)
  clear hM hv hu h h2
  go_enter Tryd.func4, Tryd.ntmps4
  go_wp2_with (first
    | (go_at_call 8; (with_reducible refine (awake_any _ ((HM.out.on HK.out.2).up HK.out.2.size)).mono ?_); rintro e w1 ⟨rfl, hb⟩; have K1 := Lib.hid (HK.out.1.below hb); have HB1 := Lib.hid (then_ HK.out.2 hb); obtain ⟨⟨p10, p11, p12, p13, p14⟩, q10, q11, q12, q13, q14⟩ := two_facts K1.out; clear hb)
    | (go_at_call 12; (with_reducible refine (shallow_five T _ w1 _ K1.out.hx).mono ?_); rintro e w2 ⟨rfl, hb⟩; rw [HH.out.1]; have K2 := Lib.hid (K1.out.below hb); have HB2 := Lib.hid (then_ HB1.out hb); obtain ⟨⟨p20, p21, p22, p23, p24⟩, q20, q21, q22, q23, q24⟩ := two_facts K2.out; clear hb)
    | (go_at_call 12; (with_reducible refine (shallow_five U _ w2 _ K2.out.hy).mono ?_); rintro e w3 ⟨rfl, hb⟩; rw [HH.out.2]; have K3 := Lib.hid (K2.out.below hb); have HB3 := Lib.hid (then_ HB2.out hb); clear hb)
    | (go_at_call 8; (with_reducible refine (awake_any _ ((HM.out.on HB3.out).up HB3.out.size)).mono ?_); rintro e w4 ⟨rfl, hb⟩; have HB4 := Lib.hid (then_ HB3.out hb); clear hb))
  go_ret
  exact ⟨rfl, HB4.out⟩

set_option maxHeartbeats 4000000 in
/-- Trees that aren't let go. -/
theorem trees_yes {F G : Nat → Prop} {T U : Wood} (x y : NV) (w : World) (hM : Pow w) (hv : NodeIn F w (.agg #[.int .i64 x.op, .slice x.A x.ns x.cs, .int .i64 x.mn, .int .i64 x.mx, .slice x.D x.nk x.ck]) T) (hu : NodeIn G w (.agg #[.int .i64 y.op, .slice y.A y.ns y.cs, .int .i64 y.mn, .int .i64 y.mx, .slice y.D y.nk y.ck]) U) (wT : WfW T) (wU : WfW U) (h : shalD 5 T = true) (h2 : shalD 5 U = true) :
    Calls Tryd.prog 4 #[.agg #[.int .i64 x.op, .slice x.A x.ns x.cs, .int .i64 x.mn, .int .i64 x.mx, .slice x.D x.nk x.ck], .agg #[.int .i64 y.op, .slice y.A y.ns y.cs, .int .i64 y.mn, .int .i64 y.mx, .slice y.D y.nk y.ck]] w fun e w' => e = .returned (.bool true) ∧ Below w.heap.size w w' := by
  have HK := Lib.hid (two_new hv hu)
  have HM := Lib.hid (show Tab w.heap.size w from hM)
  have HH := Lib.hid (And.intro h h2)
  have hT : heavy T ≤ 1000000 := Nat.le_trans (shalD_heavy 5 T hv.len1 h) (by decide)
  have hU : heavy U ≤ 1000000 := Nat.le_trans (shalD_heavy 5 U hu.len1 h2) (by decide)
  have HW := Lib.hid (And.intro wT (And.intro wU (And.intro hT hU)))
  obtain ⟨R, hR⟩ : ∃ R, R = oneB T := ⟨_, rfl⟩
  have hRR : (R.toList == R.toList) = true := by simp
  obtain ⟨Z, hZ⟩ : ∃ Z : Int, Z = (T.size : Int) := ⟨_, rfl⟩
  obtain ⟨b, hB⟩ : ∃ b, b = T.same U := ⟨_, rfl⟩
  have HR := Lib.hid (And.intro hR (And.intro hZ hB))
  clear hM hv hu h h2 wT wU hT hU hR hZ hB
  go_enter Tryd.func4, Tryd.ntmps4
  go_wp2_with (first
    | (go_at_call 8; (with_reducible refine (awake_any _ ((HM.out.on HK.out.2).up HK.out.2.size)).mono ?_); rintro e w1 ⟨rfl, hb⟩; have K1 := Lib.hid (HK.out.1.below hb); have HB1 := Lib.hid (then_ HK.out.2 hb); obtain ⟨⟨p10, p11, p12, p13, p14⟩, q10, q11, q12, q13, q14⟩ := two_facts K1.out; clear hb)
    | (go_at_call 12; (with_reducible refine (shallow_five T _ w1 _ K1.out.hx).mono ?_); rintro e w2 ⟨rfl, hb⟩; rw [HH.out.1]; have K2 := Lib.hid (K1.out.below hb); have HB2 := Lib.hid (then_ HB1.out hb); obtain ⟨⟨p20, p21, p22, p23, p24⟩, q20, q21, q22, q23, q24⟩ := two_facts K2.out; clear hb)
    | (go_at_call 12; (with_reducible refine (shallow_five U _ w2 _ K2.out.hy).mono ?_); rintro e w3 ⟨rfl, hb⟩; rw [HH.out.2]; have K3 := Lib.hid (K2.out.below hb); have HB3 := Lib.hid (then_ HB2.out hb); clear hb))
  have HC := tree_calls K3.out.hx K3.out.hy HW.out.1 HW.out.2.1 HW.out.2.2.1 HW.out.2.2.2 HM.out HB3.out
  rw [← HR.out.1, ← HR.out.2.1, ← HR.out.2.2] at HC
  have HC1 := Lib.hid HC.1
  have HC2 := Lib.hid HC.2.1
  have HC3 := Lib.hid HC.2.2.1
  have HC4 := Lib.hid HC.2.2.2.1
  have HC5 := Lib.hid HC.2.2.2.2.1
  have HC6 := Lib.hid HC.2.2.2.2.2.1
  have HC7 := Lib.hid HC.2.2.2.2.2.2
  clear HC
  have p0 : ∀ v, Below w3.heap.size w3 v → v.cell? ⟨w.heap.size, 0, none⟩ = some (.int .i64 x.op) := fun v h => (two_facts (K3.out.below h)).1.1
  have p1 : ∀ v, Below w3.heap.size w3 v → v.cell? ⟨w.heap.size, 1, none⟩ = some (.slice x.A x.ns x.cs) := fun v h => (two_facts (K3.out.below h)).1.2.1
  have p2 : ∀ v, Below w3.heap.size w3 v → v.cell? ⟨w.heap.size, 2, none⟩ = some (.int .i64 x.mn) := fun v h => (two_facts (K3.out.below h)).1.2.2.1
  have p3 : ∀ v, Below w3.heap.size w3 v → v.cell? ⟨w.heap.size, 3, none⟩ = some (.int .i64 x.mx) := fun v h => (two_facts (K3.out.below h)).1.2.2.2.1
  have p4 : ∀ v, Below w3.heap.size w3 v → v.cell? ⟨w.heap.size, 4, none⟩ = some (.slice x.D x.nk x.ck) := fun v h => (two_facts (K3.out.below h)).1.2.2.2.2
  have q0 : ∀ v, Below w3.heap.size w3 v → v.cell? ⟨w.heap.size + 1, 0, none⟩ = some (.int .i64 y.op) := fun v h => (two_facts (K3.out.below h)).2.1
  have q1 : ∀ v, Below w3.heap.size w3 v → v.cell? ⟨w.heap.size + 1, 1, none⟩ = some (.slice y.A y.ns y.cs) := fun v h => (two_facts (K3.out.below h)).2.2.1
  have q2 : ∀ v, Below w3.heap.size w3 v → v.cell? ⟨w.heap.size + 1, 2, none⟩ = some (.int .i64 y.mn) := fun v h => (two_facts (K3.out.below h)).2.2.2.1
  have q3 : ∀ v, Below w3.heap.size w3 v → v.cell? ⟨w.heap.size + 1, 3, none⟩ = some (.int .i64 y.mx) := fun v h => (two_facts (K3.out.below h)).2.2.2.2.1
  have q4 : ∀ v, Below w3.heap.size w3 v → v.cell? ⟨w.heap.size + 1, 4, none⟩ = some (.slice y.D y.nk y.ck) := fun v h => (two_facts (K3.out.below h)).2.2.2.2.2
  have hr0 : Below w3.heap.size w3 w3.drew := (Below.refl _ _).drew
  clear p10 p11 p12 p13 p14 p20 p21 p22 p23 p24 q10 q11 q12 q13 q14 q20 q21 q22 q23 q24
  cases b
  all_goals
    go_region_held (fun w' => Below w3.heap.size w3 w') (assumption) (first
      | (go_at_call 13; (with_reducible refine (HC1.out _ (by assumption)).mono ?_); rintro e w5 ⟨rfl, hb5⟩)
      | (go_at_call 14; (with_reducible refine (HC2.out _ (by assumption)).mono ?_); rintro e w6 ⟨rfl, hb6⟩)
      | (go_at_call 15; (with_reducible refine (HC3.out _ (by assumption)).mono ?_); rintro e w7 ⟨rfl, hb7⟩)
      | (go_at_call 16; (with_reducible refine (HC4.out _ (by assumption)).mono ?_); rintro e w8 ⟨rfl, hb8⟩)
      | (go_at_call 17; (with_reducible refine (HC5.out _ (by assumption)).mono ?_); rintro e w9 ⟨rfl, hb9⟩)
      | (go_at_call 11; (with_reducible refine (HC6.out _ (by assumption)).mono ?_); rintro e w10 ⟨rfl, hb10⟩)
      | (go_at_call 17; (with_reducible refine (HC7.out _ (by assumption)).mono ?_); rintro e w11 ⟨rfl, hb11⟩))
    all_goals
      go_wp2
      go_ret
      exact ⟨rfl, HB3.out.trans (Below.mono (by assumption) HB3.out.size)⟩

theorem trees_any {F G : Nat → Prop} {T U : Wood} (x y : NV) (w : World) (hM : Pow w) (hv : NodeIn F w (.agg #[.int .i64 x.op, .slice x.A x.ns x.cs, .int .i64 x.mn, .int .i64 x.mx, .slice x.D x.nk x.ck]) T) (hu : NodeIn G w (.agg #[.int .i64 y.op, .slice y.A y.ns y.cs, .int .i64 y.mn, .int .i64 y.mx, .slice y.D y.nk y.ck]) U) (wT : WfW T) (wU : WfW U) :
    Calls Tryd.prog 4 #[.agg #[.int .i64 x.op, .slice x.A x.ns x.cs, .int .i64 x.mn, .int .i64 x.mx, .slice x.D x.nk x.ck], .agg #[.int .i64 y.op, .slice y.A y.ns y.cs, .int .i64 y.mn, .int .i64 y.mx, .slice y.D y.nk y.ck]] w fun e w' => e = .returned (.bool true) ∧ Below w.heap.size w w' := by
  cases h : shalD 5 T with
  | false => exact trees_no1 x y w hM hv hu h
  | true =>
    cases h2 : shalD 5 U with
    | false => exact trees_no2 x y w hM hv hu h h2
    | true => exact trees_yes x y w hM hv hu wT wU h h2
end Go.Proofs.YtajnedkjmgjjbaaDoor
