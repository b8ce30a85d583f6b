/- slices.SortFunc over ranges, by where they begin: the library's own contract, laid at this program. -/
import Derived.Shelf.SlSortCmp.WholeK
import Derived.Shelf.SlSortCmp.NoneTotal
import Derived.Test.YtiiclhkibpmgmaaSetK
namespace Go.Proofs
open Go.Shelf
def Try.sortG_ren : Go.Shelf.Ren := ⟨fun | 6 => 24 | 15 => 31 | 14 => 30 | 28 => 43 | 29 => 44 | 20 => 35 | 21 => 36 | 22 => 37 | 23 => 38 | 24 => 39 | 25 => 40 | 26 => 41 | 27 => 42 | 46 => 45 | 47 => 46 | 48 => 47 | 49 => 48 | 50 => 49 | 57 => 50 | n => n, fun | 22 => 22 | 24 => 39 | 25 => 45 | 3 => 3 | 39 => 51 | 0 => 0 | 53 => 64 | 55 => 66 | 4 => 4 | 46 => 58 | 45 => 57 | 50 => 40 | 5 => 5 | 9 => 9 | 66 => 67 | 70 => 71 | 76 => 73 | 77 => 74 | n => n, fun | n => n⟩
theorem Try.sortG : Go.Proofs.SlLaysF0.n6 Try.prog Try.sortG_ren := {
  mixed := by kernel_rfl
  f6 := ⟨Try.f24.name, by kernel_rfl, Try.func24.trans (congrArg some (by kernel_rfl))⟩
  f14 := ⟨Try.f30.name, by kernel_rfl, Try.func30.trans (congrArg some (by kernel_rfl))⟩
  f15 := Try.func31.trans (congrArg some (by kernel_rfl))
  f20 := ⟨Try.f35.name, by kernel_rfl, Try.func35.trans (congrArg some (by kernel_rfl))⟩
  f21 := ⟨Try.f36.name, by kernel_rfl, Try.func36.trans (congrArg some (by kernel_rfl))⟩
  f22 := ⟨Try.f37.name, by kernel_rfl, Try.func37.trans (congrArg some (by kernel_rfl))⟩
  f23 := ⟨Try.f38.name, by kernel_rfl, Try.func38.trans (congrArg some (by kernel_rfl))⟩
  f24 := ⟨Try.f39.name, by kernel_rfl, Try.func39.trans (congrArg some (by kernel_rfl))⟩
  f25 := ⟨Try.f40.name, by kernel_rfl, Try.func40.trans (congrArg some (by kernel_rfl))⟩
  f26 := ⟨Try.f41.name, by kernel_rfl, Try.func41.trans (congrArg some (by kernel_rfl))⟩
  f27 := ⟨Try.f42.name, by kernel_rfl, Try.func42.trans (congrArg some (by kernel_rfl))⟩
  f28 := Try.func43.trans (congrArg some (by kernel_rfl))
  f29 := Try.func44.trans (congrArg some (by kernel_rfl))
  f46 := ⟨Try.f45.name, by kernel_rfl, Try.func45.trans (congrArg some (by kernel_rfl))⟩
  f47 := Try.func46.trans (congrArg some (by kernel_rfl))
  f48 := Try.func47.trans (congrArg some (by kernel_rfl))
  f49 := ⟨Try.f48.name, by kernel_rfl, Try.func48.trans (congrArg some (by kernel_rfl))⟩
  f50 := ⟨Try.f49.name, by kernel_rfl, Try.func49.trans (congrArg some (by kernel_rfl))⟩
  f57 := ⟨Try.f50.name, by kernel_rfl, Try.func50.trans (congrArg some (by kernel_rfl))⟩
  t0 := Try.underlying0
  a0 := Try.isAgg0
  z0 := Try.sizeOf0
  v0 := Try.zeroValue0
  t3 := Try.underlying3
  a3 := Try.isAgg3
  z3 := Try.sizeOf3
  v3 := Try.zeroValue3
  t4 := Try.underlying4
  a4 := Try.isAgg4
  z4 := Try.sizeOf4
  v4 := Try.zeroValue4
  t5 := Try.underlying5
  a5 := Try.isAgg5
  z5 := Try.sizeOf5
  v5 := Try.zeroValue5
  t9 := Try.underlying9
  a9 := Try.isAgg9
  z9 := Try.sizeOf9
  v9 := Try.zeroValue9
  t22 := Try.underlying22
  a22 := Try.isAgg22
  z22 := Try.sizeOf22
  v22 := Try.zeroValue22
  t25 := Try.underlying45
  a25 := Try.isAgg45
  z25 := Try.sizeOf45
  v25 := Try.zeroValue45
  t39 := Try.underlying51
  a39 := Try.isAgg51
  z39 := Try.sizeOf51
  v39 := Try.zeroValue51
  t45 := Try.underlying57
  a45 := Try.isAgg57
  z45 := Try.sizeOf57
  v45 := Try.zeroValue57
  t46 := Try.underlying58
  a46 := Try.isAgg58
  z46 := Try.sizeOf58
  v46 := Try.zeroValue58
  t50 := Try.underlying40
  a50 := Try.isAgg40
  z50 := Try.sizeOf40
  v50 := Try.zeroValue40
  t53 := Try.underlying64
  a53 := Try.isAgg64
  z53 := Try.sizeOf64
  v53 := Try.zeroValue64
  t55 := Try.underlying66
  a55 := Try.isAgg66
  z55 := Try.sizeOf66
  v55 := Try.zeroValue66
  t66 := Try.underlying67
  a66 := Try.isAgg67
  z66 := Try.sizeOf67
  v66 := Try.zeroValue67
  t70 := Try.underlying71
  a70 := Try.isAgg71
  z70 := Try.sizeOf71
  v70 := Try.zeroValue71
  t76 := Try.underlying73
  a76 := Try.isAgg73
  z76 := Try.sizeOf73
  v76 := Try.zeroValue73
  t77 := Try.underlying74
  a77 := Try.isAgg74
  z77 := Try.sizeOf74
  v77 := Try.zeroValue74 }
end Go.Proofs
namespace Go.Proofs.Ytiiclhkibpmgmaa
open Go Go.RowKit
set_option linter.unusedVariables false

def encG (p : Int × Int) : List Value := [.int .i64 p.1, .int .i64 p.2]
/-- cmp.Compare of where two ranges begin. -/
def cfG (x y : Int × Int) : Int := if x.1 < y.1 then -1 else if y.1 < x.1 then 1 else 0
theorem ltG (x y : Int × Int) : ltOf cfG x y = decide (x.1 < y.1) := by
  unfold ltOf cfG
  apply decide_eq_decide.2
  split
  · omega
  · split <;> omega
theorem swoG : Go.Sort.SWO (ltOf cfG) where
  irrefl x := by rw [ltG]; exact decide_eq_false (by omega)
  trans x y z h1 h2 := by
    rw [ltG, decide_eq_true_eq] at *
    omega
  ntrans x y z h1 h2 := by
    rw [ltG, decide_eq_false_iff_not] at *
    omega
theorem compare_any (x y : Int × Int) (W : World) :
    Calls Try.prog 26 #[.int .i64 x.1, .int .i64 y.1] W fun e w' => e = .returned (.int .i64 (cfG x y)) ∧ w' = W := by
  obtain ⟨a, a'⟩ := x
  obtain ⟨b, b'⟩ := y
  go_enter Try.func26, Try.ntmps26
  by_cases h1 : a < b
  · have HF : Hid (cfG (a, a') (b, b') = -1) := Lib.hid (if_pos h1)
    go_wp2
    go_ret
    rw [HF.out]
    exact ⟨rfl, rfl⟩
  · by_cases h2 : b < a
    · have HF : Hid (cfG (a, a') (b, b') = 1) := Lib.hid (by unfold cfG; rw [if_neg h1, if_pos h2])
      have h3 : a > b := h2
      go_wp2
      go_ret
      rw [HF.out]
      exact ⟨rfl, rfl⟩
    · have HF : Hid (cfG (a, a') (b, b') = 0) := Lib.hid (by unfold cfG; rw [if_neg h1, if_neg h2])
      have h3 : ¬ a > b := h2
      go_wp2
      go_ret
      rw [HF.out]
      exact ⟨rfl, rfl⟩
theorem closure_any (x y : Int × Int) (W : World) :
    Calls Try.prog 25 #[.agg #[.int .i64 x.1, .int .i64 x.2], .agg #[.int .i64 y.1, .int .i64 y.2]] W fun e w' => e = .returned (.int .i64 (cfG x y)) ∧ ∃ q os', w' = Go.Sort.grow (W.drewN q) os' := by
  have HC := Lib.hid fun W' => compare_any x y W'
  go_enter Try.func25, Try.ntmps25
  go_wp2_with (go_at_call 26; refine (HC.out _).mono ?_; rintro e w' ⟨rfl, rfl⟩)
  go_ret
  exact ⟨rfl, 0, _, by rw [Go.Sort.alloc_eq_grow, Go.Sort.alloc_eq_grow, Go.Sort.grow_grow]; rfl⟩
theorem cmpLays_any (blk off size : Nat) (w : World) : CmpLays Try.prog 25 #[] encG 2 cfG blk off size w := fun _ _ _ _ x y => closure_any x y _

theorem flatG (s : List (Int × Int)) : Go.Sort.flatK encG 2 s.toArray = (cellsG s).toArray := by
  apply Array.ext
  · simp [cellsG_length]
  · intro t h1 h2
    have ht : t < s.length * 2 := by simpa using h1
    have e1 := Go.Sort.get_flatK encG 2 s.toArray t (by simpa using ht)
    rw [getElem!_pos _ t h1] at e1
    rw [e1]
    obtain ⟨c0, c1⟩ := cellsG_at s (t / 2) (by omega)
    have hg : s.toArray[t / 2]! = s.getD (t / 2) (0, 0) := by
      rw [getElem!_pos _ (t / 2) (by simp; omega)]
      simp [List.getD, List.getElem?_eq_getElem (show t / 2 < s.length by omega)]
    rw [hg]
    have h3 : (cellsG s).toArray[t] = (cellsG s)[t]'(by simpa using h2) := by simp
    rw [h3]
    rcases Nat.mod_two_eq_zero_or_one t with hm | hm
    · have e : t / 2 * 2 = t := by omega
      rw [e, List.getElem?_eq_getElem (by simpa using h2)] at c0
      injection c0 with c0
      rw [c0, hm]
      rfl
    · have e : t / 2 * 2 + 1 = t := by omega
      rw [e, List.getElem?_eq_getElem (by simpa using h2)] at c1
      injection c1 with c1
      rw [c1, hm]
      rfl

set_option maxHeartbeats 1000000 in
/-- Behind the sort: the same ranges, none of which begins ahead of one that stands ahead of it. -/
theorem sort_any {B : Nat} {P : Option Addr} {q pc : Nat} {s : List (Int × Int)} {w : World} (h : w.ownsRow B 39 2 (.slice P q pc) q (cellsG s)) (hq : q ≤ 3000000) :
    Calls Try.prog 24 #[.slice P q pc, .func (.func 25) #[] #[]] w fun e w' => e = .returned (.tuple #[]) ∧ ∃ t : List (Int × Int), t.Perm s ∧ (t.Pairwise fun a b => a.1 ≤ b.1) ∧ RowG w' P q t ∧ Below B w w' := by
  have hl : s.length = q := by have := h.1; rw [cellsG_length] at this; omega
  rcases h.2 with ⟨e, rfl⟩ | ⟨g, cap, cur, e, hB, hg, hnc, hcm, hcs, ht⟩
  · injection e with e1 e2 e3
    subst e1; subst e3
    have hs : s = [] := List.eq_nil_of_length_eq_zero hl
    subst hs
    have hc := AnyF.slices_SortFunc_none (P := Try.prog) Try.sortG none 0 (.func (.func 25) #[] #[]) w
    change Calls Try.prog 24 _ _ _ at hc
    refine hc.mono ?_
    rintro e w' ⟨rfl, rfl⟩
    exact ⟨rfl, [], List.Perm.refl _, List.Pairwise.nil, ⟨rfl, fun h => absurd h (by omega)⟩, Below.refl _ _⟩
  · injection e with e1 e2 e3
    subst e1; subst e3
    have hH : Go.Sort.HoldsK encG 2 w g 0 s.toArray := by
      unfold Go.Sort.HoldsK
      rw [flatG]
      intro j hj
      have hj' : j < q * 2 := by simpa [cellsG_length, hl] using hj
      refine ⟨?_, by simp [World.frozen?, hg]⟩
      rw [cell_of_row w g (0 + j) cur 39 (0, 0) hg, Nat.zero_add, ← Array.getElem?_toList, ← List.getElem?_take_of_lt hj', ht, getElem!_pos _ j hj]
      simp
    have eg : ∀ args w, (callFunc 25 args).run Try.prog w = .ok (.enter 25 args) w := enters_of Try.func25 (by kernel_rfl) rfl
    have hlt := (Array.getElem?_eq_some_iff.1 hg).1
    have hc := AnyQ.slices_SortFunc (P := Try.prog) Try.sortG 2 Try.isAgg39 Try.sizeOf39 encG (fun _ => rfl) (fun x v hv => by simp [encG] at hv; rcases hv with rfl | rfl <;> rfl) cfG swoG 25 #[] g 0 pc s.toArray w eg (cmpLays_any g 0 _ w) hH hlt (by simp; omega)
    change Calls Try.prog 24 _ _ _ at hc
    rw [show s.toArray.size = q by simpa using hl] at hc
    refine hc.mono ?_
    rintro e w' ⟨rfl, d', m, os, hp, hs, hw⟩
    have hsz : d'.size = q := by have := hp.1; simpa [hl] using this
    have hH2 : Go.Sort.HoldsK encG 2 w' g 0 d' := by
      rw [hw]
      exact holdsK_sortWorldK_c encG 2 w g 0 s.toArray d' m os hH hlt (by simpa [hl] using hsz)
    refine ⟨rfl, d'.toList, ?_, ?_, ⟨by simpa using hsz, fun hn => ⟨g, 0, rfl, ?_, fun j hj => ?_⟩⟩, ?_⟩
    · have := hp.2.2
      rw [show d'.extract 0 q = d' by rw [← hsz]; simp, show s.toArray.extract 0 q = s.toArray by rw [← hl]; simp] at this
      simpa using this
    · rw [List.pairwise_iff_getElem]
      intro i j hi hj hij
      have hi' : i < d'.size := by simpa using hi
      have hj' : j < d'.size := by simpa using hj
      have := hs i j (Nat.zero_le _) hij (by omega)
      rw [ltG, getElem!_pos _ j hj', getElem!_pos _ i hi', decide_eq_false_iff_not] at this
      simp only [Array.getElem_toList]
      omega
    · rw [hw]
      exact Nat.lt_of_lt_of_le hlt (size_sortWorldK_c encG 2 w g 0 m d' os)
    · have k0 := (hH2.cell (i := j) (c := 0) (by omega) (by omega)).1
      have k1 := (hH2.cell (i := j) (c := 1) (by omega) (by omega)).1
      have hd : d'[j]! = d'.toList.getD j (0, 0) := by
        rw [getElem!_pos _ j (by omega)]
        simp [List.getD, Array.getElem?_eq_getElem (show j < d'.size by omega)]
      rw [hd] at k0 k1
      exact ⟨k0, k1⟩
    · rw [hw]
      refine ⟨rfl, rfl, rfl, size_sortWorldK_c encG 2 w g 0 m d' os, fun k hk => ?_⟩
      have hkg : k ≠ g := by omega
      have hkw : k < w.heap.size := by omega
      unfold sortWorldK
      rw [Go.Sort.heap_grow_old _ _ (by rw [Go.Sort.size_putRowK]; exact hkw)]
      unfold Go.Sort.putRowK Go.Sort.putRow Go.Sort.mapBlock
      simp only [Array.getElem?_modify]
      rw [if_neg (Ne.symm hkg)]
      rfl
end Go.Proofs.Ytiiclhkibpmgmaa
