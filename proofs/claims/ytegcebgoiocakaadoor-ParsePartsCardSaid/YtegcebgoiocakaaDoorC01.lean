/- The program's clip. -/
import Derived.Test.YtegcebgoiocakaaDoorA06
import Derived.Test.YtegcebgoiocakaaDoorA07
import Derived.Lib.MinMax
import Derived.Shelf.SlSortCmp.WholeK
import Derived.Shelf.SlSortCmp.NoneTotal
import Derived.BigQuiet
import Derived.BigRegion
namespace Go.Proofs.YtegcebgoiocakaaDoor
open Go Go.RowKit
set_option linter.unusedVariables false

set_option maxHeartbeats 1000000 in
theorem clip_any (s : List (Int × Int)) (A : Option Addr) (n c : Nat) (W : World) (hin : RowG W A n s) (hn : n ≤ 2000000) :
    Calls Tryd.prog 46 #[.slice A n c] W fun e w' => ∃ P q pc, e = .returned (.slice P q pc) ∧ w'.ownsRow W.heap.size 51 2 (.slice P q pc) q (cellsG (clipL s)) ∧ Below W.heap.size W w' := by
  have HR := Lib.hid hin; clear hin
  go_enter Tryd.func46, Tryd.ntmps46
  go_wp2
  go_loopw [3, 9] (fun vo vi wr => ∃ (k q pc : Nat) (P : Option Addr), vo = .slice P q pc ∧ vi = .int .i64 (k : Int) ∧ k ≤ n ∧ q ≤ k ∧ Hid (wr.ownsRow W.heap.size 51 2 (.slice P q pc) q (cellsG (clipL (s.take k))) ∧ Below W.heap.size W wr)) (fun _ vi _ => n - (intOf vi).toNat)
  case atStart =>
    exact ⟨0, 0, 0, none, rfl, rfl, Nat.zero_le _, Nat.le_refl _, Lib.hid ⟨nilG W _, Below.refl _ _⟩⟩
  case round =>
    obtain ⟨k, q, pc, P, rfl, rfl, hk, hq, HO⟩ := hrel
    by_cases hlt : k < n
    · obtain ⟨b, o, rfl, hbw, hc⟩ := HR.out.2 (by omega)
      obtain ⟨c0, c1⟩ := hc k hlt
      have d0 := (HO.out.2.cell (p := ⟨b, o + k * 2, none⟩) hbw).trans c0
      have d1 := (HO.out.2.cell (p := ⟨b, o + k * 2 + 1, none⟩) hbw).trans c1
      have hts := take_snoc (t := s) (k := k) (by have := HR.out.1; omega)
      obtain ⟨p, hp⟩ : ∃ p, p = s.getD k (0, 0) := ⟨_, rfl⟩
      rw [← hp] at d0 d1 hts
      obtain ⟨x, y⟩ := p
      have hcs := clipL_snoc (s.take k) (x, y)
      rw [← hts] at hcs
      clear hc c0 c1 hp hts
      dsimp only at d0 d1 hcs
      by_cases hxy : max x 0 ≤ min y 1114111
      · rw [if_pos hxy] at hcs
        have hb1 : Below wr.heap.size wr ((wr.alloc (.cells #[.int .i64 x, .int .i64 y] 51)).alloc (.cells #[.int .i64 (max x 0), .int .i64 (min y 1114111)] 51)) := ((Below.refl _ _).alloc (Nat.le_refl _) _).alloc (by simp) _
        obtain ⟨P', pc', w', happ, hown, hbel⟩ := push_rngs (ownG_kept HO.out.1 hb1) [(max x 0, min y 1114111)] (by omega) (by simp) (then_ HO.out.2 hb1)
        rw [show ((wr.alloc (.cells #[.int .i64 x, .int .i64 y] 51)).alloc (.cells #[.int .i64 (max x 0), .int .i64 (min y 1114111)] 51)).heap.size = wr.heap.size + 1 + 1 by simp] at happ
        rw [← hcs] at hown
        have HA := Lib.hid happ
        have H2 := Lib.hid (And.intro hown hbel)
        clear happ hown hbel hb1 hcs
        go_wp2_with (at_builtin; refine wpList_append_run rfl _ _ 23 rfl rfl _ _ _ _ rfl rfl HA.out ?_)
        exact ⟨⟨k + 1, q + 1, pc', P', rfl, by go_num, by omega, by omega, H2⟩, by simp [intOf]; omega⟩
      · rw [if_neg hxy, List.append_nil] at hcs
        have H2 := Lib.hid (And.intro (hcs ▸ ownG_kept HO.out.1 (((Below.refl _ wr).alloc (Nat.le_refl _) (.cells #[.int .i64 x, .int .i64 y] 51)).alloc (by simp) (.cells #[.int .i64 (max x 0), .int .i64 (min y 1114111)] 51))) (HO.out.2.trans (Below.mono (((Below.refl _ wr).alloc (Nat.le_refl _) (.cells #[.int .i64 x, .int .i64 y] 51)).alloc (by simp) (.cells #[.int .i64 (max x 0), .int .i64 (min y 1114111)] 51)) HO.out.2.size)))
        clear hcs
        go_wp2
        exact ⟨⟨k + 1, q, pc, P, rfl, by go_num, by omega, by omega, H2⟩, by simp [intOf]; omega⟩
    · have hkn : k = n := by omega
      subst hkn
      have hts : s.take k = s := List.take_of_length_le (by have := HR.out.1; omega)
      go_wp2
      go_ret
      rw [hts] at HO
      exact ⟨P, q, pc, rfl, HO.out.1, HO.out.2⟩
end Go.Proofs.YtegcebgoiocakaaDoor
/- slices.SortFunc over ranges, by where they begin: the library's own contract, laid at this program. -/
namespace Go.Proofs
open Go.Shelf
def Tryd.sortG_ren : Go.Shelf.Ren := ⟨fun | 6 => 47 | 15 => 56 | 14 => 55 | 28 => 71 | 29 => 59 | 20 => 63 | 21 => 64 | 22 => 65 | 23 => 66 | 24 => 67 | 25 => 68 | 26 => 69 | 27 => 70 | 46 => 74 | 47 => 75 | 48 => 76 | 49 => 77 | 50 => 78 | 57 => 79 | n => n, fun | 22 => 23 | 24 => 51 | 25 => 76 | 3 => 3 | 39 => 60 | 0 => 0 | 53 => 87 | 55 => 71 | 4 => 4 | 46 => 91 | 45 => 90 | 50 => 56 | 5 => 5 | 9 => 9 | 66 => 97 | 70 => 101 | 76 => 105 | 77 => 44 | n => n, fun | n => n⟩
theorem Tryd.sortG : Go.Proofs.SlLaysF0.n6 Tryd.prog Tryd.sortG_ren := {
  mixed := by kernel_rfl
  f6 := ⟨Tryd.f47.name, by kernel_rfl, Tryd.func47.trans (congrArg some (by kernel_rfl))⟩
  f14 := ⟨Tryd.f55.name, by kernel_rfl, Tryd.func55.trans (congrArg some (by kernel_rfl))⟩
  f15 := Tryd.func56.trans (congrArg some (by kernel_rfl))
  f20 := ⟨Tryd.f63.name, by kernel_rfl, Tryd.func63.trans (congrArg some (by kernel_rfl))⟩
  f21 := ⟨Tryd.f64.name, by kernel_rfl, Tryd.func64.trans (congrArg some (by kernel_rfl))⟩
  f22 := ⟨Tryd.f65.name, by kernel_rfl, Tryd.func65.trans (congrArg some (by kernel_rfl))⟩
  f23 := ⟨Tryd.f66.name, by kernel_rfl, Tryd.func66.trans (congrArg some (by kernel_rfl))⟩
  f24 := ⟨Tryd.f67.name, by kernel_rfl, Tryd.func67.trans (congrArg some (by kernel_rfl))⟩
  f25 := ⟨Tryd.f68.name, by kernel_rfl, Tryd.func68.trans (congrArg some (by kernel_rfl))⟩
  f26 := ⟨Tryd.f69.name, by kernel_rfl, Tryd.func69.trans (congrArg some (by kernel_rfl))⟩
  f27 := ⟨Tryd.f70.name, by kernel_rfl, Tryd.func70.trans (congrArg some (by kernel_rfl))⟩
  f28 := Tryd.func71.trans (congrArg some (by kernel_rfl))
  f29 := Tryd.func59.trans (congrArg some (by kernel_rfl))
  f46 := ⟨Tryd.f74.name, by kernel_rfl, Tryd.func74.trans (congrArg some (by kernel_rfl))⟩
  f47 := Tryd.func75.trans (congrArg some (by kernel_rfl))
  f48 := Tryd.func76.trans (congrArg some (by kernel_rfl))
  f49 := ⟨Tryd.f77.name, by kernel_rfl, Tryd.func77.trans (congrArg some (by kernel_rfl))⟩
  f50 := ⟨Tryd.f78.name, by kernel_rfl, Tryd.func78.trans (congrArg some (by kernel_rfl))⟩
  f57 := ⟨Tryd.f79.name, by kernel_rfl, Tryd.func79.trans (congrArg some (by kernel_rfl))⟩
  t0 := Tryd.underlying0
  a0 := Tryd.isAgg0
  z0 := Tryd.sizeOf0
  v0 := Tryd.zeroValue0
  t3 := Tryd.underlying3
  a3 := Tryd.isAgg3
  z3 := Tryd.sizeOf3
  v3 := Tryd.zeroValue3
  t4 := Tryd.underlying4
  a4 := Tryd.isAgg4
  z4 := Tryd.sizeOf4
  v4 := Tryd.zeroValue4
  t5 := Tryd.underlying5
  a5 := Tryd.isAgg5
  z5 := Tryd.sizeOf5
  v5 := Tryd.zeroValue5
  t9 := Tryd.underlying9
  a9 := Tryd.isAgg9
  z9 := Tryd.sizeOf9
  v9 := Tryd.zeroValue9
  t22 := Tryd.underlying23
  a22 := Tryd.isAgg23
  z22 := Tryd.sizeOf23
  v22 := Tryd.zeroValue23
  t25 := Tryd.underlying76
  a25 := Tryd.isAgg76
  z25 := Tryd.sizeOf76
  v25 := Tryd.zeroValue76
  t39 := Tryd.underlying60
  a39 := Tryd.isAgg60
  z39 := Tryd.sizeOf60
  v39 := Tryd.zeroValue60
  t45 := Tryd.underlying90
  a45 := Tryd.isAgg90
  z45 := Tryd.sizeOf90
  v45 := Tryd.zeroValue90
  t46 := Tryd.underlying91
  a46 := Tryd.isAgg91
  z46 := Tryd.sizeOf91
  v46 := Tryd.zeroValue91
  t50 := Tryd.underlying56
  a50 := Tryd.isAgg56
  z50 := Tryd.sizeOf56
  v50 := Tryd.zeroValue56
  t53 := Tryd.underlying87
  a53 := Tryd.isAgg87
  z53 := Tryd.sizeOf87
  v53 := Tryd.zeroValue87
  t55 := Tryd.underlying71
  a55 := Tryd.isAgg71
  z55 := Tryd.sizeOf71
  v55 := Tryd.zeroValue71
  t66 := Tryd.underlying97
  a66 := Tryd.isAgg97
  z66 := Tryd.sizeOf97
  v66 := Tryd.zeroValue97
  t70 := Tryd.underlying101
  a70 := Tryd.isAgg101
  z70 := Tryd.sizeOf101
  v70 := Tryd.zeroValue101
  t76 := Tryd.underlying105
  a76 := Tryd.isAgg105
  z76 := Tryd.sizeOf105
  v76 := Tryd.zeroValue105
  t77 := Tryd.underlying44
  a77 := Tryd.isAgg44
  z77 := Tryd.sizeOf44
  v77 := Tryd.zeroValue44 }
end Go.Proofs
namespace Go.Proofs.YtegcebgoiocakaaDoor
open Go Go.RowKit
set_option linter.unusedVariables false

def encG (p : Int × Int) : List Value := [.int .i64 p.1, .int .i64 p.2]
/-- cmp.Compare of where two ranges begin. -/
def cfG (x y : Int × Int) : Int := if x.1 < y.1 then -1 else if y.1 < x.1 then 1 else 0
theorem ltG (x y : Int × Int) : ltOf cfG x y = decide (x.1 < y.1) := by
  unfold ltOf cfG
  apply decide_eq_decide.2
  split
  · omega
  · split <;> omega
theorem swoG : Go.Sort.SWO (ltOf cfG) where
  irrefl x := by rw [ltG]; exact decide_eq_false (by omega)
  trans x y z h1 h2 := by
    rw [ltG, decide_eq_true_eq] at *
    omega
  ntrans x y z h1 h2 := by
    rw [ltG, decide_eq_false_iff_not] at *
    omega
theorem compare_any (x y : Int × Int) (W : World) :
    Calls Tryd.prog 49 #[.int .i64 x.1, .int .i64 y.1] W fun e w' => e = .returned (.int .i64 (cfG x y)) ∧ w' = W := by
  obtain ⟨a, a'⟩ := x
  obtain ⟨b, b'⟩ := y
  go_enter Tryd.func49, Tryd.ntmps49
  by_cases h1 : a < b
  · have HF : Hid (cfG (a, a') (b, b') = -1) := Lib.hid (if_pos h1)
    go_wp2
    go_ret
    rw [HF.out]
    exact ⟨rfl, rfl⟩
  · by_cases h2 : b < a
    · have HF : Hid (cfG (a, a') (b, b') = 1) := Lib.hid (by unfold cfG; rw [if_neg h1, if_pos h2])
      have h3 : a > b := h2
      go_wp2
      go_ret
      rw [HF.out]
      exact ⟨rfl, rfl⟩
    · have HF : Hid (cfG (a, a') (b, b') = 0) := Lib.hid (by unfold cfG; rw [if_neg h1, if_neg h2])
      have h3 : ¬ a > b := h2
      go_wp2
      go_ret
      rw [HF.out]
      exact ⟨rfl, rfl⟩
theorem closure_any (x y : Int × Int) (W : World) :
    Calls Tryd.prog 48 #[.agg #[.int .i64 x.1, .int .i64 x.2], .agg #[.int .i64 y.1, .int .i64 y.2]] W fun e w' => e = .returned (.int .i64 (cfG x y)) ∧ ∃ q os', w' = Go.Sort.grow (W.drewN q) os' := by
  have HC := Lib.hid fun W' => compare_any x y W'
  go_enter Tryd.func48, Tryd.ntmps48
  go_wp2_with (go_at_call 49; refine (HC.out _).mono ?_; rintro e w' ⟨rfl, rfl⟩)
  go_ret
  exact ⟨rfl, 0, _, by rw [Go.Sort.alloc_eq_grow, Go.Sort.alloc_eq_grow, Go.Sort.grow_grow]; rfl⟩
theorem cmpLays_any (blk off size : Nat) (w : World) : CmpLays Tryd.prog 48 #[] encG 2 cfG blk off size w := fun _ _ _ _ x y => closure_any x y _

theorem flatG (s : List (Int × Int)) : Go.Sort.flatK encG 2 s.toArray = (cellsG s).toArray := by
  apply Array.ext
  · simp [cellsG_length]
  · intro t h1 h2
    have ht : t < s.length * 2 := by simpa using h1
    have e1 := Go.Sort.get_flatK encG 2 s.toArray t (by simpa using ht)
    rw [getElem!_pos _ t h1] at e1
    rw [e1]
    obtain ⟨c0, c1⟩ := cellsG_at s (t / 2) (by omega)
    have hg : s.toArray[t / 2]! = s.getD (t / 2) (0, 0) := by
      rw [getElem!_pos _ (t / 2) (by simp; omega)]
      simp [List.getD, List.getElem?_eq_getElem (show t / 2 < s.length by omega)]
    rw [hg]
    have h3 : (cellsG s).toArray[t] = (cellsG s)[t]'(by simpa using h2) := by simp
    rw [h3]
    rcases Nat.mod_two_eq_zero_or_one t with hm | hm
    · have e : t / 2 * 2 = t := by omega
      rw [e, List.getElem?_eq_getElem (by simpa using h2)] at c0
      injection c0 with c0
      rw [c0, hm]
      rfl
    · have e : t / 2 * 2 + 1 = t := by omega
      rw [e, List.getElem?_eq_getElem (by simpa using h2)] at c1
      injection c1 with c1
      rw [c1, hm]
      rfl

set_option maxHeartbeats 1000000 in
/-- Behind the sort: the same ranges, none of which begins ahead of one that stands ahead of it. -/
theorem sort_any {B : Nat} {P : Option Addr} {q pc : Nat} {s : List (Int × Int)} {w : World} (h : w.ownsRow B 51 2 (.slice P q pc) q (cellsG s)) (hq : q ≤ 3000000) :
    Calls Tryd.prog 47 #[.slice P q pc, .func (.func 48) #[] #[]] w fun e w' => e = .returned (.tuple #[]) ∧ ∃ t : List (Int × Int), t.Perm s ∧ (t.Pairwise fun a b => a.1 ≤ b.1) ∧ RowG w' P q t ∧ Below B w w' := by
  have hl : s.length = q := by have := h.1; rw [cellsG_length] at this; omega
  rcases h.2 with ⟨e, rfl⟩ | ⟨g, cap, cur, e, hB, hg, hnc, hcm, hcs, ht⟩
  · injection e with e1 e2 e3
    subst e1; subst e3
    have hs : s = [] := List.eq_nil_of_length_eq_zero hl
    subst hs
    have hc := AnyF.slices_SortFunc_none (P := Tryd.prog) Tryd.sortG none 0 (.func (.func 48) #[] #[]) w
    change Calls Tryd.prog 47 _ _ _ at hc
    refine hc.mono ?_
    rintro e w' ⟨rfl, rfl⟩
    exact ⟨rfl, [], List.Perm.refl _, List.Pairwise.nil, ⟨rfl, fun h => absurd h (by omega)⟩, Below.refl _ _⟩
  · injection e with e1 e2 e3
    subst e1; subst e3
    have hH : Go.Sort.HoldsK encG 2 w g 0 s.toArray := by
      unfold Go.Sort.HoldsK
      rw [flatG]
      intro j hj
      have hj' : j < q * 2 := by simpa [cellsG_length, hl] using hj
      refine ⟨?_, by simp [World.frozen?, hg]⟩
      rw [cell_of_row w g (0 + j) cur 51 (0, 0) hg, Nat.zero_add, ← Array.getElem?_toList, ← List.getElem?_take_of_lt hj', ht, getElem!_pos _ j hj]
      simp
    have eg : ∀ args w, (callFunc 48 args).run Tryd.prog w = .ok (.enter 48 args) w := enters_of Tryd.func48 (by kernel_rfl) rfl
    have hlt := (Array.getElem?_eq_some_iff.1 hg).1
    have hc := AnyQ.slices_SortFunc (P := Tryd.prog) Tryd.sortG 2 Tryd.isAgg51 Tryd.sizeOf51 encG (fun _ => rfl) (fun x v hv => by simp [encG] at hv; rcases hv with rfl | rfl <;> rfl) cfG swoG 48 #[] g 0 pc s.toArray w eg (cmpLays_any g 0 _ w) hH hlt (by simp; omega)
    change Calls Tryd.prog 47 _ _ _ at hc
    rw [show s.toArray.size = q by simpa using hl] at hc
    refine hc.mono ?_
    rintro e w' ⟨rfl, d', m, os, hp, hs, hw⟩
    have hsz : d'.size = q := by have := hp.1; simpa [hl] using this
    have hH2 : Go.Sort.HoldsK encG 2 w' g 0 d' := by
      rw [hw]
      exact holdsK_sortWorldK_c encG 2 w g 0 s.toArray d' m os hH hlt (by simpa [hl] using hsz)
    refine ⟨rfl, d'.toList, ?_, ?_, ⟨by simpa using hsz, fun hn => ⟨g, 0, rfl, ?_, fun j hj => ?_⟩⟩, ?_⟩
    · have := hp.2.2
      rw [show d'.extract 0 q = d' by rw [← hsz]; simp, show s.toArray.extract 0 q = s.toArray by rw [← hl]; simp] at this
      simpa using this
    · rw [List.pairwise_iff_getElem]
      intro i j hi hj hij
      have hi' : i < d'.size := by simpa using hi
      have hj' : j < d'.size := by simpa using hj
      have := hs i j (Nat.zero_le _) hij (by omega)
      rw [ltG, getElem!_pos _ j hj', getElem!_pos _ i hi', decide_eq_false_iff_not] at this
      simp only [Array.getElem_toList]
      omega
    · rw [hw]
      exact Nat.lt_of_lt_of_le hlt (size_sortWorldK_c encG 2 w g 0 m d' os)
    · have k0 := (hH2.cell (i := j) (c := 0) (by omega) (by omega)).1
      have k1 := (hH2.cell (i := j) (c := 1) (by omega) (by omega)).1
      have hd : d'[j]! = d'.toList.getD j (0, 0) := by
        rw [getElem!_pos _ j (by omega)]
        simp [List.getD, Array.getElem?_eq_getElem (show j < d'.size by omega)]
      rw [hd] at k0 k1
      exact ⟨k0, k1⟩
    · rw [hw]
      refine ⟨rfl, rfl, rfl, size_sortWorldK_c encG 2 w g 0 m d' os, fun k hk => ?_⟩
      have hkg : k ≠ g := by omega
      have hkw : k < w.heap.size := by omega
      unfold sortWorldK
      rw [Go.Sort.heap_grow_old _ _ (by rw [Go.Sort.size_putRowK]; exact hkw)]
      unfold Go.Sort.putRowK Go.Sort.putRow Go.Sort.mapBlock
      simp only [Array.getElem?_modify]
      rw [if_neg (Ne.symm hkg)]
      rfl
end Go.Proofs.YtegcebgoiocakaaDoor
/- The program's Of: a set made of ranges. -/
namespace Go.Proofs.YtegcebgoiocakaaDoor
open Go Go.RowKit
set_option linter.unusedVariables false

set_option maxHeartbeats 4000000 in
theorem of_any (s : List (Int × Int)) (A : Option Addr) (n c : Nat) (W : World) (hin : RowG W A n s) (hn : n ≤ 2000000) :
    Calls Tryd.prog 40 #[.slice A n c] W fun e w' => ∃ V t, e = .returned V ∧ OutG W w' V t ∧ Canon t ∧ ∀ r, hasL t r = hasL s r := by
  have HC := Lib.hid (clip_any s A n c W hin hn)
  have HSL := Lib.hid hin.1
  clear hin
  go_enter Tryd.func40, Tryd.ntmps40
  go_wp2_with (first
    | (go_at_call 46; refine HC.out.mono ?_; rintro e w1 ⟨P, q, pc, rfl, hown, hb1⟩; have HQ := Lib.hid (show q = (clipL s).length by { have := hown.1; rw [cellsG_length] at this; omega }); have hqn : q ≤ 2000000 := by { have := clipL_length s; have := HQ.out; have := HSL.out; omega }; have HB1 := Lib.hid hb1; have HS := Lib.hid (sort_any hown (by omega)); clear hown hb1)
    | (go_at_call 47; refine HS.out.mono ?_; rintro e w2 ⟨rfl, t, hperm, hsort, hrow, hb2⟩; have hwf : ∀ p ∈ t, 0 ≤ p.1 ∧ p.1 ≤ p.2 ∧ p.2 ≤ 1114111 := (fun p hp => clipL_mem (hperm.mem_iff.1 hp)); have HT := Lib.hid (And.intro hrow (And.intro hsort (And.intro hwf (show ∀ r, hasL t r = hasL s r from fun r => (hasL_perm hperm r).trans (clipL_has s r))))); have HB2 := Lib.hid (HB1.out.trans (hb2.mono (Nat.le_refl _))); clear hperm hsort hrow hb2 hwf))
  go_loopw [4, 14] (fun vo vi wr => ∃ (k m pc2 : Nat) (P2 : Option Addr) (u : List (Int × Int)), vo = .slice P2 m pc2 ∧ vi = .int .i64 (k : Int) ∧ k ≤ q ∧ m ≤ k ∧ Hid (wr.ownsRow w2.heap.size 51 2 (.slice P2 m pc2) m (cellsG u) ∧ Below w2.heap.size w2 wr ∧ Half t k u)) (fun _ vi _ => q - (intOf vi).toNat)
  case atStart => exact ⟨0, 0, 0, none, [], rfl, rfl, Nat.zero_le _, Nat.le_refl _, Lib.hid ⟨nilG _ _, Below.refl _ _, half_zero t⟩⟩
  case round =>
    obtain ⟨k, m, pc2, P2, u, rfl, rfl, hk, hm, HO⟩ := hrel
    by_cases hlt : k < q
    · obtain ⟨b, o, rfl, hbw, hc⟩ := HT.out.1.2 (by omega)
      obtain ⟨c0, c1⟩ := hc k hlt
      have d0 := (HO.out.2.1.cell (p := ⟨b, o + k * 2, none⟩) hbw).trans c0
      have d1 := (HO.out.2.1.cell (p := ⟨b, o + k * 2 + 1, none⟩) hbw).trans c1
      have hkt : k < t.length := by have := HT.out.1.1; omega
      obtain ⟨p, hp⟩ : ∃ p, p = t.getD k (0, 0) := ⟨_, rfl⟩
      rw [← hp] at d0 d1
      obtain ⟨x, y⟩ := p
      have HP := Lib.hid hp
      have hal := (Below.refl wr.heap.size wr).alloc (Nat.le_refl _) (.cells #[.int .i64 x, .int .i64 y] 51)
      have HKT := Lib.hid hkt
      clear hc c0 c1 hp hkt
      dsimp only at d0 d1
      rcases List.eq_nil_or_concat u with rfl | ⟨v, ⟨z0, z⟩, rfl⟩
      · have hm0 : m = 0 := by have := HO.out.1.1; simp [cellsG] at this; omega
        subst hm0
        have HAL := Lib.hid hal
        clear hal
        go_wp2
        go_quiet (fail)
        have hb3 : Below wr.heap.size wr ((wr.alloc (.cells #[.int .i64 x, .int .i64 y] 51)).drewN nq) := below_drewN HAL.out nq
        obtain ⟨P', pc', w', happ, hown, hbel⟩ := push_rngs (ownG_kept HO.out.1 hb3) [(x, y)] (by omega) (by simp) (then_ HO.out.2.1 hb3)
        rw [show ((wr.alloc (.cells #[.int .i64 x, .int .i64 y] 51)).drewN nq).heap.size = wr.heap.size + 1 by simp] at happ
        have hh := half_push HO.out.2.2 HKT.out HT.out.2.1 HT.out.2.2.1 (fun q' hq' => by cases hq')
        rw [← HP.out] at hh
        have HA := Lib.hid happ
        have H2 := Lib.hid (And.intro hown (And.intro hbel hh))
        clear happ hown hbel hb3 hh
        go_wp2_with (at_builtin; refine wpList_append_run rfl _ _ 23 rfl rfl _ _ _ _ rfl rfl HA.out ?_)
        exact ⟨⟨k + 1, 0 + 1, pc', P', _, rfl, by go_num, by omega, by omega, H2⟩, by simp [intOf]; omega⟩
      · rw [List.concat_eq_append] at HO
        obtain ⟨g, rfl, hmv, hg0, hg1, _, _, c0, c1, hfz, hst⟩ := last_own (ownG_kept HO.out.1 hal) (then_ HO.out.2.1 hal)
        obtain ⟨_, _, hz1, hz2⟩ := (canonF_snoc (z0, z) v 0).1 HO.out.2.2.1
        have hmv2 : v.length = m - 1 := by omega
        rw [hmv2] at c0 c1 hfz hst
        dsimp only at c0 c1
        have hz0 : -1 ≤ z0 := by
          have := CanonF.wf (Int.le_refl _) HO.out.2.2.1 (z0, z) (by simp)
          dsimp only at this; omega
        have hw : IntKind.i64.wrap (z + 1) = z + 1 := by rw [IntKind.wrap_i64]; dsimp only at hz1 hz2; omega
        have hw2 : IntKind.i64.wrap ((m : Int) - 1) = (m : Int) - 1 := by rw [IntKind.wrap_i64]; omega
        have b1 : (0 : Int) ≤ (m : Int) - 1 := by omega
        have b2 : (m : Int) - 1 < (m : Int) := by omega
        have b3 : ((m : Int) - 1).toNat = m - 1 := by omega
        have b4 : (0 : Int) < (m : Int) := by omega
        have d4 : decide (0 < m) = true := decide_eq_true (by omega)
        have HMV := Lib.hid (And.intro hmv hmv2)
        have HST := Lib.hid hst
        have HAL := Lib.hid hal
        clear hmv hmv2 hst hz0 hg0 hz1 hz2 hal
        by_cases hxz : x ≤ z + 1
        · have d5 : decide (x ≤ z + 1) = true := by simpa using hxz
          go_wp2
          go_quiet (fail)
          go_wp2
          go_region
          have hb3 : Below wr.heap.size wr ((wr.alloc (.cells #[.int .i64 x, .int .i64 y] 51)).drewN (nq + 1)) := below_drewN HAL.out (nq + 1)
          obtain ⟨g', hgg, hmv, _, _, _, _, _, _, _, hst⟩ := last_own (ownG_kept HO.out.1 hb3) (then_ HO.out.2.1 hb3)
          injection hgg with hgg
          injection hgg with hgg
          subst hgg
          rw [HMV.out.2] at hst
          have hh := half_join HO.out.2.2 HKT.out HT.out.2.2.1 (by rw [← HP.out]; exact hxz)
          rw [← HP.out] at hh
          have H2 := Lib.hid (And.intro (hst (max z y)).1 (And.intro (hst (max z y)).2 hh))
          clear hmv hst hb3 hh
          go_wp2
          exact ⟨⟨k + 1, m, pc2, _, _, rfl, by go_num, by omega, by omega, H2⟩, by simp [intOf]; omega⟩
        · have d5 : decide (x ≤ z + 1) = false := by simpa using hxz
          go_wp2
          go_quiet (fail)
          have hb3 : Below wr.heap.size wr ((wr.alloc (.cells #[.int .i64 x, .int .i64 y] 51)).drewN nq) := below_drewN HAL.out nq
          obtain ⟨P', pc', w', happ, hown, hbel⟩ := push_rngs (ownG_kept HO.out.1 hb3) [(x, y)] (by omega) (by simp) (then_ HO.out.2.1 hb3)
          rw [show ((wr.alloc (.cells #[.int .i64 x, .int .i64 y] 51)).drewN nq).heap.size = wr.heap.size + 1 by simp] at happ
          have hh := half_push HO.out.2.2 HKT.out HT.out.2.1 HT.out.2.2.1 (fun q' hq' => by
            rw [← HP.out]
            have e : q' = (z0, z) := by simpa using hq'.symm
            rw [e]
            dsimp only
            omega)
          rw [← HP.out] at hh
          have HA := Lib.hid happ
          have H2 := Lib.hid (And.intro hown (And.intro hbel hh))
          clear happ hown hbel hb3 hh
          go_wp2_with (at_builtin; refine wpList_append_run rfl _ _ 23 rfl rfl _ _ _ _ rfl rfl HA.out ?_)
          exact ⟨⟨k + 1, m + 1, pc', P', _, rfl, by go_num, by omega, by omega, H2⟩, by simp [intOf]; omega⟩
    · have hkq : k = q := by omega
      subst hkq
      have HF := Lib.hid (show Canon u ∧ ∀ r, hasL u r = hasL s r from ⟨HO.out.2.2.1, fun r => (HO.out.2.2.2.1 r).trans (by rw [List.take_of_length_le (by have := HT.out.1.1; omega)]; exact HT.out.2.2.2 r)⟩)
      go_wp2
      go_ret
      have e : m = u.length := by have := HO.out.1.1; rw [cellsG_length] at this; omega
      subst e
      exact ⟨_, u, rfl, ⟨row_base HO.out.1 (fun j hj => Nat.le_trans HB2.out.size (row_lt HO.out.1 hj).1), HB2.out.trans (HO.out.2.1.mono HB2.out.size)⟩, HF.out.1, HF.out.2⟩
end Go.Proofs.YtegcebgoiocakaaDoor
/- The program's Not: the gaps of a set. -/
namespace Go.Proofs.YtegcebgoiocakaaDoor
open Go Go.RowKit
set_option linter.unusedVariables false
set_option maxRecDepth 20000

/-- What was gone through of the set t's ranges k: u are the gaps ahead of L, where the numbers behind them begin. -/
def Gap (t : List (Int × Int)) (k : Nat) (L : Int) (u : List (Int × Int)) : Prop :=
  0 ≤ L ∧ L ≤ 1114112 ∧ CanonF L (t.drop k) ∧ Canon u ∧ endL 0 u ≤ L ∧ (∀ r, hasL u r = (decide (0 ≤ r ∧ r < L) && !hasL (t.take k) r)) ∧ ∀ r, hasL (t.take k) r = true → r < L
theorem gap_zero {t : List (Int × Int)} (h : Canon t) : Gap t 0 0 [] := by
  refine ⟨Int.le_refl _, by decide, h, trivial, Int.le_refl _, fun r => ?_, fun r hr => by cases hr⟩
  rw [hasL_nil, decide_eq_false (by omega), Bool.false_and]
section
variable {t u : List (Int × Int)} {k : Nat} {L x y : Int}
theorem gap_head (h : Gap t k L u) (hk : k < t.length) (hp : (x, y) = t.getD k (0, 0)) : L ≤ x ∧ x ≤ y ∧ y ≤ 1114111 ∧ CanonF (y + 2) (t.drop (k + 1)) := by
  have hd : t.drop k = (x, y) :: t.drop (k + 1) := by
    rw [List.drop_eq_getElem_cons hk, hp, getD_in k hk]
  have := h.2.2.1
  rw [hd] at this
  exact this
theorem gap_take (hk : k < t.length) (hp : (x, y) = t.getD k (0, 0)) (r : Int) : hasL (t.take (k + 1)) r = (hasL (t.take k) r || decide (x ≤ r ∧ r ≤ y ∧ 0 ≤ r ∧ r ≤ 1114111)) := by
  rw [take_snoc hk, ← hp, hasL_append, hasL_cons, hasL_nil, Bool.or_false]
/-- A range with a gap ahead of it. -/
theorem gap_push (h : Gap t k L u) (hk : k < t.length) (hp : (x, y) = t.getD k (0, 0)) (hL : L < x) : Gap t (k + 1) (y + 1) (u ++ [(L, x - 1)]) := by
  obtain ⟨h1, h2, h3, h4⟩ := gap_head h hk hp
  obtain ⟨g1, g2, g3, g4, g5, g6, g7⟩ := h
  refine ⟨by omega, by omega, h4.mono (by omega), (canonF_snoc _ u 0).2 ⟨g4, g5, by dsimp only; omega, by dsimp only; omega⟩, by rw [endL_snoc]; dsimp only; omega, fun r => ?_, fun r hr => ?_⟩
  · rw [gap_take hk hp, hasL_append, g6 r, hasL_cons, hasL_nil, Bool.or_false]
    cases ht : hasL (t.take k) r with
    | true =>
      have := g7 r ht
      simp
      omega
    | false =>
      rw [Bool.not_false, Bool.and_true, Bool.false_or, ← decide_not, ← Bool.decide_or, ← Bool.decide_and]
      apply decide_eq_decide.2
      dsimp only
      omega
  · rw [gap_take hk hp, Bool.or_eq_true] at hr
    rcases hr with hr | hr
    · have := g7 r hr; omega
    · have := of_decide_eq_true hr; omega
/-- A range with none. -/
theorem gap_skip (h : Gap t k L u) (hk : k < t.length) (hp : (x, y) = t.getD k (0, 0)) (hL : ¬ L < x) : Gap t (k + 1) (y + 1) u := by
  obtain ⟨h1, h2, h3, h4⟩ := gap_head h hk hp
  obtain ⟨g1, g2, g3, g4, g5, g6, g7⟩ := h
  refine ⟨by omega, by omega, h4.mono (by omega), g4, by omega, fun r => ?_, fun r hr => ?_⟩
  · rw [gap_take hk hp, g6 r]
    cases ht : hasL (t.take k) r with
    | true =>
      have := g7 r ht
      simp
    | false =>
      rw [Bool.not_false, Bool.and_true, Bool.false_or, ← decide_not, ← Bool.decide_and]
      apply decide_eq_decide.2
      omega
  · rw [gap_take hk hp, Bool.or_eq_true] at hr
    rcases hr with hr | hr
    · have := g7 r hr; omega
    · have := of_decide_eq_true hr; omega
/-- The last gap. -/
theorem gap_last (h : Gap t t.length L u) (hL : L < 1114112) : Canon (u ++ [(L, 1114111)]) ∧ ∀ r, hasL (u ++ [(L, 1114111)]) r = (inR r && !hasL t r) := by
  obtain ⟨g1, g2, g3, g4, g5, g6, g7⟩ := h
  rw [List.take_length] at g6 g7
  refine ⟨(canonF_snoc _ u 0).2 ⟨g4, g5, by dsimp only; omega, by dsimp only; omega⟩, fun r => ?_⟩
  rw [hasL_append, g6 r, hasL_cons, hasL_nil, Bool.or_false]
  unfold inR
  cases ht : hasL t r with
  | true =>
    have := g7 r ht
    simp
    omega
  | false =>
    rw [Bool.not_false, Bool.and_true, Bool.and_true, ← Bool.decide_or]
    apply decide_eq_decide.2
    dsimp only
    omega
theorem gap_none (h : Gap t t.length L u) (hL : ¬ L < 1114112) : Canon u ∧ ∀ r, hasL u r = (inR r && !hasL t r) := by
  obtain ⟨g1, g2, g3, g4, g5, g6, g7⟩ := h
  rw [List.take_length] at g6 g7
  refine ⟨g4, fun r => ?_⟩
  rw [g6 r]
  congr 1
  unfold inR
  apply decide_eq_decide.2
  omega
end

set_option maxHeartbeats 4000000 in
theorem not_any (s : List (Int × Int)) (A : Option Addr) (n c : Nat) (W : World) (hin : RowG W A n s) (hn : n ≤ 2000000) :
    Calls Tryd.prog 36 #[.slice A n c] W fun e w' => ∃ V t, e = .returned V ∧ OutG W w' V t ∧ Canon t ∧ ∀ r, hasL t r = (inR r && !hasL s r) := by
  have HC := Lib.hid (of_any s A n c W hin hn)
  clear hin
  go_enter Tryd.func36, Tryd.ntmps36
  go_wp2_with (first
    | (go_at_call 40; refine HC.out.mono ?_; rintro e w1 ⟨V, t, rfl, ho, hcan, hmem⟩; obtain ⟨A1, c1, rfl, _, hsm⟩ := canon_out ho hcan; obtain ⟨P2, pc2, w2, happ, hown, hb2⟩ := push_rngs ho.1 [(1114112, 0)] (by omega) (by simp) ho.2; have HA := Lib.hid happ; have HO2 := Lib.hid (And.intro hown hb2); have HT := Lib.hid (And.intro hcan hmem); clear ho hcan hmem happ hown hb2)
    | (at_builtin; refine wpList_append_run rfl _ _ 23 rfl rfl _ _ _ _ rfl rfl HA.out ?_))
  obtain ⟨N, hN⟩ : ∃ N, N = t.length := ⟨_, rfl⟩
  rw [← hN] at HO2 hsm ⊢
  have hrow : RowG w2 P2 (N + 1) (t ++ [(1114112, 0)]) := by
    obtain ⟨A', c', e, h, _⟩ := rowG_of_own HO2.out.1 (by simp [hN])
    injection e with e1 _ _
    rw [e1]
    exact h
  have HR := Lib.hid hrow
  have HN := Lib.hid hN
  clear hrow hN HA
  go_loopw [3, 4, 13] (fun vo vl vi wr => ∃ (k m pc3 : Nat) (P3 : Option Addr) (L : Int) (u : List (Int × Int)), vo = .slice P3 m pc3 ∧ vl = .int .i64 L ∧ vi = .int .i64 (k : Int) ∧ k ≤ N + 1 ∧ m ≤ k ∧ Hid (wr.ownsRow w2.heap.size 51 2 (.slice P3 m pc3) m (cellsG u) ∧ Below w2.heap.size w2 wr ∧ (k ≤ N → Gap t k L u) ∧ (k = N + 1 → Canon u ∧ ∀ r, hasL u r = (inR r && !hasL t r)))) (fun _ _ vi _ => N + 1 - (intOf vi).toNat)
  case atStart => exact ⟨0, 0, 0, none, 0, [], rfl, rfl, rfl, Nat.zero_le _, Nat.le_refl _, Lib.hid ⟨nilG _ _, Below.refl _ _, fun _ => gap_zero HT.out.1, fun h => by omega⟩⟩
  case round =>
    obtain ⟨k, m, pc3, P3, L, u, rfl, rfl, rfl, hk, hm, HO⟩ := hrel
    by_cases hlt : k < N + 1
    · obtain ⟨b, o, rfl, hbw, hc⟩ := HR.out.2 (by omega)
      obtain ⟨c0, c1'⟩ := hc k hlt
      have d0 := (HO.out.2.1.cell (p := ⟨b, o + k * 2, none⟩) hbw).trans c0
      have d1 := (HO.out.2.1.cell (p := ⟨b, o + k * 2 + 1, none⟩) hbw).trans c1'
      have hal := (Below.refl wr.heap.size wr).alloc (Nat.le_refl _)
      have HG := Lib.hid (HO.out.2.2.1 (by omega))
      by_cases hkN : k < N
      · have hgd : (t ++ [(1114112, 0)]).getD k (0, 0) = t.getD k (0, 0) := by
          have := HN.out
          rw [List.getD, List.getD, List.getElem?_append_left (by omega)]
        rw [hgd] at d0 d1
        obtain ⟨p, hp⟩ : ∃ p, p = t.getD k (0, 0) := ⟨_, rfl⟩
        rw [← hp] at d0 d1
        obtain ⟨x, y⟩ := p
        have hkt : k < t.length := by rw [← HN.out]; exact hkN
        obtain ⟨x1, x2, x3, _⟩ := gap_head HG.out hkt hp
        have hL0 := HG.out.1
        clear hc c0 c1' hgd
        dsimp only at d0 d1
        have HALL := Lib.hid (hal (.cells #[.int .i64 x, .int .i64 y] 51))
        clear hal
        by_cases hLx : L < x
        · have hh := gap_push HG.out hkt hp hLx
          have hb3 := HALL.out
          obtain ⟨P', pc', w', happ, hown, hbel, hst⟩ := push_keep (ownG_kept HO.out.1 hb3) [(L, x - 1)] (by omega) (by simp) (then_ HO.out.2.1 hb3)
          have d2 : w'.cell? ⟨wr.heap.size, 1, none⟩ = some (.int .i64 y) := by
            rw [cell_of_row w' wr.heap.size 1 #[.int .i64 x, .int .i64 y] 51 (0, 0) ((hst _ (by simp) (fun e => by have := (row_lt HO.out.1 e).2; omega)).trans (heap_alloc_new wr _))]
            rfl
          rw [show (wr.alloc (.cells #[.int .i64 x, .int .i64 y] 51)).heap.size = wr.heap.size + 1 by simp] at happ
          have HA := Lib.hid happ
          have H2 := Lib.hid (And.intro hown (And.intro hbel hh))
          clear happ hown hbel hb3 hh hp hkt hst
          go_wp2_with (at_builtin; refine wpList_append_run rfl _ _ 23 rfl rfl _ _ _ _ rfl rfl HA.out ?_)
          exact ⟨⟨k + 1, m + 1, pc', P', y + 1, _, rfl, by go_num, by go_num, by omega, by omega, Lib.hid ⟨H2.out.1, H2.out.2.1, fun _ => H2.out.2.2, fun h => by omega⟩⟩, by first | (simp [intOf]; omega) | simp [intOf]⟩
        · have hh := gap_skip HG.out hkt hp hLx
          have hb3 := HALL.out
          have H2 := Lib.hid (And.intro (ownG_kept HO.out.1 hb3) (And.intro (then_ HO.out.2.1 hb3) hh))
          clear hb3 hh hp hkt
          go_wp2
          exact ⟨⟨k + 1, m, pc3, P3, y + 1, _, rfl, by go_num, by go_num, by omega, by omega, Lib.hid ⟨H2.out.1, H2.out.2.1, fun _ => H2.out.2.2, fun h => by omega⟩⟩, by first | (simp [intOf]; omega) | simp [intOf]⟩
      · have hkN2 : k = N := by omega
        subst hkN2
        have hgd : (t ++ [(1114112, 0)]).getD k (0, 0) = (1114112, 0) := by
          rw [HN.out]
          simp [List.getD]
        rw [hgd] at d0 d1
        clear hc c0 c1' hgd
        dsimp only at d0 d1
        have hL0 := HG.out.1
        have hgt : Gap t t.length L u := by have h := HG.out; rwa [HN.out] at h
        have HALL := Lib.hid (hal (.cells #[.int .i64 1114112, .int .i64 0] 51))
        clear hal
        by_cases hLx : L < 1114112
        · have hh := gap_last hgt hLx
          have hb3 := HALL.out
          obtain ⟨P', pc', w', happ, hown, hbel, hst⟩ := push_keep (ownG_kept HO.out.1 hb3) [(L, 1114111)] (by omega) (by simp) (then_ HO.out.2.1 hb3)
          have d2 : w'.cell? ⟨wr.heap.size, 1, none⟩ = some (.int .i64 0) := by
            rw [cell_of_row w' wr.heap.size 1 #[.int .i64 1114112, .int .i64 0] 51 (0, 0) ((hst _ (by simp) (fun e => by have := (row_lt HO.out.1 e).2; omega)).trans (heap_alloc_new wr _))]
            rfl
          rw [show (wr.alloc (.cells #[.int .i64 1114112, .int .i64 0] 51)).heap.size = wr.heap.size + 1 by simp] at happ
          have HA := Lib.hid happ
          have H2 := Lib.hid (And.intro hown (And.intro hbel hh))
          clear happ hown hbel hb3 hh hgt hst
          go_wp2_with (at_builtin; refine wpList_append_run rfl _ _ 23 rfl rfl _ _ _ _ rfl rfl HA.out ?_)
          exact ⟨⟨k + 1, m + 1, pc', P', 1, _, rfl, by go_num, by go_num, by omega, by omega, Lib.hid ⟨H2.out.1, H2.out.2.1, fun h => by omega, fun _ => H2.out.2.2⟩⟩, by first | (simp [intOf]; omega) | simp [intOf]⟩
        · have hh := gap_none hgt hLx
          have hb3 := HALL.out
          have H2 := Lib.hid (And.intro (ownG_kept HO.out.1 hb3) (And.intro (then_ HO.out.2.1 hb3) hh))
          clear hb3 hh hgt
          go_wp2
          exact ⟨⟨k + 1, m, pc3, P3, 1, _, rfl, by go_num, by go_num, by omega, by omega, Lib.hid ⟨H2.out.1, H2.out.2.1, fun h => by omega, fun _ => H2.out.2.2⟩⟩, by first | (simp [intOf]; omega) | simp [intOf]⟩
    · have hkN : k = N + 1 := by omega
      subst hkN
      have HF := Lib.hid (HO.out.2.2.2 rfl)
      go_wp2
      go_ret
      have e : m = u.length := by have := HO.out.1.1; rw [cellsG_length] at this; omega
      subst e
      refine ⟨_, rfl, u, ⟨row_base HO.out.1 (fun j hj => Nat.le_trans HO2.out.2.size (row_lt HO.out.1 hj).1), HO2.out.2.trans (HO.out.2.1.mono HO2.out.2.size)⟩, HF.out.1, fun r => ?_⟩
      rw [HF.out.2 r, HT.out.2 r]
end Go.Proofs.YtegcebgoiocakaaDoor
/- The program's Named. -/
namespace Go.Proofs.YtegcebgoiocakaaDoor
open Go Go.RowKit
set_option linter.unusedVariables false
set_option maxRecDepth 20000
set_option linter.unusedSimpArgs false

/-- A letter's ranges. -/
def letterL (c : Int) : List (Int × Int) := if c = 119 then [(65, 90), (97, 122), (95, 95)] ++ [(48, 57)] else if c = 100 then [(48, 57)] else [(32, 32), (9, 13)]
theorem rowG_own {w : World} {B : Nat} {P : Option Addr} {q pc : Nat} {s : List (Int × Int)} (h : w.ownsRow B 51 2 (.slice P q pc) q (cellsG s)) : RowG w P q s := by
  obtain ⟨A', c', e, h, _⟩ := rowG_of_own h (by have := h.1; rw [cellsG_length] at this; omega)
  injection e with e1 _ _
  rw [e1]
  exact h

set_option maxHeartbeats 2000000 in
theorem named_small (c : Int) (hc : c = 119 ∨ c = 100 ∨ c = 115) (W : World) :
    Calls Tryd.prog 44 #[.int .u8 c] W fun e w' => ∃ V t, e = .returned (.tuple #[V, .bool true]) ∧ OutG W w' V t ∧ Canon t ∧ ∀ r, hasL t r = hasL (letterL c) r := by
  rcases hc with rfl | rfl | rfl
  · obtain ⟨P1, pc1, w1, ha1, ho1, hb1⟩ := push_rngs (nilG W W.heap.size) [(65, 90), (97, 122), (95, 95)] (by simp) (by simp) (Below.refl _ _)
    simp only [List.length_cons, List.length_nil, Nat.zero_add, Nat.reduceAdd, List.nil_append] at ha1 ho1
    obtain ⟨P2, pc2, w2, ha2, ho2, hb2⟩ := push_rngs ho1 [(48, 57)] (by simp) (by simp) hb1
    simp only [List.length_cons, List.length_nil, Nat.zero_add, Nat.reduceAdd, List.nil_append] at ha2 ho2
    have HF := Lib.hid (of_any _ _ _ pc2 _ (rowG_own ho2) (by simp))
    have HA1 := Lib.hid ha1
    have HA2 := Lib.hid ha2
    have HB := Lib.hid hb2
    clear ha1 ho1 hb1 ha2 ho2 hb2
    go_enter Tryd.func44, Tryd.ntmps44
    go_wp2_with (first
      | (at_builtin; refine wpList_append_run rfl _ _ 23 rfl rfl _ _ _ _ rfl rfl HA1.out ?_)
      | (at_builtin; refine wpList_append_run rfl _ _ 23 rfl rfl _ _ _ _ rfl rfl HA2.out ?_)
      | (go_at_call 40; refine HF.out.mono ?_; rintro e w3 ⟨V, t, rfl, ho, hcan, hmem⟩; have HO := Lib.hid (And.intro ho (And.intro hcan hmem)); clear ho hcan hmem))
    go_ret2
    exact ⟨V, t, rfl, ⟨row_base HO.out.1.1 (fun j hj => Nat.le_trans HB.out.size (row_lt HO.out.1.1 hj).1), then_ HB.out HO.out.1.2⟩, HO.out.2.1, fun r => HO.out.2.2 r⟩
  · obtain ⟨P1, pc1, w1, ha1, ho1, hb1⟩ := push_rngs (nilG W W.heap.size) [(48, 57)] (by simp) (by simp) (Below.refl _ _)
    simp only [List.length_cons, List.length_nil, Nat.zero_add, Nat.reduceAdd, List.nil_append] at ha1 ho1
    have HF := Lib.hid (of_any _ _ _ pc1 _ (rowG_own ho1) (by simp))
    have HA1 := Lib.hid ha1
    have HB := Lib.hid hb1
    clear ha1 ho1 hb1
    go_enter Tryd.func44, Tryd.ntmps44
    go_wp2_with (first
      | (at_builtin; refine wpList_append_run rfl _ _ 23 rfl rfl _ _ _ _ rfl rfl HA1.out ?_)
      | (go_at_call 40; refine HF.out.mono ?_; rintro e w3 ⟨V, t, rfl, ho, hcan, hmem⟩; have HO := Lib.hid (And.intro ho (And.intro hcan hmem)); clear ho hcan hmem))
    go_ret2
    exact ⟨V, t, rfl, ⟨row_base HO.out.1.1 (fun j hj => Nat.le_trans HB.out.size (row_lt HO.out.1.1 hj).1), then_ HB.out HO.out.1.2⟩, HO.out.2.1, fun r => HO.out.2.2 r⟩
  · obtain ⟨P1, pc1, w1, ha1, ho1, hb1⟩ := push_rngs (nilG W W.heap.size) [(32, 32), (9, 13)] (by simp) (by simp) (Below.refl _ _)
    simp only [List.length_cons, List.length_nil, Nat.zero_add, Nat.reduceAdd, List.nil_append] at ha1 ho1
    have HF := Lib.hid (of_any _ _ _ pc1 _ (rowG_own ho1) (by simp))
    have HA1 := Lib.hid ha1
    have HB := Lib.hid hb1
    clear ha1 ho1 hb1
    go_enter Tryd.func44, Tryd.ntmps44
    go_wp2_with (first
      | (at_builtin; refine wpList_append_run rfl _ _ 23 rfl rfl _ _ _ _ rfl rfl HA1.out ?_)
      | (go_at_call 40; refine HF.out.mono ?_; rintro e w3 ⟨V, t, rfl, ho, hcan, hmem⟩; have HO := Lib.hid (And.intro ho (And.intro hcan hmem)); clear ho hcan hmem))
    go_ret2
    exact ⟨V, t, rfl, ⟨row_base HO.out.1.1 (fun j hj => Nat.le_trans HB.out.size (row_lt HO.out.1.1 hj).1), then_ HB.out HO.out.1.2⟩, HO.out.2.1, fun r => HO.out.2.2 r⟩

set_option maxHeartbeats 2000000 in
theorem named_big (c d : Int) (hc : c = 87 ∧ d = 119 ∨ c = 68 ∧ d = 100 ∨ c = 83 ∧ d = 115) (W : World) :
    Calls Tryd.prog 44 #[.int .u8 c] W fun e w' => ∃ V t, e = .returned (.tuple #[V, .bool true]) ∧ OutG W w' V t ∧ Canon t ∧ ∀ r, hasL t r = (inR r && !hasL (letterL d) r) := by
  have hs := named_small d (by omega) W
  rcases hc with ⟨rfl, rfl⟩ | ⟨rfl, rfl⟩ | ⟨rfl, rfl⟩
  all_goals
    have HS := Lib.hid hs
    clear hs
    go_enter Tryd.func44, Tryd.ntmps44
    go_wp2_with (first
      | (go_at_call 44; refine HS.out.mono ?_; rintro e w1 ⟨V1, u, rfl, ho, hcan, hmem⟩; obtain ⟨A1, c1, rfl, hi, hsm⟩ := canon_out ho hcan; have HM := Lib.hid (And.intro ho.2 hmem); have HN := Lib.hid (not_any u A1 u.length c1 w1 hi.1 (by omega)); clear ho hcan hmem hi)
      | (go_at_call 36; refine HN.out.mono ?_; rintro e w2 ⟨V, t, rfl, ho, hcan, hmem⟩; have HO := Lib.hid (And.intro ho (And.intro hcan hmem)); clear ho hcan hmem))
    go_ret2
    exact ⟨V, t, rfl, ⟨row_base HO.out.1.1 (fun j hj => Nat.le_trans HM.out.1.size (row_lt HO.out.1.1 hj).1), then_ HM.out.1 HO.out.1.2⟩, HO.out.2.1, fun r => by rw [HO.out.2.2 r, HM.out.2 r]⟩

theorem named_other (c : Int) (h0 : 0 ≤ c) (h1 : c < 256) (h2 : c ≠ 119 ∧ c ≠ 100 ∧ c ≠ 115 ∧ c ≠ 87 ∧ c ≠ 68 ∧ c ≠ 83) (W : World) :
    Calls Tryd.prog 44 #[.int .u8 c] W fun e w' => e = .returned (.tuple #[.slice none 0 0, .bool false]) ∧ W = w' := by
  obtain ⟨n1, n2, n3, n4, n5, n6⟩ := h2
  go_enter Tryd.func44, Tryd.ntmps44
  go_wp2
  go_ret2
  exact ⟨rfl, rfl⟩

theorem letter_word (r : Int) : hasL (letterL 119) r = (inR r && wordL r) := by
  unfold letterL inR wordL digitL
  rw [if_pos rfl, hasL_append]
  simp only [hasL_cons, hasL_nil, Bool.or_false, Bool.beq_eq_decide_eq, ← Bool.decide_or, ← Bool.decide_and]
  apply decide_eq_decide.2
  omega
theorem letter_digit (r : Int) : hasL (letterL 100) r = (inR r && digitL r) := by
  unfold letterL inR digitL
  rw [if_neg (by decide), if_pos rfl]
  simp only [hasL_cons, hasL_nil, Bool.or_false, ← Bool.decide_or, ← Bool.decide_and]
  apply decide_eq_decide.2
  omega
theorem letter_space (r : Int) : hasL (letterL 115) r = (inR r && spaceL r) := by
  unfold letterL inR spaceL
  rw [if_neg (by decide), if_neg (by decide)]
  rw [show (r == 32) = decide (r = 32) from rfl]
  simp only [hasL_cons, hasL_nil, Bool.or_false, ← Bool.decide_or, ← Bool.decide_and]
  apply decide_eq_decide.2
  omega

theorem named_any (w : World) (c : Int) (h0 : 0 ≤ c) (h1 : c < 256) :
    Calls Tryd.prog 44 #[.int .u8 c] w fun e w' => ∃ V t, e = .returned (.tuple #[V, .bool (namedL c 0).2]) ∧ OutG w w' V t ∧ Canon t ∧ ((namedL c 0).2 = false → t = []) ∧ ((namedL c 0).2 = true → ∀ r, hasL t r = (inR r && (namedL c r).1)) := by
  by_cases e1 : c = 100
  · subst e1
    exact (named_small 100 (by omega) w).mono fun e w' ⟨V, t, he, ho, hc, hm⟩ => ⟨V, t, he, ho, hc, fun h => (by cases h), fun _ r => (hm r).trans (letter_digit r)⟩
  by_cases e2 : c = 119
  · subst e2
    exact (named_small 119 (by omega) w).mono fun e w' ⟨V, t, he, ho, hc, hm⟩ => ⟨V, t, he, ho, hc, fun h => (by cases h), fun _ r => (hm r).trans (letter_word r)⟩
  by_cases e3 : c = 115
  · subst e3
    exact (named_small 115 (by omega) w).mono fun e w' ⟨V, t, he, ho, hc, hm⟩ => ⟨V, t, he, ho, hc, fun h => (by cases h), fun _ r => (hm r).trans (letter_space r)⟩
  by_cases e4 : c = 68
  · subst e4
    refine (named_big 68 100 (by omega) w).mono fun e w' ⟨V, t, he, ho, hc, hm⟩ => ⟨V, t, he, ho, hc, fun h => (by cases h), fun _ r => (hm r).trans ?_⟩
    rw [letter_digit r, show (namedL 68 r).1 = !digitL r from rfl]
    cases inR r <;> simp
  by_cases e5 : c = 87
  · subst e5
    refine (named_big 87 119 (by omega) w).mono fun e w' ⟨V, t, he, ho, hc, hm⟩ => ⟨V, t, he, ho, hc, fun h => (by cases h), fun _ r => (hm r).trans ?_⟩
    rw [letter_word r, show (namedL 87 r).1 = !wordL r from rfl]
    cases inR r <;> simp
  by_cases e6 : c = 83
  · subst e6
    refine (named_big 83 115 (by omega) w).mono fun e w' ⟨V, t, he, ho, hc, hm⟩ => ⟨V, t, he, ho, hc, fun h => (by cases h), fun _ r => (hm r).trans ?_⟩
    rw [letter_space r, show (namedL 83 r).1 = !spaceL r from rfl]
    cases inR r <;> simp
  have hf : (namedL c 0).2 = false := by
    unfold namedL
    rw [if_neg e1, if_neg e2, if_neg e3, if_neg e4, if_neg e5, if_neg e6]
  rw [hf]
  exact (named_other c h0 h1 ⟨e2, e1, e3, e5, e4, e6⟩ w).mono fun e w' ⟨he, hw⟩ => ⟨_, [], he, by subst hw; exact ⟨nilG _ _, Below.refl _ _⟩, trivial, fun _ => rfl, fun h => (by cases h)⟩
end Go.Proofs.YtegcebgoiocakaaDoor
