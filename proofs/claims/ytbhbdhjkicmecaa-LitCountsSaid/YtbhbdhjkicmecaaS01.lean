/- What came in: a list of ranges, each a struct of two whole numbers. -/
import Derived.Test.YtbhbdhjkicmecaaM04
import Derived.Test.YtbhbdhjkicmecaaM06
import Derived.Deep.Slices
import Derived.Deep.Fields
import Derived.ChangeSame
import Derived.OpenShut
import Derived.ProofKit
import Derived.Lib.MinMax
import Derived.Shelf.SlSortCmp.WholeK
import Derived.Shelf.SlSortCmp.NoneTotal
import Derived.BigQuiet
import Derived.BigRegion
namespace Go.Proofs.Ytbhbdhjkicmecaa
open Go Go.RowKit Go.ChangeShapes Go.WideShapes Go.ChangeAt
set_option linter.unusedVariables false
set_option maxRecDepth 20000

theorem int_cells1 : Try.prog.cellsOf 3 = 1 := by kernel_rfl
/-- A list of ranges that came in. -/
def InG (w : World) (A : Option Addr) (n c : Nat) (s : List (Int × Int)) : Prop :=
  RowG w A n s ∧ n ≤ c ∧ c ≤ maxLen ∧ (A = none → n = 0 ∧ c = 0) ∧ ∀ p ∈ s, (Lit.int .i64 p.1).wf = true ∧ (Lit.int .i64 p.2).wf = true

section
variable {H : Type} {enc : TypeId × Value → H} {W : World} {base : Nat} {held : Bool}
/-- The list of ranges, opened. -/
theorem rngs_of {a : Option Addr} {len cap fuel : Nat} {x : DataW H × List MemPlace} (hf : DataW.trod enc Try.prog W base (fun _ => true) held fuel 28 [.slice a len cap] = some x) : ∃ xs, InG W a len cap xs := by
  rcases Go.Deep.open_slice Try.underlying28 hf with ⟨hcs, _⟩ | ⟨ad, l, c, m, n, D, Pl, hcs, _, hl, hm, hmm, _, hel⟩
  · simp at hcs
    obtain ⟨rfl, rfl, rfl⟩ := hcs
    exact ⟨[], ⟨rfl, fun h => absurd h (by omega)⟩, Nat.le_refl _, Nat.zero_le _, fun _ => ⟨rfl, rfl⟩, by simp⟩
  · simp at hcs
    obtain ⟨rfl, rfl, rfl⟩ := hcs
    simp only [if_true] at hmm
    subst hmm
    rw [rng_cells] at hel
    have each : ∀ i, ∃ y : Int × Int, i < m → W.cell? (ad.add (i * 2)) = some (.int .i64 y.1) ∧ W.cell? ((ad.add (i * 2)).add 1) = some (.int .i64 y.2) ∧ (Lit.int .i64 y.1).wf = true ∧ (Lit.int .i64 y.2).wf = true := by
      intro i
      by_cases hi : i < m
      · obtain ⟨cs', hc, ht⟩ := hel i hi
        obtain ⟨_, hcl, hat⟩ := World.cells?_some hc
        obtain ⟨ys, n', _, _, _, hyl, hfl⟩ := DataW.trod_struct Try.underlying58 ht
        match cs', hcl with
        | [c0, c1], _ =>
          match ys, hyl with
          | [y0, y1], _ =>
            have q0 : DataW.trod enc Try.prog W base (fun _ => true) held n' 3 [c0] = some y0 := by
              have h := hfl 0 _ rfl
              change DataW.trod enc Try.prog W base (fun _ => true) held n' 3 (List.take (Try.prog.cellsOf 3) [c0, c1]) = some y0 at h
              rw [int_cells1] at h
              exact h
            have q1 : DataW.trod enc Try.prog W base (fun _ => true) held n' 3 [c1] = some y1 := by
              have h := hfl 1 _ rfl
              change DataW.trod enc Try.prog W base (fun _ => true) held n' 3 (List.take (Try.prog.cellsOf 3) [c1]) = some y1 at h
              rw [int_cells1] at h
              exact h
            obtain ⟨k, e0, _, z0⟩ := DataW.trod_int Try.underlying3 q0
            obtain ⟨i1, e1, _, z1⟩ := DataW.trod_int Try.underlying3 q1
            injection e0 with e0
            injection e1 with e1
            have a0 := hat 0 (by omega)
            have a1 := hat 1 (by omega)
            have hz : (ad.add (i * 2)).add 0 = ad.add (i * 2) := by simp [Addr.add]
            rw [hz] at a0
            refine ⟨(k, i1), fun _ => ⟨?_, ?_, z0, z1⟩⟩
            · rw [a0, e0]; rfl
            · rw [a1, e1]; rfl
      · exact ⟨(0, 0), fun h => absurd h hi⟩
    obtain ⟨f, hfn⟩ := Classical.axiomOfChoice each
    refine ⟨(List.range len).map f, ⟨by simp, fun hn => ?_⟩, hl, hm, (fun h => by cases h), fun p hp => ?_⟩
    · obtain ⟨b, off, spot⟩ := ad
      obtain ⟨h0, _⟩ := hfn 0 (by omega)
      have hspot : spot = none := by simpa [Addr.add] using World.cell?_spot h0
      subst hspot
      refine ⟨b, off, rfl, World.block_lt_of_cell? W (⟨b, off, none⟩ : Addr) (by simpa [Addr.add] using h0), fun j hj => ?_⟩
      obtain ⟨g0, g1, _⟩ := hfn j (by omega)
      have hadd : ∀ (o i : Nat), (⟨b, o, none⟩ : Addr).add i = ⟨b, o + i, none⟩ := fun o i => by unfold Addr.add; split <;> simp_all
      rw [hadd] at g0 g1
      rw [hadd] at g1
      have e : ((List.range len).map f).getD j (0, 0) = f j := by simp [List.getD, hj]
      rw [e]
      exact ⟨g0, g1⟩
    · obtain ⟨i, hi, rfl⟩ := List.mem_map.1 hp
      have := hfn i (by have := List.mem_range.1 hi; omega)
      exact ⟨this.2.2.1, this.2.2.2⟩
end
end Go.Proofs.Ytbhbdhjkicmecaa
/- Sets as answers: what is new, what came in; the letters. -/
namespace Go.Proofs.Ytbhbdhjkicmecaa
open Go Go.RowKit
set_option linter.unusedVariables false
set_option maxRecDepth 20000

/-- An answer that is new: a row of ranges. -/
def OutG (W w' : World) (V : Value) (t : List (Int × Int)) : Prop := w'.ownsRow W.heap.size 58 2 V t.length (cellsG t) ∧ Below W.heap.size W w'
def inR (r : Int) : Bool := decide (0 ≤ r ∧ r ≤ 1114111)

theorem CanonF.wf : ∀ {s : List (Int × Int)} {lo : Int}, 0 ≤ lo → CanonF lo s → ∀ p ∈ s, 0 ≤ p.1 ∧ p.1 ≤ p.2 ∧ p.2 ≤ 1114111
  | [], _, _, _, _, hp => by cases hp
  | q :: s, lo, h0, ⟨h1, h2, h3, h4⟩, p, hp => by
    rcases List.mem_cons.1 hp with rfl | hp
    · exact ⟨by omega, h2, h3⟩
    · exact CanonF.wf (by omega) h4 p hp
theorem CanonF.len : ∀ {s : List (Int × Int)} {lo : Int}, 0 ≤ lo → CanonF lo s → 2 * (s.length : Int) + lo ≤ 1114113 + lo % 1 ∨ s = []
  | [], _, _, _ => .inr rfl
  | q :: s, lo, h0, ⟨h1, h2, h3, h4⟩ => by
    left
    rcases CanonF.len (by omega) h4 with h | h
    · rw [List.length_cons]; omega
    · rw [h]; simp; omega
theorem Canon.small {s : List (Int × Int)} (h : Canon s) : s.length ≤ 600000 := by
  rcases CanonF.len (Int.le_refl _) h with h1 | h1
  · omega
  · rw [h1]; simp
theorem wf_small {x : Int} (h : -1000000000 ≤ x ∧ x ≤ 1000000000) : (Lit.int .i64 x).wf = true := by
  simp [Lit.wf, IntKind.min, IntKind.max, IntKind.signed, IntKind.bits]
  omega
theorem Canon.wf {s : List (Int × Int)} (h : Canon s) : ∀ p ∈ s, (Lit.int .i64 p.1).wf = true ∧ (Lit.int .i64 p.2).wf = true := fun p hp => by
  have := CanonF.wf (Int.le_refl _) h p hp
  exact ⟨wf_small (by omega), wf_small (by omega)⟩
theorem inG_of_own {w : World} {B : Nat} {V : Value} {s : List (Int × Int)} (h : w.ownsRow B 58 2 V s.length (cellsG s)) (hw : ∀ p ∈ s, (Lit.int .i64 p.1).wf = true ∧ (Lit.int .i64 p.2).wf = true) : ∃ A c, V = .slice A s.length c ∧ InG w A s.length c s := by
  obtain ⟨A, c, rfl, h1, h2, h3⟩ := rowG_of_own h rfl
  refine ⟨A, c, rfl, h1, h2, h3, fun hA => ?_, hw⟩
  rcases h.2 with ⟨e, h0⟩ | ⟨g, cap, cur, e, _⟩
  · injection e with e1 e2 e3
    exact ⟨h0, e3⟩
  · injection e with e1 _ _
    rw [hA] at e1
    cases e1
section
variable {w w' : World} {A : Option Addr} {n c : Nat} {s : List (Int × Int)}
theorem InG.below (h : InG w A n c s) (hb : Below w.heap.size w w') : InG w' A n c s := ⟨h.1.below hb (Nat.le_refl _), h.2⟩
theorem InG.row (h : InG w A n c s) : RowG w A n s := h.1
theorem InG.drewN (h : InG w A n c s) (q : Nat) : InG (w.drewN q) A n c s := ⟨h.1.drewN q, h.2⟩
end
theorem canon_out {W w' : World} {V : Value} {t : List (Int × Int)} (h : OutG W w' V t) (hc : Canon t) : ∃ A c, V = .slice A t.length c ∧ InG w' A t.length c t ∧ t.length ≤ 600000 := by
  obtain ⟨A, c, h1, h2⟩ := inG_of_own h.1 hc.wf
  exact ⟨A, c, h1, h2, hc.small⟩

def digitL (r : Int) : Bool := decide (48 ≤ r) && decide (r ≤ 57)
def wordL (r : Int) : Bool := digitL r || (decide (65 ≤ r) && decide (r ≤ 90)) || (decide (97 ≤ r) && decide (r ≤ 122)) || r == 95
def spaceL (r : Int) : Bool := r == 32 || (decide (9 ≤ r) && decide (r ≤ 13))
def namedL (c r : Int) : Bool × Bool :=
  if c = 100 then (digitL r, true) else if c = 119 then (wordL r, true) else if c = 115 then (spaceL r, true)
  else if c = 68 then (!digitL r, true) else if c = 87 then (!wordL r, true) else if c = 83 then (!spaceL r, true) else (false, false)
end Go.Proofs.Ytbhbdhjkicmecaa
/- The program's clip. -/
namespace Go.Proofs.Ytbhbdhjkicmecaa
open Go Go.RowKit
set_option linter.unusedVariables false

set_option maxHeartbeats 1000000 in
theorem clip_any (s : List (Int × Int)) (A : Option Addr) (n c : Nat) (W : World) (hin : RowG W A n s) (hn : n ≤ 2000000) :
    Calls Try.prog 50 #[.slice A n c] W fun e w' => ∃ P q pc, e = .returned (.slice P q pc) ∧ w'.ownsRow W.heap.size 58 2 (.slice P q pc) q (cellsG (clipL s)) ∧ Below W.heap.size W w' := by
  have HR := Lib.hid hin; clear hin
  go_enter Try.func50, Try.ntmps50
  go_wp2
  go_loopw [3, 9] (fun vo vi wr => ∃ (k q pc : Nat) (P : Option Addr), vo = .slice P q pc ∧ vi = .int .i64 (k : Int) ∧ k ≤ n ∧ q ≤ k ∧ Hid (wr.ownsRow W.heap.size 58 2 (.slice P q pc) q (cellsG (clipL (s.take k))) ∧ Below W.heap.size W wr)) (fun _ vi _ => n - (intOf vi).toNat)
  case atStart =>
    exact ⟨0, 0, 0, none, rfl, rfl, Nat.zero_le _, Nat.le_refl _, Lib.hid ⟨nilG W _, Below.refl _ _⟩⟩
  case round =>
    obtain ⟨k, q, pc, P, rfl, rfl, hk, hq, HO⟩ := hrel
    by_cases hlt : k < n
    · obtain ⟨b, o, rfl, hbw, hc⟩ := HR.out.2 (by omega)
      obtain ⟨c0, c1⟩ := hc k hlt
      have d0 := (HO.out.2.cell (p := ⟨b, o + k * 2, none⟩) hbw).trans c0
      have d1 := (HO.out.2.cell (p := ⟨b, o + k * 2 + 1, none⟩) hbw).trans c1
      have hts := take_snoc (t := s) (k := k) (by have := HR.out.1; omega)
      obtain ⟨p, hp⟩ : ∃ p, p = s.getD k (0, 0) := ⟨_, rfl⟩
      rw [← hp] at d0 d1 hts
      obtain ⟨x, y⟩ := p
      have hcs := clipL_snoc (s.take k) (x, y)
      rw [← hts] at hcs
      clear hc c0 c1 hp hts
      dsimp only at d0 d1 hcs
      by_cases hxy : max x 0 ≤ min y 1114111
      · rw [if_pos hxy] at hcs
        have hb1 : Below wr.heap.size wr ((wr.alloc (.cells #[.int .i64 x, .int .i64 y] 58)).alloc (.cells #[.int .i64 (max x 0), .int .i64 (min y 1114111)] 58)) := ((Below.refl _ _).alloc (Nat.le_refl _) _).alloc (by simp) _
        obtain ⟨P', pc', w', happ, hown, hbel⟩ := push_rngs (ownG_kept HO.out.1 hb1) [(max x 0, min y 1114111)] (by omega) (by simp) (then_ HO.out.2 hb1)
        rw [show ((wr.alloc (.cells #[.int .i64 x, .int .i64 y] 58)).alloc (.cells #[.int .i64 (max x 0), .int .i64 (min y 1114111)] 58)).heap.size = wr.heap.size + 1 + 1 by simp] at happ
        rw [← hcs] at hown
        have HA := Lib.hid happ
        have H2 := Lib.hid (And.intro hown hbel)
        clear happ hown hbel hb1 hcs
        go_wp2_with (at_builtin; refine wpList_append_run rfl _ _ 28 rfl rfl _ _ _ _ rfl rfl HA.out ?_)
        exact ⟨⟨k + 1, q + 1, pc', P', rfl, by go_num, by omega, by omega, H2⟩, by simp [intOf]; omega⟩
      · rw [if_neg hxy, List.append_nil] at hcs
        have H2 := Lib.hid (And.intro (hcs ▸ ownG_kept HO.out.1 (((Below.refl _ wr).alloc (Nat.le_refl _) (.cells #[.int .i64 x, .int .i64 y] 58)).alloc (by simp) (.cells #[.int .i64 (max x 0), .int .i64 (min y 1114111)] 58))) (HO.out.2.trans (Below.mono (((Below.refl _ wr).alloc (Nat.le_refl _) (.cells #[.int .i64 x, .int .i64 y] 58)).alloc (by simp) (.cells #[.int .i64 (max x 0), .int .i64 (min y 1114111)] 58)) HO.out.2.size)))
        clear hcs
        go_wp2
        exact ⟨⟨k + 1, q, pc, P, rfl, by go_num, by omega, by omega, H2⟩, by simp [intOf]; omega⟩
    · have hkn : k = n := by omega
      subst hkn
      have hts : s.take k = s := List.take_of_length_le (by have := HR.out.1; omega)
      go_wp2
      go_ret
      rw [hts] at HO
      exact ⟨P, q, pc, rfl, HO.out.1, HO.out.2⟩
end Go.Proofs.Ytbhbdhjkicmecaa
/- slices.SortFunc over ranges, by where they begin: the library's own contract, laid at this program. -/
namespace Go.Proofs
open Go.Shelf
def Try.sortG_ren : Go.Shelf.Ren := ⟨fun | 6 => 51 | 15 => 55 | 14 => 54 | 28 => 65 | 29 => 66 | 20 => 57 | 21 => 58 | 22 => 59 | 23 => 60 | 24 => 61 | 25 => 62 | 26 => 63 | 27 => 64 | 46 => 67 | 47 => 68 | 48 => 69 | 49 => 70 | 50 => 71 | 57 => 72 | n => n, fun | 22 => 28 | 24 => 58 | 25 => 87 | 3 => 3 | 39 => 80 | 0 => 0 | 53 => 98 | 55 => 100 | 4 => 4 | 46 => 92 | 45 => 91 | 50 => 65 | 5 => 5 | 9 => 9 | 66 => 101 | 70 => 105 | 76 => 107 | 77 => 54 | n => n, fun | n => n⟩
theorem Try.sortG : Go.Proofs.SlLaysF0.n6 Try.prog Try.sortG_ren := {
  mixed := by kernel_rfl
  f6 := ⟨Try.f51.name, by kernel_rfl, Try.func51.trans (congrArg some (by kernel_rfl))⟩
  f14 := ⟨Try.f54.name, by kernel_rfl, Try.func54.trans (congrArg some (by kernel_rfl))⟩
  f15 := Try.func55.trans (congrArg some (by kernel_rfl))
  f20 := ⟨Try.f57.name, by kernel_rfl, Try.func57.trans (congrArg some (by kernel_rfl))⟩
  f21 := ⟨Try.f58.name, by kernel_rfl, Try.func58.trans (congrArg some (by kernel_rfl))⟩
  f22 := ⟨Try.f59.name, by kernel_rfl, Try.func59.trans (congrArg some (by kernel_rfl))⟩
  f23 := ⟨Try.f60.name, by kernel_rfl, Try.func60.trans (congrArg some (by kernel_rfl))⟩
  f24 := ⟨Try.f61.name, by kernel_rfl, Try.func61.trans (congrArg some (by kernel_rfl))⟩
  f25 := ⟨Try.f62.name, by kernel_rfl, Try.func62.trans (congrArg some (by kernel_rfl))⟩
  f26 := ⟨Try.f63.name, by kernel_rfl, Try.func63.trans (congrArg some (by kernel_rfl))⟩
  f27 := ⟨Try.f64.name, by kernel_rfl, Try.func64.trans (congrArg some (by kernel_rfl))⟩
  f28 := Try.func65.trans (congrArg some (by kernel_rfl))
  f29 := Try.func66.trans (congrArg some (by kernel_rfl))
  f46 := ⟨Try.f67.name, by kernel_rfl, Try.func67.trans (congrArg some (by kernel_rfl))⟩
  f47 := Try.func68.trans (congrArg some (by kernel_rfl))
  f48 := Try.func69.trans (congrArg some (by kernel_rfl))
  f49 := ⟨Try.f70.name, by kernel_rfl, Try.func70.trans (congrArg some (by kernel_rfl))⟩
  f50 := ⟨Try.f71.name, by kernel_rfl, Try.func71.trans (congrArg some (by kernel_rfl))⟩
  f57 := ⟨Try.f72.name, by kernel_rfl, Try.func72.trans (congrArg some (by kernel_rfl))⟩
  t0 := Try.underlying0
  a0 := Try.isAgg0
  z0 := Try.sizeOf0
  v0 := Try.zeroValue0
  t3 := Try.underlying3
  a3 := Try.isAgg3
  z3 := Try.sizeOf3
  v3 := Try.zeroValue3
  t4 := Try.underlying4
  a4 := Try.isAgg4
  z4 := Try.sizeOf4
  v4 := Try.zeroValue4
  t5 := Try.underlying5
  a5 := Try.isAgg5
  z5 := Try.sizeOf5
  v5 := Try.zeroValue5
  t9 := Try.underlying9
  a9 := Try.isAgg9
  z9 := Try.sizeOf9
  v9 := Try.zeroValue9
  t22 := Try.underlying28
  a22 := Try.isAgg28
  z22 := Try.sizeOf28
  v22 := Try.zeroValue28
  t25 := Try.underlying87
  a25 := Try.isAgg87
  z25 := Try.sizeOf87
  v25 := Try.zeroValue87
  t39 := Try.underlying80
  a39 := Try.isAgg80
  z39 := Try.sizeOf80
  v39 := Try.zeroValue80
  t45 := Try.underlying91
  a45 := Try.isAgg91
  z45 := Try.sizeOf91
  v45 := Try.zeroValue91
  t46 := Try.underlying92
  a46 := Try.isAgg92
  z46 := Try.sizeOf92
  v46 := Try.zeroValue92
  t50 := Try.underlying65
  a50 := Try.isAgg65
  z50 := Try.sizeOf65
  v50 := Try.zeroValue65
  t53 := Try.underlying98
  a53 := Try.isAgg98
  z53 := Try.sizeOf98
  v53 := Try.zeroValue98
  t55 := Try.underlying100
  a55 := Try.isAgg100
  z55 := Try.sizeOf100
  v55 := Try.zeroValue100
  t66 := Try.underlying101
  a66 := Try.isAgg101
  z66 := Try.sizeOf101
  v66 := Try.zeroValue101
  t70 := Try.underlying105
  a70 := Try.isAgg105
  z70 := Try.sizeOf105
  v70 := Try.zeroValue105
  t76 := Try.underlying107
  a76 := Try.isAgg107
  z76 := Try.sizeOf107
  v76 := Try.zeroValue107
  t77 := Try.underlying54
  a77 := Try.isAgg54
  z77 := Try.sizeOf54
  v77 := Try.zeroValue54 }
end Go.Proofs
namespace Go.Proofs.Ytbhbdhjkicmecaa
open Go Go.RowKit
set_option linter.unusedVariables false

def encG (p : Int × Int) : List Value := [.int .i64 p.1, .int .i64 p.2]
/-- cmp.Compare of where two ranges begin. -/
def cfG (x y : Int × Int) : Int := if x.1 < y.1 then -1 else if y.1 < x.1 then 1 else 0
theorem ltG (x y : Int × Int) : ltOf cfG x y = decide (x.1 < y.1) := by
  unfold ltOf cfG
  apply decide_eq_decide.2
  split
  · omega
  · split <;> omega
theorem swoG : Go.Sort.SWO (ltOf cfG) where
  irrefl x := by rw [ltG]; exact decide_eq_false (by omega)
  trans x y z h1 h2 := by
    rw [ltG, decide_eq_true_eq] at *
    omega
  ntrans x y z h1 h2 := by
    rw [ltG, decide_eq_false_iff_not] at *
    omega
theorem compare_any (x y : Int × Int) (W : World) :
    Calls Try.prog 53 #[.int .i64 x.1, .int .i64 y.1] W fun e w' => e = .returned (.int .i64 (cfG x y)) ∧ w' = W := by
  obtain ⟨a, a'⟩ := x
  obtain ⟨b, b'⟩ := y
  go_enter Try.func53, Try.ntmps53
  by_cases h1 : a < b
  · have HF : Hid (cfG (a, a') (b, b') = -1) := Lib.hid (if_pos h1)
    go_wp2
    go_ret
    rw [HF.out]
    exact ⟨rfl, rfl⟩
  · by_cases h2 : b < a
    · have HF : Hid (cfG (a, a') (b, b') = 1) := Lib.hid (by unfold cfG; rw [if_neg h1, if_pos h2])
      have h3 : a > b := h2
      go_wp2
      go_ret
      rw [HF.out]
      exact ⟨rfl, rfl⟩
    · have HF : Hid (cfG (a, a') (b, b') = 0) := Lib.hid (by unfold cfG; rw [if_neg h1, if_neg h2])
      have h3 : ¬ a > b := h2
      go_wp2
      go_ret
      rw [HF.out]
      exact ⟨rfl, rfl⟩
theorem closure_any (x y : Int × Int) (W : World) :
    Calls Try.prog 52 #[.agg #[.int .i64 x.1, .int .i64 x.2], .agg #[.int .i64 y.1, .int .i64 y.2]] W fun e w' => e = .returned (.int .i64 (cfG x y)) ∧ ∃ q os', w' = Go.Sort.grow (W.drewN q) os' := by
  have HC := Lib.hid fun W' => compare_any x y W'
  go_enter Try.func52, Try.ntmps52
  go_wp2_with (go_at_call 53; refine (HC.out _).mono ?_; rintro e w' ⟨rfl, rfl⟩)
  go_ret
  exact ⟨rfl, 0, _, by rw [Go.Sort.alloc_eq_grow, Go.Sort.alloc_eq_grow, Go.Sort.grow_grow]; rfl⟩
theorem cmpLays_any (blk off size : Nat) (w : World) : CmpLays Try.prog 52 #[] encG 2 cfG blk off size w := fun _ _ _ _ x y => closure_any x y _

theorem flatG (s : List (Int × Int)) : Go.Sort.flatK encG 2 s.toArray = (cellsG s).toArray := by
  apply Array.ext
  · simp [cellsG_length]
  · intro t h1 h2
    have ht : t < s.length * 2 := by simpa using h1
    have e1 := Go.Sort.get_flatK encG 2 s.toArray t (by simpa using ht)
    rw [getElem!_pos _ t h1] at e1
    rw [e1]
    obtain ⟨c0, c1⟩ := cellsG_at s (t / 2) (by omega)
    have hg : s.toArray[t / 2]! = s.getD (t / 2) (0, 0) := by
      rw [getElem!_pos _ (t / 2) (by simp; omega)]
      simp [List.getD, List.getElem?_eq_getElem (show t / 2 < s.length by omega)]
    rw [hg]
    have h3 : (cellsG s).toArray[t] = (cellsG s)[t]'(by simpa using h2) := by simp
    rw [h3]
    rcases Nat.mod_two_eq_zero_or_one t with hm | hm
    · have e : t / 2 * 2 = t := by omega
      rw [e, List.getElem?_eq_getElem (by simpa using h2)] at c0
      injection c0 with c0
      rw [c0, hm]
      rfl
    · have e : t / 2 * 2 + 1 = t := by omega
      rw [e, List.getElem?_eq_getElem (by simpa using h2)] at c1
      injection c1 with c1
      rw [c1, hm]
      rfl

set_option maxHeartbeats 1000000 in
/-- Behind the sort: the same ranges, none of which begins ahead of one that stands ahead of it. -/
theorem sort_any {B : Nat} {P : Option Addr} {q pc : Nat} {s : List (Int × Int)} {w : World} (h : w.ownsRow B 58 2 (.slice P q pc) q (cellsG s)) (hq : q ≤ 3000000) :
    Calls Try.prog 51 #[.slice P q pc, .func (.func 52) #[] #[]] w fun e w' => e = .returned (.tuple #[]) ∧ ∃ t : List (Int × Int), t.Perm s ∧ (t.Pairwise fun a b => a.1 ≤ b.1) ∧ RowG w' P q t ∧ Below B w w' := by
  have hl : s.length = q := by have := h.1; rw [cellsG_length] at this; omega
  rcases h.2 with ⟨e, rfl⟩ | ⟨g, cap, cur, e, hB, hg, hnc, hcm, hcs, ht⟩
  · injection e with e1 e2 e3
    subst e1; subst e3
    have hs : s = [] := List.eq_nil_of_length_eq_zero hl
    subst hs
    have hc := AnyF.slices_SortFunc_none (P := Try.prog) Try.sortG none 0 (.func (.func 52) #[] #[]) w
    change Calls Try.prog 51 _ _ _ at hc
    refine hc.mono ?_
    rintro e w' ⟨rfl, rfl⟩
    exact ⟨rfl, [], List.Perm.refl _, List.Pairwise.nil, ⟨rfl, fun h => absurd h (by omega)⟩, Below.refl _ _⟩
  · injection e with e1 e2 e3
    subst e1; subst e3
    have hH : Go.Sort.HoldsK encG 2 w g 0 s.toArray := by
      unfold Go.Sort.HoldsK
      rw [flatG]
      intro j hj
      have hj' : j < q * 2 := by simpa [cellsG_length, hl] using hj
      refine ⟨?_, by simp [World.frozen?, hg]⟩
      rw [cell_of_row w g (0 + j) cur 58 (0, 0) hg, Nat.zero_add, ← Array.getElem?_toList, ← List.getElem?_take_of_lt hj', ht, getElem!_pos _ j hj]
      simp
    have eg : ∀ args w, (callFunc 52 args).run Try.prog w = .ok (.enter 52 args) w := enters_of Try.func52 (by kernel_rfl) rfl
    have hlt := (Array.getElem?_eq_some_iff.1 hg).1
    have hc := AnyQ.slices_SortFunc (P := Try.prog) Try.sortG 2 Try.isAgg58 Try.sizeOf58 encG (fun _ => rfl) (fun x v hv => by simp [encG] at hv; rcases hv with rfl | rfl <;> rfl) cfG swoG 52 #[] g 0 pc s.toArray w eg (cmpLays_any g 0 _ w) hH hlt (by simp; omega)
    change Calls Try.prog 51 _ _ _ at hc
    rw [show s.toArray.size = q by simpa using hl] at hc
    refine hc.mono ?_
    rintro e w' ⟨rfl, d', m, os, hp, hs, hw⟩
    have hsz : d'.size = q := by have := hp.1; simpa [hl] using this
    have hH2 : Go.Sort.HoldsK encG 2 w' g 0 d' := by
      rw [hw]
      exact holdsK_sortWorldK_c encG 2 w g 0 s.toArray d' m os hH hlt (by simpa [hl] using hsz)
    refine ⟨rfl, d'.toList, ?_, ?_, ⟨by simpa using hsz, fun hn => ⟨g, 0, rfl, ?_, fun j hj => ?_⟩⟩, ?_⟩
    · have := hp.2.2
      rw [show d'.extract 0 q = d' by rw [← hsz]; simp, show s.toArray.extract 0 q = s.toArray by rw [← hl]; simp] at this
      simpa using this
    · rw [List.pairwise_iff_getElem]
      intro i j hi hj hij
      have hi' : i < d'.size := by simpa using hi
      have hj' : j < d'.size := by simpa using hj
      have := hs i j (Nat.zero_le _) hij (by omega)
      rw [ltG, getElem!_pos _ j hj', getElem!_pos _ i hi', decide_eq_false_iff_not] at this
      simp only [Array.getElem_toList]
      omega
    · rw [hw]
      exact Nat.lt_of_lt_of_le hlt (size_sortWorldK_c encG 2 w g 0 m d' os)
    · have k0 := (hH2.cell (i := j) (c := 0) (by omega) (by omega)).1
      have k1 := (hH2.cell (i := j) (c := 1) (by omega) (by omega)).1
      have hd : d'[j]! = d'.toList.getD j (0, 0) := by
        rw [getElem!_pos _ j (by omega)]
        simp [List.getD, Array.getElem?_eq_getElem (show j < d'.size by omega)]
      rw [hd] at k0 k1
      exact ⟨k0, k1⟩
    · rw [hw]
      refine ⟨rfl, rfl, rfl, size_sortWorldK_c encG 2 w g 0 m d' os, fun k hk => ?_⟩
      have hkg : k ≠ g := by omega
      have hkw : k < w.heap.size := by omega
      unfold sortWorldK
      rw [Go.Sort.heap_grow_old _ _ (by rw [Go.Sort.size_putRowK]; exact hkw)]
      unfold Go.Sort.putRowK Go.Sort.putRow Go.Sort.mapBlock
      simp only [Array.getElem?_modify]
      rw [if_neg (Ne.symm hkg)]
      rfl
end Go.Proofs.Ytbhbdhjkicmecaa
/- The program's Of: a set made of ranges. -/
namespace Go.Proofs.Ytbhbdhjkicmecaa
open Go Go.RowKit
set_option linter.unusedVariables false

set_option maxHeartbeats 4000000 in
theorem of_any (s : List (Int × Int)) (A : Option Addr) (n c : Nat) (W : World) (hin : RowG W A n s) (hn : n ≤ 2000000) :
    Calls Try.prog 42 #[.slice A n c] W fun e w' => ∃ V t, e = .returned V ∧ OutG W w' V t ∧ Canon t ∧ ∀ r, hasL t r = hasL s r := by
  have HC := Lib.hid (clip_any s A n c W hin hn)
  have HSL := Lib.hid hin.1
  clear hin
  go_enter Try.func42, Try.ntmps42
  go_wp2_with (first
    | (go_at_call 50; refine HC.out.mono ?_; rintro e w1 ⟨P, q, pc, rfl, hown, hb1⟩; have HQ := Lib.hid (show q = (clipL s).length by { have := hown.1; rw [cellsG_length] at this; omega }); have hqn : q ≤ 2000000 := by { have := clipL_length s; have := HQ.out; have := HSL.out; omega }; have HB1 := Lib.hid hb1; have HS := Lib.hid (sort_any hown (by omega)); clear hown hb1)
    | (go_at_call 51; refine HS.out.mono ?_; rintro e w2 ⟨rfl, t, hperm, hsort, hrow, hb2⟩; have hwf : ∀ p ∈ t, 0 ≤ p.1 ∧ p.1 ≤ p.2 ∧ p.2 ≤ 1114111 := (fun p hp => clipL_mem (hperm.mem_iff.1 hp)); have HT := Lib.hid (And.intro hrow (And.intro hsort (And.intro hwf (show ∀ r, hasL t r = hasL s r from fun r => (hasL_perm hperm r).trans (clipL_has s r))))); have HB2 := Lib.hid (HB1.out.trans (hb2.mono (Nat.le_refl _))); clear hperm hsort hrow hb2 hwf))
  go_loopw [4, 14] (fun vo vi wr => ∃ (k m pc2 : Nat) (P2 : Option Addr) (u : List (Int × Int)), vo = .slice P2 m pc2 ∧ vi = .int .i64 (k : Int) ∧ k ≤ q ∧ m ≤ k ∧ Hid (wr.ownsRow w2.heap.size 58 2 (.slice P2 m pc2) m (cellsG u) ∧ Below w2.heap.size w2 wr ∧ Half t k u)) (fun _ vi _ => q - (intOf vi).toNat)
  case atStart => exact ⟨0, 0, 0, none, [], rfl, rfl, Nat.zero_le _, Nat.le_refl _, Lib.hid ⟨nilG _ _, Below.refl _ _, half_zero t⟩⟩
  case round =>
    obtain ⟨k, m, pc2, P2, u, rfl, rfl, hk, hm, HO⟩ := hrel
    by_cases hlt : k < q
    · obtain ⟨b, o, rfl, hbw, hc⟩ := HT.out.1.2 (by omega)
      obtain ⟨c0, c1⟩ := hc k hlt
      have d0 := (HO.out.2.1.cell (p := ⟨b, o + k * 2, none⟩) hbw).trans c0
      have d1 := (HO.out.2.1.cell (p := ⟨b, o + k * 2 + 1, none⟩) hbw).trans c1
      have hkt : k < t.length := by have := HT.out.1.1; omega
      obtain ⟨p, hp⟩ : ∃ p, p = t.getD k (0, 0) := ⟨_, rfl⟩
      rw [← hp] at d0 d1
      obtain ⟨x, y⟩ := p
      have HP := Lib.hid hp
      have hal := (Below.refl wr.heap.size wr).alloc (Nat.le_refl _) (.cells #[.int .i64 x, .int .i64 y] 58)
      have HKT := Lib.hid hkt
      clear hc c0 c1 hp hkt
      dsimp only at d0 d1
      rcases List.eq_nil_or_concat u with rfl | ⟨v, ⟨z0, z⟩, rfl⟩
      · have hm0 : m = 0 := by have := HO.out.1.1; simp [cellsG] at this; omega
        subst hm0
        have HAL := Lib.hid hal
        clear hal
        go_wp2
        go_quiet (fail)
        have hb3 : Below wr.heap.size wr ((wr.alloc (.cells #[.int .i64 x, .int .i64 y] 58)).drewN nq) := below_drewN HAL.out nq
        obtain ⟨P', pc', w', happ, hown, hbel⟩ := push_rngs (ownG_kept HO.out.1 hb3) [(x, y)] (by omega) (by simp) (then_ HO.out.2.1 hb3)
        rw [show ((wr.alloc (.cells #[.int .i64 x, .int .i64 y] 58)).drewN nq).heap.size = wr.heap.size + 1 by simp] at happ
        have hh := half_push HO.out.2.2 HKT.out HT.out.2.1 HT.out.2.2.1 (fun q' hq' => by cases hq')
        rw [← HP.out] at hh
        have HA := Lib.hid happ
        have H2 := Lib.hid (And.intro hown (And.intro hbel hh))
        clear happ hown hbel hb3 hh
        go_wp2_with (at_builtin; refine wpList_append_run rfl _ _ 28 rfl rfl _ _ _ _ rfl rfl HA.out ?_)
        exact ⟨⟨k + 1, 0 + 1, pc', P', _, rfl, by go_num, by omega, by omega, H2⟩, by simp [intOf]; omega⟩
      · rw [List.concat_eq_append] at HO
        obtain ⟨g, rfl, hmv, hg0, hg1, _, _, c0, c1, hfz, hst⟩ := last_own (ownG_kept HO.out.1 hal) (then_ HO.out.2.1 hal)
        obtain ⟨_, _, hz1, hz2⟩ := (canonF_snoc (z0, z) v 0).1 HO.out.2.2.1
        have hmv2 : v.length = m - 1 := by omega
        rw [hmv2] at c0 c1 hfz hst
        dsimp only at c0 c1
        have hz0 : -1 ≤ z0 := by
          have := CanonF.wf (Int.le_refl _) HO.out.2.2.1 (z0, z) (by simp)
          dsimp only at this; omega
        have hw : IntKind.i64.wrap (z + 1) = z + 1 := by rw [IntKind.wrap_i64]; dsimp only at hz1 hz2; omega
        have hw2 : IntKind.i64.wrap ((m : Int) - 1) = (m : Int) - 1 := by rw [IntKind.wrap_i64]; omega
        have b1 : (0 : Int) ≤ (m : Int) - 1 := by omega
        have b2 : (m : Int) - 1 < (m : Int) := by omega
        have b3 : ((m : Int) - 1).toNat = m - 1 := by omega
        have b4 : (0 : Int) < (m : Int) := by omega
        have d4 : decide (0 < m) = true := decide_eq_true (by omega)
        have HMV := Lib.hid (And.intro hmv hmv2)
        have HST := Lib.hid hst
        have HAL := Lib.hid hal
        clear hmv hmv2 hst hz0 hg0 hz1 hz2 hal
        by_cases hxz : x ≤ z + 1
        · have d5 : decide (x ≤ z + 1) = true := by simpa using hxz
          go_wp2
          go_quiet (fail)
          go_wp2
          go_region
          have hb3 : Below wr.heap.size wr ((wr.alloc (.cells #[.int .i64 x, .int .i64 y] 58)).drewN (nq + 1)) := below_drewN HAL.out (nq + 1)
          obtain ⟨g', hgg, hmv, _, _, _, _, _, _, _, hst⟩ := last_own (ownG_kept HO.out.1 hb3) (then_ HO.out.2.1 hb3)
          injection hgg with hgg
          injection hgg with hgg
          subst hgg
          rw [HMV.out.2] at hst
          have hh := half_join HO.out.2.2 HKT.out HT.out.2.2.1 (by rw [← HP.out]; exact hxz)
          rw [← HP.out] at hh
          have H2 := Lib.hid (And.intro (hst (max z y)).1 (And.intro (hst (max z y)).2 hh))
          clear hmv hst hb3 hh
          go_wp2
          exact ⟨⟨k + 1, m, pc2, _, _, rfl, by go_num, by omega, by omega, H2⟩, by simp [intOf]; omega⟩
        · have d5 : decide (x ≤ z + 1) = false := by simpa using hxz
          go_wp2
          go_quiet (fail)
          have hb3 : Below wr.heap.size wr ((wr.alloc (.cells #[.int .i64 x, .int .i64 y] 58)).drewN nq) := below_drewN HAL.out nq
          obtain ⟨P', pc', w', happ, hown, hbel⟩ := push_rngs (ownG_kept HO.out.1 hb3) [(x, y)] (by omega) (by simp) (then_ HO.out.2.1 hb3)
          rw [show ((wr.alloc (.cells #[.int .i64 x, .int .i64 y] 58)).drewN nq).heap.size = wr.heap.size + 1 by simp] at happ
          have hh := half_push HO.out.2.2 HKT.out HT.out.2.1 HT.out.2.2.1 (fun q' hq' => by
            rw [← HP.out]
            have e : q' = (z0, z) := by simpa using hq'.symm
            rw [e]
            dsimp only
            omega)
          rw [← HP.out] at hh
          have HA := Lib.hid happ
          have H2 := Lib.hid (And.intro hown (And.intro hbel hh))
          clear happ hown hbel hb3 hh
          go_wp2_with (at_builtin; refine wpList_append_run rfl _ _ 28 rfl rfl _ _ _ _ rfl rfl HA.out ?_)
          exact ⟨⟨k + 1, m + 1, pc', P', _, rfl, by go_num, by omega, by omega, H2⟩, by simp [intOf]; omega⟩
    · have hkq : k = q := by omega
      subst hkq
      have HF := Lib.hid (show Canon u ∧ ∀ r, hasL u r = hasL s r from ⟨HO.out.2.2.1, fun r => (HO.out.2.2.2.1 r).trans (by rw [List.take_of_length_le (by have := HT.out.1.1; omega)]; exact HT.out.2.2.2 r)⟩)
      go_wp2
      go_ret
      have e : m = u.length := by have := HO.out.1.1; rw [cellsG_length] at this; omega
      subst e
      exact ⟨_, u, rfl, ⟨row_base HO.out.1 (fun j hj => Nat.le_trans HB2.out.size (row_lt HO.out.1 hj).1), HB2.out.trans (HO.out.2.1.mono HB2.out.size)⟩, HF.out.1, HF.out.2⟩
end Go.Proofs.Ytbhbdhjkicmecaa
