/- CodeUnits: code points' units, and what any units say: the walk. -/
import Derived.Test.YtgkkflfkmedapaaJoinR
import Derived.Test.YtgkkflfkmedapaaApp
namespace Go.Proofs.Ytgkkflfkmedapaa
open Go Go.RowKit
set_option linter.unusedVariables false

theorem units_abs (r : Int) (w : World) : Calls Try.prog 20 #[.int .i64 r] w fun e w' => ∃ A, e = .returned (.slice A (unitsI (sndI r)).length (unitsI (sndI r)).length) ∧ RowI .i64 w' A (unitsI (sndI r)).length (unitsI (sndI r)) ∧ A ≠ none ∧ Below w.heap.size w w' :=
  (units_any r w).mono fun e w' ⟨he, hw⟩ => ⟨_, he, by rw [hw]; exact RowI.new _ _ _ _, by simp, by rw [hw]; exact (Below.refl _ _).alloc (Nat.le_refl _) _⟩
theorem refUnits_abs (r : Int) (w : World) : Calls Try.prog 24 #[.int .i64 r] w fun e w' => ∃ A, e = .returned (.slice A (unitsI (sndI r)).length (unitsI (sndI r)).length) ∧ RowI .i64 w' A (unitsI (sndI r)).length (unitsI (sndI r)) ∧ A ≠ none ∧ Below w.heap.size w w' :=
  (refUnits_any r w).mono fun e w' ⟨he, hw⟩ => ⟨_, he, by rw [hw]; exact RowI.new _ _ _ _, by simp, by rw [hw]; exact (Below.refl _ _).alloc (Nat.le_refl _) _⟩
theorem unitsI_len (r : Int) : (unitsI r).length ≤ 2 := by unfold unitsI; split <;> simp

theorem lawUnits_long (r : Int) (A : Option Addr) (len cap : Nat) (w : World) (hl : 40 < len) (hm : len ≤ maxLen) :
    Calls Try.prog 6 #[.int .i64 r, .slice A len cap] w fun e w' => e = .returned (.bool true) ∧ Below w.heap.size w w' := by
  unfold maxLen at hm
  have hd : decide ((40 : Int) < (len : Int)) = true := by simp; omega
  go_enter Try.func6, Try.ntmps6
  go_wp2_with fail
  refine (awake_any _).mono ?_; rintro e w1 ⟨rfl, hbel⟩
  go_wp2_with fail
  refine (awake_any _).mono ?_; rintro e w2 ⟨rfl, hbel2⟩
  go_wp2_with fail
  go_ret
  exact ⟨rfl, hbel.trans (Below.mono hbel2 hbel.size)⟩

set_option maxHeartbeats 2000000 in
theorem lawUnits_short (r : Int) (A : Option Addr) (len cap : Nat) (l : List Int) (W : World) (hl : len ≤ 40) (hr : RowI .i64 W A len l) (hnil : A = none → len = 0 ∧ cap = 0) :
    Calls Try.prog 6 #[.int .i64 r, .slice A len cap] W fun e w' => e = .returned (.bool true) ∧ Below W.heap.size W w' := by
  have hd : decide ((40 : Int) < (len : Int)) = false := by simp; omega
  have hu := fun w => units_abs r w
  have hru := fun w => refUnits_abs r w
  have hj := join_units (sndI r) l (sndI_is r)
  have hU2 := unitsI_len (sndI r)
  obtain ⟨U, hU⟩ : ∃ U, U = unitsI (sndI r) := ⟨_, rfl⟩
  rw [← hU] at hu hru hj hU2
  clear hU
  obtain ⟨n, hn⟩ : ∃ n, n = U.length := ⟨_, rfl⟩
  rw [← hn] at hu hru hj hU2
  obtain ⟨s, hs⟩ : ∃ s, s = sndI r := ⟨_, rfl⟩
  rw [← hs] at hj
  have hri := fun w => refIs_any r w
  have hJ := fun (A : Option Addr) (c : Nat) (w : World) (h : RowI .i64 w A len l) => join_any A len c l w h (by omega)
  obtain ⟨y, hy⟩ : ∃ y, y = (joinI l).1 := ⟨_, rfl⟩
  obtain ⟨m, hm⟩ : ∃ m, m = (joinI l).2 := ⟨_, rfl⟩
  rw [← hy, ← hm] at hJ
  clear hy hm
  have hcat := fun (A : Option Addr) (c : Nat) (w : World) (h : RowI .i64 w A (n + len) (U ++ l)) => (join_any A (n + len) c (U ++ l) w h (by omega)).1
  rw [hj] at hcat
  simp only at hcat
  clear hj
  have HR := Lib.hid hr; clear hr
  have HN := Lib.hid hnil; clear hnil
  have HU := Lib.hid hu; clear hu
  have HRU := Lib.hid hru; clear hru
  have HRI := Lib.hid hri; clear hri
  have HJ := Lib.hid hJ; clear hJ
  have HCAT := Lib.hid hcat; clear hcat
  have Hn := Lib.hid hn; clear hn
  have Hs := Lib.hid hs; clear hs
  go_enter Try.func6, Try.ntmps6
  go_wp2_with fail
  refine (awake_any _).mono ?_; rintro e w1 ⟨rfl, hbel⟩
  go_wp2_with fail
  refine (HU.out _).mono ?_; rintro e w2 ⟨Au, rfl, hru2, hAu, hb2⟩
  have hr1 := HR.out.below hbel (Nat.le_refl _)
  have hr2 := hr1.below hb2 (Nat.le_refl _)
  obtain ⟨v1, w3, happ1, hown1, hgrow1⟩ := app_run .i64 35 3 8 Try.underlying35 info_int (w2.alloc (.cells #[] 3)) w2.heap.size (.slice (some ⟨w2.heap.size, 0, none⟩) 0 0) 0 [] (World.ownsRow_made w2 #[] 0 (Nat.le_refl _) (Nat.zero_le _) rfl)
    Au n n U (hru2.alloc _) (fun h => absurd h hAu) (by omega) (by unfold maxLen; omega) (by simp)
  have hb3 : Below w2.heap.size w2 w3 := ((Below.refl _ _).alloc (Nat.le_refl _) _).grown hgrow1 (by simp) (by intro k hk; simp [Value.ownBlock] at hk; omega)
  have hr3 := hr2.below hb3 (Nat.le_refl _)
  have hru3 := hru2.below hb3 (Nat.le_refl _)
  obtain ⟨v2, w4, happ2, hown2, hgrow2⟩ := app_run .i64 35 3 8 Try.underlying35 info_int w3 w2.heap.size v1 (0 + n) ([] ++ U) hown1
    A len cap l hr3 HN.out (by omega) (by unfold maxLen; omega) (by have := hb3.size; exact this)
  have hb4 : Below w2.heap.size w2 w4 := hb3.grown hgrow2 hb3.size (by intro k hk; exact (hown1.lt k hk).1)
  rw [Nat.zero_add, List.nil_append] at hown2
  obtain ⟨A', cap', rfl, hrc, _, _⟩ := row_of_own hown2
  have hr4 := hr2.below hb4 (Nat.le_refl _)
  have hru4 := hru2.below hb4 (Nat.le_refl _)
  have hW4 : Below W.heap.size W w4 := hbel.trans (Below.mono (hb2.trans (Below.mono hb4 hb2.size)) hbel.size)
  have HA1 := Lib.hid happ1; clear happ1
  have HA2 := Lib.hid happ2; clear happ2
  have HR4 := Lib.hid hr4; clear hr4
  have HRU4 := Lib.hid hru4; clear hru4
  have HRC := Lib.hid hrc; clear hrc
  clear hru2 hAu hr1 hr2 hown1 hgrow1 hr3 hru3 hown2 hgrow2 hb3 hb4 hbel hb2
  go_wp2_with (first
    | (at_builtin; refine wpList_append_run rfl _ _ 35 rfl rfl _ _ _ _ rfl rfl HA1.out ?_)
    | (at_builtin; refine wpList_append_run rfl _ _ 35 rfl rfl _ _ _ _ rfl rfl HA2.out ?_))
  refine (HCAT.out _ _ _ HRC.out).mono ?_; rintro e w' ⟨rfl, q1, rfl⟩
  go_wp2_with fail
  refine (HJ.out _ _ _ (HR4.out.drewN _)).1.mono ?_; rintro e w' ⟨rfl, q2, rfl⟩
  go_wp2_with fail
  refine (HJ.out _ _ _ (HR4.out.drewN _)).2.mono ?_; rintro e w' ⟨rfl, q3, rfl⟩
  go_wp2_with fail
  refine (HRU.out _).mono ?_; rintro e w5 ⟨Ar, rfl, hrr, hAr, hb5⟩
  have hb45 : Below w4.heap.size w4 w5 := (below_drewN (Below.refl _ _) _).trans hb5
  have hru5 := HRU4.out.below hb45 (Nat.le_refl _)
  have hW5 : Below W.heap.size W w5 := hW4.trans (Below.mono hb45 hW4.size)
  clear hb5 hAr hb45
  have hI := ints_row Au Ar n n n U U w5 hru5 hrr (by omega)
  rw [decide_eq_true rfl] at hI
  clear hrr hru5
  have HII := Lib.hid hI; clear hI
  have hnn : ((n : Int) == (n : Int)) = true := by simp
  have hyy : (y == y) = true := by simp
  have hmm : (m == m) = true := by simp
  cases hir : isI r with
  | true =>
    have e1 : (s == r) = true := by rw [beq_iff_eq, Hs.out]; simp [sndI, hir]
    clear hir
    go_wp2_with fail
    refine HII.out.mono ?_; rintro e w' ⟨rfl, q, rfl⟩
    go_wp2_with fail
    go_ret
    exact ⟨rfl, below_drewN hW5 q⟩
  | false =>
    have hs : s = 65533 := by rw [Hs.out]; simp [sndI, hir]
    have e1 : (s == r) = false := by
      rw [beq_eq_false_iff_ne, hs]
      rintro rfl
      revert hir
      decide
    have e2 : (s == 65533) = true := by rw [beq_iff_eq]; exact hs
    have hri := HRI.out
    rw [hir] at hri
    have HRI2 := Lib.hid hri
    clear hir hs hri
    go_wp2_with fail
    refine HII.out.mono ?_; rintro e w' ⟨rfl, q, rfl⟩
    go_wp2_with fail
    refine (HRI2.out _).mono ?_; rintro e w' ⟨rfl, rfl⟩
    go_wp2_with fail
    go_ret
    exact ⟨rfl, below_drewN hW5 q⟩

theorem lawUnits (r : Int) (A : Option Addr) (len cap : Nat) (zs : List Int) (W : World)
    (h : (A = none ∧ len = 0 ∧ cap = 0 ∧ zs = []) ∨
      ∃ x, A = some x ∧ len ≤ cap ∧ cap ≤ maxLen ∧ zs.length = cap ∧ (∀ i, i < zs.length → W.cell? (x.add i) = some (.int .i64 (zs.getD i 0))) ∧ ∀ n ∈ zs, (Lit.int .i64 n).wf = true) :
    Calls Try.prog 6 #[.int .i64 r, .slice A len cap] W fun e w' => e = .returned (.bool true) ∧ Below W.heap.size W w' := by
  obtain ⟨hr, hcap, hcm, hnil, hwf⟩ := rowI_of_row h
  rcases Nat.lt_or_ge 40 len with hl | hl
  · exact lawUnits_long r A len cap W hl (Nat.le_trans hcap hcm)
  · exact lawUnits_short r A len cap (zs.take len) W hl hr hnil
end Go.Proofs.Ytgkkflfkmedapaa
