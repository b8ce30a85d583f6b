/- CutsPieces: the walk. -/
import Derived.Test.YtjiagpbmaepamaaAwake4
import Derived.Test.YtjiagpbmaepamaaCut
import Derived.Test.YtjiagpbmaepamaaRCut
import Derived.Test.YtjiagpbmaepamaaGrow
import Derived.Test.YtjiagpbmaepamaaSame4
import Derived.Deep.RegionHeld
namespace Go.Proofs.Ytjiagpbmaepamaa
open Go Go.RowKit
set_option linter.unusedVariables false

theorem lawPieces_long (A D : Option Addr) (len cap m d : Nat) (w : World) (hl : 500 < len) (hm : len ≤ maxLen) :
    Calls Try.prog 3 #[.slice A len cap, .slice D m d] w fun e w' => e = .returned (.bool true) ∧ Below w.heap.size w w' := by
  unfold maxLen at hm
  have hd : decide ((500 : Int) < (len : Int)) = true := by simp; omega
  go_enter Try.func3, Try.ntmps3
  go_wp2_with fail
  refine (awake4_any _).mono ?_; rintro e w1 ⟨rfl, hbel⟩
  go_wp2_with fail
  refine (awake4_any _).mono ?_; rintro e w2 ⟨rfl, hbel2⟩
  go_wp2_with fail
  go_ret
  exact ⟨rfl, hbel.trans (Below.mono hbel2 hbel.size)⟩

theorem lawPieces_many (A D : Option Addr) (len cap m d : Nat) (w : World) (hl : len ≤ 500) (h20 : 20 < m) (hm : m ≤ maxLen) :
    Calls Try.prog 3 #[.slice A len cap, .slice D m d] w fun e w' => e = .returned (.bool true) ∧ Below w.heap.size w w' := by
  unfold maxLen at hm
  have hd : decide ((500 : Int) < (len : Int)) = false := by simp; omega
  have hd2 : decide ((20 : Int) < (m : Int)) = true := by simp; omega
  go_enter Try.func3, Try.ntmps3
  go_wp2_with fail
  refine (awake4_any _).mono ?_; rintro e w1 ⟨rfl, hbel⟩
  go_wp2_with fail
  refine (awake4_any _).mono ?_; rintro e w2 ⟨rfl, hbel2⟩
  go_wp2_with fail
  go_ret
  exact ⟨rfl, hbel.trans (Below.mono hbel2 hbel.size)⟩

set_option maxHeartbeats 4000000 in
theorem lawPieces_short (A D : Option Addr) (len cap m d : Nat) (xs zs : List Int) (W : World) (hl : len ≤ 500) (hr : RowI .u8 W A len xs) (hnil : A = none → len = 0 ∧ cap = 0) (hm : m ≤ 20) (hz : RowI .i64 W D m zs) :
    Calls Try.prog 3 #[.slice A len cap, .slice D m d] W fun e w' => e = .returned (.bool true) ∧ Below W.heap.size W w' := by
  have hd : decide ((500 : Int) < (len : Int)) = false := by simp; omega
  have hd2 : decide ((20 : Int) < (m : Int)) = false := by simp; omega
  have hxl := hr.1
  have hcl := cutL_length zs xs 0
  have hfl := cutL_flatten zs xs 0
  have hpc := cutL_piece zs xs 0
  obtain ⟨ps, hps⟩ : ∃ ps, ps = cutL zs xs 0 := ⟨_, rfl⟩
  obtain ⟨K, hK⟩ : ∃ K, K = ps.length := ⟨_, rfl⟩
  obtain ⟨S, hS⟩ : ∃ S, S = strOfNums xs := ⟨_, rfl⟩
  rw [← hps] at hcl hfl hpc
  rw [← hK] at hcl
  have hcv : ∀ (A : Option Addr) (c : Nat) (w : World), RowI .u8 w A len xs → (convert 22 9 (.slice A len c)).run Try.prog w = .ok (.string S) w := fun A c w h => by rw [hS]; exact strRow w A len c xs h
  have hcut := fun (A : Option Addr) (c : Nat) (w : World) (h : RowI .u8 w A len xs) (h1 : len ≤ c) (h2 : c ≤ maxLen) (h3 : A = none → len = 0 ∧ c = 0) (hz : RowI .i64 w D m zs) => cut_any zs xs A D len c m d w h (by omega) h1 h2 h3 hz (by omega)
  rw [← hps, ← hK] at hcut
  have hrcut : ∀ w, RowI .i64 w D m zs → Calls Try.prog 10 #[.string S, .slice D m d] w fun e w' => ∃ E c, e = .returned (.slice E K c) ∧ RowS w' E K (ps.map strOfNums) ∧ Below w.heap.size w w' := fun w h => by
    have := rcut_any zs xs D m d w (by omega) h (by omega)
    rw [← hps, ← hK, ← hS] at this
    refine this.mono fun e w' ⟨V, he, ho, hb⟩ => ?_
    obtain ⟨E, c, rfl, hs⟩ := rowS_of_own ho
    exact ⟨E, c, he, hs, hb⟩
  have hjoin : ∀ (P : Option Addr) (c : Nat) (w : World), RowB w P K ps → Calls Try.prog 11 #[.slice P K c] w fun e w' => ∃ E c', e = .returned (.slice E len c') ∧ RowI .u8 w' E len xs ∧ Below w.heap.size w w' := fun P c w h => by
    have := cjoin_any ps P K c w h (by omega) (by rw [hfl]; omega)
    rw [hfl, hxl] at this
    refine this.mono fun e w' ⟨v, he, ho, hb⟩ => ?_
    obtain ⟨E, c', rfl, hs, _, _⟩ := row_of_own ho
    exact ⟨E, c', he, hs, hb⟩
  have hsame := fun (P E : Option Addr) (c e : Nat) (w : World) (h1 : RowB w P K ps) (h2 : RowS w E K (ps.map strOfNums)) => same_any ps P E K c e w h1 h2 (by omega)
  have HR := Lib.hid hr; clear hr
  have HZ := Lib.hid hz; clear hz
  have HN := Lib.hid hnil; clear hnil
  have HCV := Lib.hid hcv; clear hcv
  have HCUT := Lib.hid hcut; clear hcut
  have HRCUT := Lib.hid hrcut; clear hrcut
  have HJOIN := Lib.hid hjoin; clear hjoin
  have HSAME := Lib.hid hsame; clear hsame
  have HPC := Lib.hid hpc; clear hpc
  have HK := Lib.hid hK; clear hK
  clear hxl hfl hS hps hcl
  go_enter Try.func3, Try.ntmps3
  go_wp2_with fail
  refine (awake4_any _).mono ?_; rintro e w1 ⟨rfl, hbel⟩
  have hr1 := HR.out.below hbel (Nat.le_refl _)
  obtain ⟨v1, w2, happ1, hown1, hgrow1⟩ := app_run .u8 22 5 1 Try.underlying22 info_u8 (w1.alloc (.cells #[] 5)) w1.heap.size (.slice (some ⟨w1.heap.size, 0, none⟩) 0 0) 0 [] (World.ownsRow_made w1 #[] 0 (Nat.le_refl _) (Nat.zero_le _) rfl)
    A len cap xs (hr1.alloc _) HN.out (by omega) (by unfold maxLen; omega) (by simp)
  have hb2 : Below w1.heap.size w1 w2 := ((Below.refl _ _).alloc (Nat.le_refl _) _).grown hgrow1 (by simp) (by intro k hk; simp [Value.ownBlock] at hk; omega)
  rw [Nat.zero_add, List.nil_append] at hown1
  obtain ⟨A1, c1, rfl, _, _, hn1, _⟩ := own_cells hown1
  obtain ⟨A1', c1', hA1, hri1, hc1, hm1⟩ := row_of_own hown1
  injection hA1 with e1 e2 e3
  subst e1; subst e3
  have hW2 : Below W.heap.size W w2 := hbel.trans (Below.mono hb2 hbel.size)
  have HA1 := Lib.hid happ1; clear happ1
  have HR1 := Lib.hid hri1; clear hri1
  have HC2 := HCUT.out A1 c1 w2 HR1.out hc1 hm1 hn1 (HZ.out.below hW2 (Nat.le_refl _))
  have HCC := Lib.hid HC2; clear HC2
  clear hr1 hown1 hgrow1 hb2 hbel hn1 HCUT
  go_wp2_with (at_builtin; refine wpList_append_run rfl _ _ 22 rfl rfl _ _ _ _ rfl rfl HA1.out ?_)
  refine HCC.out.mono ?_; rintro e w4 ⟨V, vs, rfl, hown, hpcs, hb4⟩
  have hW4 : Below W.heap.size W w4 := hW2.trans (Below.mono hb4 hW2.size)
  obtain ⟨P, pc, rfl, hrow, _, _, _, _⟩ := rowB_of_own hown hpcs
  have hcb : ∀ w, Below w4.heap.size w4 w → (convert 22 9 (.slice A len cap)).run Try.prog w = .ok (.string S) w := fun w h => HCV.out A cap w ((HR.out.below hW4 (Nat.le_refl _)).below h (Nat.le_refl _))
  have hrc2 : ∀ w, Below w4.heap.size w4 w → Calls Try.prog 10 #[.string S, .slice D m d] w fun e w' => ∃ E c, e = .returned (.slice E K c) ∧ RowS w' E K (ps.map strOfNums) ∧ Below w4.heap.size w4 w' := fun w h =>
    (HRCUT.out w ((HZ.out.below hW4 (Nat.le_refl _)).below h (Nat.le_refl _))).mono fun e w' ⟨E, c, he, hs, hb⟩ => ⟨E, c, he, hs, h.trans (Below.mono hb h.size)⟩
  have hj2 : ∀ w, Below w4.heap.size w4 w → Calls Try.prog 11 #[.slice P K pc] w fun e w' => ∃ E c', e = .returned (.slice E len c') ∧ RowI .u8 w' E len xs ∧ Below w4.heap.size w4 w' := fun w h =>
    (HJOIN.out P pc w (hrow.below h (Nat.le_refl _))).mono fun e w' ⟨E, c, he, hs, hb⟩ => ⟨E, c, he, hs, h.trans (Below.mono hb h.size)⟩
  have hs2 : ∀ (E : Option Addr) (e : Nat) (w : World), Below w4.heap.size w4 w → RowS w E K (ps.map strOfNums) → Calls Try.prog 9 #[.slice P K pc, .slice E K e] w fun r w' => r = .returned (.bool true) ∧ Below w4.heap.size w4 w' := fun E e w h1 h2 =>
    (HSAME.out P E pc e w (hrow.below h1 (Nat.le_refl _)) h2).mono fun r w' ⟨he, q, hw⟩ => ⟨he, by rw [hw]; exact below_drewN h1 q⟩
  have HRC2 := Lib.hid hrc2; clear hrc2
  have HJ2 := Lib.hid hj2; clear hj2
  have HS2 := Lib.hid hs2; clear hs2
  have HOWN := Lib.hid hown; clear hown
  have HPCS := Lib.hid hpcs; clear hpcs
  have hr0 : Below w4.heap.size w4 w4.drew := (Below.refl _ _).drew
  clear hrow
  go_wp2_with fail
  go_region_held (fun w' => Below w4.heap.size w4 w') (assumption) (first
    | (go_at_call 10; refine (HRC2.out _ (by assumption)).mono ?_; rintro e w5 ⟨E, c, rfl, hrs, hb5⟩)
    | (go_at_call 9; refine (HS2.out _ _ _ (by assumption) (by assumption)).mono ?_; rintro e w6 ⟨rfl, hb6⟩)
    | (go_at_call 11; refine (HJ2.out _ (by assumption)).mono ?_; rintro e w7 ⟨E2, c2, rfl, hri7, hb7⟩; have hcv7 := HCV.out E2 c2 w7 hri7))
  have hb7 : Below w4.heap.size w4 w7 := by assumption
  have hW7 : Below W.heap.size W w7 := hW4.trans (Below.mono hb7 hW4.size)
  have hb27 : Below w2.heap.size w2 w7 := hb4.trans (Below.mono hb7 hb4.size)
  clear hcv7 hri7 hcb
  rcases Nat.eq_zero_or_pos K with h0 | h0
  · have hcb7 : (convert 22 9 (.slice A len cap)).run Try.prog w7 = .ok (.string S) w7 := HCV.out A cap w7 (HR.out.below hW7 (Nat.le_refl _))
    have hca7 : (convert 22 9 (.slice A1 len c1)).run Try.prog w7 = .ok (.string S) w7 := HCV.out A1 c1 w7 (HR1.out.below hb27 (Nat.le_refl _))
    subst h0
    go_wp2_with fail
    go_ret
    exact ⟨rfl, hW7⟩
  · have ho7 := own_kept HOWN.out hb7
    have hp7 := HPCS.out.kept hb7
    obtain ⟨P', pc', hP, _, _, hP0, hP1⟩ := own_cells ho7
    injection hP with e1 e2 e3
    subst e1; subst e3
    rcases P with _ | aP
    · have := (hP0 rfl).1; omega
    · obtain ⟨gP, rfl, hgP, _, hcP, _⟩ := hP1 aP rfl
      have hvl : vs.length = K := by have := ho7.1; omega
      have hpl : ps.length = K := HK.out.symm
      have h0v : 0 < vs.length := by omega
      have h0p : 0 < ps.length := by omega
      have hpo := hp7.2 0 vs[0] ps[0] (List.getElem?_eq_getElem h0v) (List.getElem?_eq_getElem h0p)
      have hc0 := hcP 0 vs[0] (List.getElem?_eq_getElem h0v)
      have hlen := (HPC.out ps[0] (List.getElem_mem _)).1
      obtain ⟨v0, hv0⟩ : ∃ v0, v0 = vs[0] := ⟨_, rfl⟩
      obtain ⟨p0, hp0⟩ : ∃ p0, p0 = ps[0] := ⟨_, rfl⟩
      rw [← hv0] at hpo hc0
      rw [← hp0] at hpo hlen
      obtain ⟨D0, d0, rfl, _, _, hD0, hD1⟩ := own_cells hpo
      rcases D0 with _ | aD
      · have := (hD0 rfl).1; omega
      · obtain ⟨gD, rfl, hgD, hgDl, hcD, hfD⟩ := hD1 aD rfl
        have hcell := hcD 0 (.int .i64 0)
        have hx0 : (p0.map (Value.int .u8))[0]? = some (.int .u8 (p0.getD 0 0)) := by
          rw [List.getElem?_map, List.getElem?_eq_getElem hlen]
          simp [List.getD, List.getElem?_eq_getElem hlen]
        have hcx := hcD 0 _ hx0
        obtain ⟨x, hx⟩ : ∃ x, x = p0.getD 0 0 := ⟨_, rfl⟩
        rw [← hx] at hcx
        have hfz := hfD 0
        obtain ⟨L0, hL0⟩ : ∃ L0, L0 = p0.length := ⟨_, rfl⟩
        rw [← hL0] at hlen hc0
        have hany : ∀ u, Below w2.heap.size w2 (w7.setCell ⟨gD, 0, none⟩ u) ∧ Below W.heap.size W (w7.setCell ⟨gD, 0, none⟩ u) := fun u => ⟨hb27.setCell hgD u, hW7.setCell (Nat.le_trans hW2.size hgD) u⟩
        have hca : ∀ u, (convert 22 9 (.slice A1 len c1)).run Try.prog (w7.setCell ⟨gD, 0, none⟩ u) = .ok (.string S) (w7.setCell ⟨gD, 0, none⟩ u) := fun u => HCV.out A1 c1 _ (HR1.out.below (hany u).1 (Nat.le_refl _))
        have hcb : ∀ u, (convert 22 9 (.slice A len cap)).run Try.prog (w7.setCell ⟨gD, 0, none⟩ u) = .ok (.string S) (w7.setCell ⟨gD, 0, none⟩ u) := fun u => HCV.out A cap _ (HR.out.below (hany u).2 (Nat.le_refl _))
        have HANY := Lib.hid hany; clear hany
        clear hcell hx0 hx hL0 hp0 hv0 hpo hD0 hD1 hcD hfD hcP hP0 hP1 ho7 hp7 hvl hpl h0v h0p
        go_wp2_with fail

        go_ret
        exact ⟨rfl, (HANY.out _).2⟩

theorem lawPieces (A D : Option Addr) (len cap m d : Nat) (xs zs : List Int) (W : World)
    (h : (A = none ∧ len = 0 ∧ cap = 0 ∧ xs = []) ∨
      ∃ x, A = some x ∧ len ≤ cap ∧ cap ≤ maxLen ∧ xs.length = cap ∧ (∀ i, i < xs.length → W.cell? (x.add i) = some (.int .u8 (xs.getD i 0))) ∧ ∀ n ∈ xs, (Lit.int .u8 n).wf = true)
    (g : (D = none ∧ m = 0 ∧ d = 0 ∧ zs = []) ∨
      ∃ x, D = some x ∧ m ≤ d ∧ d ≤ maxLen ∧ zs.length = d ∧ (∀ i, i < zs.length → W.cell? (x.add i) = some (.int .i64 (zs.getD i 0))) ∧ ∀ n ∈ zs, (Lit.int .i64 n).wf = true) :
    Calls Try.prog 3 #[.slice A len cap, .slice D m d] W fun e w' => e = .returned (.bool true) ∧ Below W.heap.size W w' := by
  obtain ⟨hr, hcap, hcm, hnil, _⟩ := rowI_of_row h
  obtain ⟨hz, hcd, hdm, _, _⟩ := rowI_of_row g
  rcases Nat.lt_or_ge 500 len with hl | hl
  · exact lawPieces_long A D len cap m d W hl (Nat.le_trans hcap hcm)
  · rcases Nat.lt_or_ge 20 m with hm | hm
    · exact lawPieces_many A D len cap m d W hl hm (Nat.le_trans hcd hdm)
    · exact lawPieces_short A D len cap m d _ _ W hl hr hnil hm hz
end Go.Proofs.Ytjiagpbmaepamaa
