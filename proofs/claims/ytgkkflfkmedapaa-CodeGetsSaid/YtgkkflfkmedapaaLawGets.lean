/- CodeGets: of any octets the code point at the beginning, and whether they are open: the walk. -/
import Derived.Test.YtgkkflfkmedapaaSameOpen
import Derived.Test.YtgkkflfkmedapaaApp
import Derived.Deep.RegionHeld
namespace Go.Proofs.Ytgkkflfkmedapaa
open Go Go.RowKit
set_option linter.unusedVariables false

theorem lawGets_long (A : Option Addr) (len cap : Nat) (w : World) (hl : 100 < len) (hm : len ≤ maxLen) :
    Calls Try.prog 4 #[.slice A len cap] w fun e w' => e = .returned (.bool true) ∧ Below w.heap.size w w' := by
  unfold maxLen at hm
  have hd : decide ((100 : Int) < (len : Int)) = true := by simp; omega
  go_enter Try.func4, Try.ntmps4
  go_wp2_with fail
  refine (awake_any _).mono ?_; rintro e w1 ⟨rfl, hbel⟩
  go_wp2_with fail
  refine (awake_any _).mono ?_; rintro e w2 ⟨rfl, hbel2⟩
  go_wp2_with fail
  go_ret
  exact ⟨rfl, hbel.trans (Below.mono hbel2 hbel.size)⟩

set_option maxHeartbeats 2000000 in
theorem lawGets_short (A : Option Addr) (len cap : Nat) (l : List Int) (W : World) (hl : len ≤ 100) (hr : RowI .u8 W A len l) (hnil : A = none → len = 0 ∧ cap = 0) (hcap : len ≤ cap) (hcm : cap ≤ maxLen) (hby : ∀ c ∈ l, 0 ≤ c ∧ c < 256) :
    Calls Try.prog 4 #[.slice A len cap] W fun e w' => e = .returned (.bool true) ∧ Below W.heap.size W w' := by
  have hd : decide ((100 : Int) < (len : Int)) = false := by simp; omega
  have hsz : (strOfNums l).size ≤ maxLen := by rw [strOfNums_size, hr.1]; unfold maxLen; omega
  have hgo : ∃ g1 g2 ob, (∀ (A : Option Addr) (c : Nat) (w : World), RowI .u8 w A len l → len ≤ c → c ≤ maxLen → Calls Try.prog 16 #[.slice A len c] w fun e w' => e = .returned (.tuple #[.int .i64 g1, .int .i64 g2]) ∧ ∃ q, w' = w.drewN q) ∧
      (∀ w, Calls Try.prog 17 #[.string (strOfNums l)] w fun e w' => e = .returned (.tuple #[.int .i64 g1, .int .i64 g2]) ∧ Below w.heap.size w w') ∧
      (∀ (A : Option Addr) (c : Nat) (w : World), RowI .u8 w A len l → len ≤ c → c ≤ maxLen → Calls Try.prog 18 #[.slice A len c] w fun e w' => e = .returned (.bool ob) ∧ ∃ q, w' = w.drewN q) ∧
      (∀ w, Calls Try.prog 19 #[.string (strOfNums l)] w fun e w' => e = .returned (.bool ob) ∧ Below w.heap.size w w') := by
    refine ⟨(getI l).1, (getI l).2, openI l, fun A c w h1 h2 h3 => get_any A len c l w h1 hby h2 h3 (by omega), fun w => ?_, fun A c w h1 h2 h3 => copen_any A len c l w h1 hby h2 h3 (by omega), fun w => ?_⟩
    · have := refGet_any (strOfNums l) w hsz
      rw [nums_strOfNums l hby] at this
      exact this
    · have := refOpen_any (strOfNums l) w hsz
      rw [nums_strOfNums l hby] at this
      have he : openI l = ropenI l := by
        cases l with
        | nil => rfl
        | cons x t => exact open_same x t
      rw [he]
      exact this
  obtain ⟨g1, g2, ob, hg, hrg, ho, hro⟩ := hgo
  clear hsz
  have hcv : ∀ (A : Option Addr) (c : Nat) (w : World), RowI .u8 w A len l → (convert 22 9 (.slice A len c)).run Try.prog w = .ok (.string (strOfNums l)) w := fun A c w h => strRow w A len c l h
  obtain ⟨S, hS⟩ : ∃ S, S = strOfNums l := ⟨_, rfl⟩
  rw [← hS] at hrg hro hcv
  clear hS
  have HG := Lib.hid hg; clear hg
  have HRG := Lib.hid hrg; clear hrg
  have HO := Lib.hid ho; clear ho
  have HRO := Lib.hid hro; clear hro
  have HCV := Lib.hid hcv; clear hcv
  have HR := Lib.hid hr; clear hr
  have HB := Lib.hid hby; clear hby
  have HN := Lib.hid hnil; clear hnil
  have HCM := Lib.hid hcm; clear hcm
  go_enter Try.func4, Try.ntmps4
  go_wp2_with fail
  refine (awake_any _).mono ?_; rintro e w1 ⟨rfl, hbel⟩
  have hr1 := HR.out.below hbel (Nat.le_refl _)
  obtain ⟨v, w2, happ, hown, hgrow⟩ := app_run .u8 22 5 1 Try.underlying22 info_u8 (w1.alloc (.cells #[] 5)) w1.heap.size (.slice (some ⟨w1.heap.size, 0, none⟩) 0 0) 0 [] (World.ownsRow_made w1 #[] 0 (Nat.le_refl _) (Nat.zero_le _) rfl)
    A len cap l (hr1.alloc _) HN.out (by omega) (by unfold maxLen; omega) (by simp)
  have hb2 : Below w1.heap.size w1 w2 := ((Below.refl _ _).alloc (Nat.le_refl _) _).grown hgrow (by simp) (by intro k hk; simp [Value.ownBlock] at hk; omega)
  rw [Nat.zero_add, List.nil_append] at hown
  obtain ⟨A', cap', rfl, hri, hcap', hcm'⟩ := row_of_own hown
  have hrb := hr1.below hb2 (Nat.le_refl _)
  have HR1 := Lib.hid hr1; clear hr1
  have HRI := Lib.hid hri; clear hri
  have HRB := Lib.hid hrb; clear hrb
  clear hown hgrow
  have HAPP := Lib.hid happ; clear happ
  go_wp2_with (at_builtin; refine wpList_append_run rfl _ _ 22 rfl rfl _ _ _ _ rfl rfl HAPP.out ?_)
  refine (HG.out _ _ _ HRI.out hcap' hcm').mono ?_; rintro e w' ⟨rfl, q, rfl⟩
  have cv := HCV.out A cap (w2.drewN q) (HRB.out.drewN q)
  go_wp2_with fail
  refine (HRG.out _).mono ?_; rintro e w3 ⟨rfl, hb3⟩
  have hb3' : Below w2.heap.size w2 w3 := (below_drewN (Below.refl _ _) q).trans hb3
  have hrb3 := HRB.out.below hb3' (Nat.le_refl _)
  have hri3 := HRI.out.below hb3' (Nat.le_refl _)
  have hcb : ∀ w, Below w3.heap.size w3 w → (convert 22 9 (.slice A len cap)).run Try.prog w = .ok (.string S) w := fun w h => HCV.out A cap w (hrb3.below h (Nat.le_refl _))
  have hci : ∀ w, Below w3.heap.size w3 w → (convert 22 9 (.slice A' len cap')).run Try.prog w = .ok (.string S) w := fun w h => HCV.out A' cap' w (hri3.below h (Nat.le_refl _))
  have hoi : ∀ w, Below w3.heap.size w3 w → Calls Try.prog 18 #[.slice A' len cap'] w fun e w' => e = .returned (.bool ob) ∧ Below w3.heap.size w3 w' := fun w h =>
    (HO.out A' cap' w (hri3.below h (Nat.le_refl _)) hcap' hcm').mono fun e w' ⟨he, q, hq⟩ => ⟨he, by rw [hq]; exact below_drewN h q⟩
  have hro3 : ∀ w, Below w3.heap.size w3 w → Calls Try.prog 19 #[.string S] w fun e w' => e = .returned (.bool ob) ∧ Below w3.heap.size w3 w' := fun w h =>
    (HRO.out w).mono fun e w' ⟨he, hb⟩ => ⟨he, h.trans (Below.mono hb h.size)⟩
  have HOI := Lib.hid hoi; clear hoi
  have HRO3 := Lib.hid hro3; clear hro3
  have hr0 : Below w3.heap.size w3 w3.drew := (Below.refl _ _).drew
  have hWw3 : Below W.heap.size W w3 := hbel.trans (Below.mono (hb2.trans (Below.mono hb3' hb2.size)) hbel.size)
  clear hb2 hb3 hbel hrb3 hri3 hb3' cv
  go_wp2_with fail
  go_region_held (fun w' => Below w3.heap.size w3 w') (assumption) (first
    | (go_at_call 18; refine (HOI.out _ (by assumption)).mono ?_; rintro e w4 ⟨rfl, hb4⟩)
    | (go_at_call 19; refine (HRO3.out _ (by assumption)).mono ?_; rintro e w5 ⟨rfl, hb5⟩))
  all_goals
    go_wp2
    go_ret
    exact ⟨rfl, hWw3.trans (Below.mono (by assumption) hWw3.size)⟩

theorem lawGets (A : Option Addr) (len cap : Nat) (zs : List Int) (W : World)
    (h : (A = none ∧ len = 0 ∧ cap = 0 ∧ zs = []) ∨
      ∃ x, A = some x ∧ len ≤ cap ∧ cap ≤ maxLen ∧ zs.length = cap ∧ (∀ i, i < zs.length → W.cell? (x.add i) = some (.int .u8 (zs.getD i 0))) ∧ ∀ n ∈ zs, (Lit.int .u8 n).wf = true) :
    Calls Try.prog 4 #[.slice A len cap] W fun e w' => e = .returned (.bool true) ∧ Below W.heap.size W w' := by
  obtain ⟨hr, hcap, hcm, hnil, hwf⟩ := rowI_of_row h
  rcases Nat.lt_or_ge 100 len with hl | hl
  · exact lawGets_long A len cap W hl (Nat.le_trans hcap hcm)
  · exact lawGets_short A len cap (zs.take len) W hl hr hnil hcap hcm (fun c hc => byte_of_wf (hwf c hc))
end Go.Proofs.Ytgkkflfkmedapaa
