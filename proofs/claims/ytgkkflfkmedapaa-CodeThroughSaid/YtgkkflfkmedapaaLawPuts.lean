/- CodePuts: which numbers are code points, and their octets; there and back: the walk. -/
import Derived.Test.YtgkkflfkmedapaaSameOpen
import Derived.Test.YtgkkflfkmedapaaApp
import Derived.Deep.RegionHeld
namespace Go.Proofs.Ytgkkflfkmedapaa
open Go Go.RowKit
set_option linter.unusedVariables false

theorem valI_put {s : Int} (h : isI s = true) : valI (putI s) = s := by
  have h0 := isI_cases h
  unfold putI
  (repeat' split) <;> simp only [valI, vtailI] <;> unfold vheadI <;> (repeat' split) <;> omega
/-- There and back it is itself, whatever stands behind. -/
theorem get_put {s : Int} (h : isI s = true) (rest : List Int) : getI (putI s ++ rest) = (s, ((putI s).length : Int)) := by
  cases hp : putI s with
  | nil => unfold putI at hp; (repeat' split at hp) <;> cases hp
  | cons x t =>
    have hf := putI_form h hp
    rw [List.cons_append, get_same x _ (putI_byte s h x (by rw [hp]; simp)).1, rgetF_one, hf.1]
    have ht : (x :: (t ++ rest)).take ((t.length : Int) + 1).toNat = putI s := by
      rw [hp, show ((t.length : Int) + 1).toNat = t.length + 1 by omega, List.take_succ_cons, List.take_left]
    have hok : okI (x :: (t ++ rest)) ((t.length : Int) + 1).toNat = true := by
      unfold okI
      rw [ht, valI_put h, h, decide_eq_true rfl, decide_eq_true (by simp)]
      rfl
    rw [if_pos ⟨hok, by omega⟩, ht, valI_put h]
    simp
theorem putI_len (r : Int) : 1 ≤ (putI r).length ∧ (putI r).length ≤ 4 := by unfold putI; (repeat' split) <;> simp
theorem put_abs (r : Int) (w : World) : Calls Try.prog 10 #[.int .i64 r] w fun e w' => ∃ A, e = .returned (.slice A (putI (sndI r)).length (putI (sndI r)).length) ∧ RowI .u8 w' A (putI (sndI r)).length (putI (sndI r)) ∧ A ≠ none ∧ Below w.heap.size w w' :=
  (put_any r w).mono fun e w' ⟨he, hw⟩ => ⟨_, he, by rw [hw]; exact RowI.new _ _ _ _, by simp, by rw [hw]; exact (Below.refl _ _).alloc (Nat.le_refl _) _⟩

theorem lawPuts_long (r : Int) (A : Option Addr) (len cap : Nat) (w : World) (hl : 100 < len) (hm : len ≤ maxLen) :
    Calls Try.prog 3 #[.int .i64 r, .slice A len cap] w fun e w' => e = .returned (.bool true) ∧ Below w.heap.size w w' := by
  unfold maxLen at hm
  have hd : decide ((100 : Int) < (len : Int)) = true := by simp; omega
  go_enter Try.func3, Try.ntmps3
  go_wp2_with fail
  refine (awake_any _).mono ?_; rintro e w1 ⟨rfl, hbel⟩
  go_wp2_with fail
  refine (awake_any _).mono ?_; rintro e w2 ⟨rfl, hbel2⟩
  go_wp2_with fail
  go_ret
  exact ⟨rfl, hbel.trans (Below.mono hbel2 hbel.size)⟩

set_option maxHeartbeats 4000000 in
theorem lawPuts_short (r : Int) (A : Option Addr) (len cap : Nat) (l : List Int) (W : World) (hl : len ≤ 100) (hr : RowI .u8 W A len l) (hnil : A = none → len = 0 ∧ cap = 0) (hby : ∀ c ∈ l, 0 ≤ c ∧ c < 256) :
    Calls Try.prog 3 #[.int .i64 r, .slice A len cap] W fun e w' => e = .returned (.bool true) ∧ Below W.heap.size W w' := by
  have hd : decide ((100 : Int) < (len : Int)) = false := by simp; omega
  have hp := fun w => put_abs r w
  have hrp := fun w => refPut_any r w
  have hg := get_put (sndI_is r) l
  have hP4 := putI_len (sndI r)
  have hPb := putI_byte _ (sndI_is r)
  have hI := fun w => is_any r w
  have hRI := fun w => refIs_any r w
  have hZ := fun w => size_any r w
  have hRZ := fun w => refSize_any r w
  obtain ⟨P, hP⟩ : ∃ P, P = putI (sndI r) := ⟨_, rfl⟩
  rw [← hP] at hp hrp hg hP4 hPb
  clear hP
  obtain ⟨n, hn⟩ : ∃ n, n = P.length := ⟨_, rfl⟩
  rw [← hn] at hp hg hP4
  obtain ⟨s, hs⟩ : ∃ s, s = sndI r := ⟨_, rfl⟩
  rw [← hs] at hg
  obtain ⟨z, hz⟩ : ∃ z, z = szI r := ⟨_, rfl⟩
  rw [← hz] at hZ hRZ
  clear hz
  obtain ⟨S, hS⟩ : ∃ S, S = strOfNums P := ⟨_, rfl⟩
  have hcv : ∀ (A : Option Addr) (c : Nat) (w : World), RowI .u8 w A n P → (convert 22 9 (.slice A n c)).run Try.prog w = .ok (.string S) w := fun A c w h => by rw [hS]; exact strRow w A n c P h
  rw [← hS] at hrp
  clear hS
  have hcat := fun (A : Option Addr) (c : Nat) (w : World) (h : RowI .u8 w A (n + len) (P ++ l)) (h1 : n + len ≤ c) (h2 : c ≤ maxLen) => get_any A (n + len) c (P ++ l) w h (fun c hc => by
    rcases List.mem_append.1 hc with h | h
    · exact hPb c h
    · exact hby c h) h1 h2 (by omega)
  rw [hg] at hcat
  simp only at hcat
  clear hg hPb
  obtain ⟨hn1, hn4⟩ := hP4
  have HR := Lib.hid hr; clear hr
  have HN := Lib.hid hnil; clear hnil
  have HP := Lib.hid hp; clear hp
  have HRP := Lib.hid hrp; clear hrp
  have HI := Lib.hid hI; clear hI
  have HRI := Lib.hid hRI; clear hRI
  have HZ := Lib.hid hZ; clear hZ
  have HRZ := Lib.hid hRZ; clear hRZ
  have HCV := Lib.hid hcv; clear hcv
  have HCAT := Lib.hid hcat; clear hcat
  have HB := Lib.hid hby; clear hby
  have Hn := Lib.hid hn; clear hn
  have Hs := Lib.hid hs; clear hs
  go_enter Try.func3, Try.ntmps3
  go_wp2_with fail
  refine (awake_any _).mono ?_; rintro e w1 ⟨rfl, hbel⟩
  go_wp2_with fail
  refine (HP.out _).mono ?_; rintro e w2 ⟨Ab, rfl, hb2r, hAb, hb2⟩
  have hr1 := HR.out.below hbel (Nat.le_refl _)
  have hr2 := hr1.below hb2 (Nat.le_refl _)
  have hW2 : Below W.heap.size W w2 := hbel.trans (Below.mono hb2 hbel.size)
  clear hr1 hbel hb2
  have hcb : ∀ w, Below w2.heap.size w2 w → (convert 22 9 (.slice Ab n n)).run Try.prog w = .ok (.string S) w := fun w h => HCV.out Ab n w (hb2r.below h (Nat.le_refl _))
  have hrp2 : ∀ w, Below w2.heap.size w2 w → Calls Try.prog 15 #[.int .i64 r] w fun e w' => e = .returned (.string S) ∧ Below w2.heap.size w2 w' := fun w h =>
    (HRP.out w).mono fun e w' ⟨he, hb⟩ => ⟨he, h.trans (Below.mono hb h.size)⟩
  have HRP2 := Lib.hid hrp2; clear hrp2
  have HR2 := Lib.hid hr2; clear hr2
  have HBR := Lib.hid hb2r; clear hb2r
  have hr0 : Below w2.heap.size w2 w2.drew := (Below.refl _ _).drew
  have hii : ∀ b : Bool, (b != b) = false := by simp
  have hzz : (z != z) = false := by simp
  go_wp2_with fail
  go_region_held (fun w' => Below w2.heap.size w2 w') (assumption) (first
    | (go_at_call 11; refine (HI.out _).mono ?_; rintro e w' ⟨rfl, rfl⟩)
    | (go_at_call 12; refine (HRI.out _).mono ?_; rintro e w' ⟨rfl, rfl⟩)
    | (go_at_call 13; refine (HZ.out _).mono ?_; rintro e w' ⟨rfl, rfl⟩)
    | (go_at_call 14; refine (HRZ.out _).mono ?_; rintro e w' ⟨rfl, rfl⟩)
    | (go_at_call 15; refine (HRP2.out _ (by assumption)).mono ?_; rintro e w3 ⟨rfl, hb3⟩))
  have hb3 : Below w2.heap.size w2 w3 := by assumption
  have hr3 := HR2.out.below hb3 (Nat.le_refl _)
  have hb3r := HBR.out.below hb3 (Nat.le_refl _)
  have hW3 : Below W.heap.size W w3 := hW2.trans (Below.mono hb3 hW2.size)
  clear hb3
  obtain ⟨v1, w4, happ1, hown1, hgrow1⟩ := app_run .u8 22 5 1 Try.underlying22 info_u8 (w3.alloc (.cells #[] 5)) w3.heap.size (.slice (some ⟨w3.heap.size, 0, none⟩) 0 0) 0 [] (World.ownsRow_made w3 #[] 0 (Nat.le_refl _) (Nat.zero_le _) rfl)
    Ab n n P (hb3r.alloc _) (fun h => absurd h hAb) (by omega) (by unfold maxLen; omega) (by simp)
  have hb4 : Below w3.heap.size w3 w4 := ((Below.refl _ _).alloc (Nat.le_refl _) _).grown hgrow1 (by simp) (by intro k hk; simp [Value.ownBlock] at hk; omega)
  have hr4 := hr3.below hb4 (Nat.le_refl _)
  obtain ⟨v2, w5, happ2, hown2, hgrow2⟩ := app_run .u8 22 5 1 Try.underlying22 info_u8 w4 w3.heap.size v1 (0 + n) ([] ++ P) hown1
    A len cap l hr4 HN.out (by omega) (by unfold maxLen; omega) hb4.size
  have hb5 : Below w3.heap.size w3 w5 := hb4.grown hgrow2 hb4.size (by intro k hk; exact (hown1.lt k hk).1)
  rw [Nat.zero_add, List.nil_append] at hown2
  obtain ⟨A', cap', rfl, hrc, hcap', hcm'⟩ := row_of_own hown2
  have hW5 : Below W.heap.size W w5 := hW3.trans (Below.mono hb5 hW3.size)
  have HA1 := Lib.hid happ1; clear happ1
  have HA2 := Lib.hid happ2; clear happ2
  have HRC := Lib.hid hrc; clear hrc
  clear hr3 hb3r hown1 hgrow1 hb4 hr4 hown2 hgrow2 hb5 hAb
  go_wp2_with (first
    | (at_builtin; refine wpList_append_run rfl _ _ 22 rfl rfl _ _ _ _ rfl rfl HA1.out ?_)
    | (at_builtin; refine wpList_append_run rfl _ _ 22 rfl rfl _ _ _ _ rfl rfl HA2.out ?_))
  refine (HCAT.out _ _ _ HRC.out hcap' hcm').mono ?_; rintro e w' ⟨rfl, q1, rfl⟩
  have hnn : ((n : Int) == (n : Int)) = true := by simp
  cases hir : isI r with
  | true =>
    have e1 : (s == r) = true := by rw [beq_iff_eq, Hs.out]; simp [sndI, hir]
    clear hir
    go_wp2_with fail
    go_ret
    exact ⟨rfl, below_drewN hW5 q1⟩
  | false =>
    have hs : s = 65533 := by rw [Hs.out]; simp [sndI, hir]
    have e1 : (s == r) = false := by
      rw [beq_eq_false_iff_ne, hs]
      rintro rfl
      revert hir
      decide
    have e2 : (s == 65533) = true := by rw [beq_iff_eq]; exact hs
    have hri := HRI.out
    rw [hir] at hri
    have HRI2 := Lib.hid hri
    clear hir hs hri
    go_wp2_with fail
    refine (HRI2.out _).mono ?_; rintro e w' ⟨rfl, rfl⟩
    go_wp2_with fail
    go_ret
    exact ⟨rfl, below_drewN hW5 q1⟩

theorem lawPuts (r : Int) (A : Option Addr) (len cap : Nat) (zs : List Int) (W : World)
    (h : (A = none ∧ len = 0 ∧ cap = 0 ∧ zs = []) ∨
      ∃ x, A = some x ∧ len ≤ cap ∧ cap ≤ maxLen ∧ zs.length = cap ∧ (∀ i, i < zs.length → W.cell? (x.add i) = some (.int .u8 (zs.getD i 0))) ∧ ∀ n ∈ zs, (Lit.int .u8 n).wf = true) :
    Calls Try.prog 3 #[.int .i64 r, .slice A len cap] W fun e w' => e = .returned (.bool true) ∧ Below W.heap.size W w' := by
  obtain ⟨hr, hcap, hcm, hnil, hwf⟩ := rowI_of_row h
  rcases Nat.lt_or_ge 100 len with hl | hl
  · exact lawPuts_long r A len cap W hl (Nat.le_trans hcap hcm)
  · exact lawPuts_short r A len cap (zs.take len) W hl hr hnil (fun c hc => byte_of_wf (hwf c hc))
end Go.Proofs.Ytgkkflfkmedapaa
