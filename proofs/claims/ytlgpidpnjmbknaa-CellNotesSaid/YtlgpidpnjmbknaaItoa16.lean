/- strconv.Itoa from 0 on, whatever the library's table of powers holds: a text that hangs on the number and on that table alone. -/
import Derived.Test.YtlgpidpnjmbknaaFb10
import Derived.Test.YtlgpidpnjmbknaaLay16
import Derived.Lib.ItoaNum
import Derived.Lib.ItoaLen
import Derived.Lib.ItoaMem
namespace Go.Proofs.Ytlgpidpnjmbknaa
open Go Go.RowKit
set_option linter.unusedVariables false
set_option maxRecDepth 20000
/-- The table holds these numbers. -/
def TabT (w : World) (T : Nat → Nat) : Prop := ∀ k, k < 20 → w.cell? ⟨0, k, none⟩ = some (.int .u64 (T k : Int))
theorem TabT.below {w w' : World} {T : Nat → Nat} (h : TabT w T) (hb : Below w.heap.size w w') : TabT w' T := fun k hk => by
  have hlt : 0 < w.heap.size := World.block_lt_of_cell? w ⟨0, k, none⟩ (by rw [h k hk])
  exact (hb.cell (p := ⟨0, k, none⟩) hlt).trans (h k hk)
/-- How many places are taken, by that table. -/
def numT (T : Nat → Nat) (u : Nat) : Nat := Lib.l10 (Lib.bitLen u) + (if T (Lib.l10 (Lib.bitLen u)) ≤ u then 1 else 0)
theorem numT_le (T : Nat → Nat) {u : Nat} (h1 : 1 ≤ u) (h2 : u < 18446744073709551616) : numT T u ≤ 20 ∧ u < 10 ^ (numT T u + 1) := by
  obtain ⟨he, hl⟩ := Lib.numDigits_eq u h1 h2
  have hp := Lib.lt_pow_nDigits u
  have hn : Lib.nDigits u ≤ Lib.l10 (Lib.bitLen u) + 1 := by rw [← he]; split <;> omega
  have hle : Lib.nDigits u ≤ numT T u + 1 := by unfold numT; omega
  refine ⟨by unfold numT; split <;> omega, Nat.lt_of_lt_of_le hp (Nat.pow_le_pow_right (by omega) hle)⟩
theorem len64_any (u : Nat) (h : u < 18446744073709551616) (w : World) : Calls Try.prog 42 #[.int .u64 (u : Int)] w fun e w' => e = .returned (.int .i64 (Lib.bitLen u : Int)) ∧ w' = w := by
  have := Any.bits_Len64 (P := Try.prog) (ρ := Try.fmtInt_ren) { Try.fmtInt with } (u : Int) w (by omega) (by omega)
  rw [Int.toNat_natCast] at this
  exact this
theorem log10_any (x : Nat) (h : x ≤ 64) (w : World) : Calls Try.prog 41 #[.int .i64 (x : Int)] w fun e w' => e = .returned (.int .i64 (Lib.l10 x : Int)) ∧ w' = w :=
  Any.internal_strconv_log10Pow2 (P := Try.prog) (ρ := Try.fmtInt_ren) { Try.fmtInt with } x h w
theorem bool2_any (b : Bool) (w : World) : Calls Try.prog 43 #[.bool b] w fun e w' => e = .returned (.int .i64 (if b then 1 else 0)) ∧ w' = w :=
  Any.internal_strconv_bool2_int (P := Try.prog) (ρ := Try.fmtInt_ren) { Try.fmtInt with } b w
theorem small_any (i : Nat) (h : i < 100) (w : World) : Calls Try.prog 37 #[.int .i64 (i : Int)] w fun e w' => e = .returned (.string ⟨(Lib.decDigits i).toArray⟩) ∧ w' = w :=
  Any.internal_strconv_small (P := Try.prog) (ρ := Try.fmtInt_ren) { Try.fmtInt with } i h w
set_option maxHeartbeats 2000000 in
theorem numDigits_any (u : Nat) (T : Nat → Nat) (w : World) (h1 : 1 ≤ u) (h2 : u < 18446744073709551616) (hT : TabT w T) :
    Calls Try.prog 38 #[.int .u64 (u : Int)] w fun e w' => e = .returned (.int .i64 (numT T u : Int)) ∧ w' = w := by
  obtain ⟨-, h19⟩ := Lib.numDigits_eq u h1 h2
  have hL : Lib.bitLen u ≤ 64 := Lib.bitLen_le u 64 (Nat.le_refl _) h2
  have hc := hT (Lib.l10 (Lib.bitLen u)) (by omega)
  unfold numT
  obtain ⟨z, hz⟩ : ∃ z, z = Lib.bitLen u := ⟨_, rfl⟩
  have HL := Lib.hid (len64_any u h2)
  rw [← hz] at hL hc h19 HL ⊢
  have HG := Lib.hid (log10_any z hL)
  obtain ⟨q, hq⟩ : ∃ q, q = Lib.l10 z := ⟨_, rfl⟩
  rw [← hq] at hc h19 HG ⊢
  have hq20 : q < 20 := by omega
  have hq0 : (0 : Int) ≤ (q : Int) := by omega
  have hq1 : (q : Int) < 20 := by omega
  obtain ⟨tq, htq⟩ : ∃ tq, tq = T q := ⟨_, rfl⟩
  rw [← htq] at hc ⊢
  have HB := Lib.hid bool2_any
  clear hT hz hq htq h1 h2
  by_cases hle : tq ≤ u
  · rw [if_pos hle]
    have hd : decide (tq ≤ u) = true := by simpa using hle
    have HB1 := Lib.hid (HB.out true)
    rw [if_pos rfl] at HB1
    clear hle HB
    go_enter Try.func38, Try.ntmps38
    go_wp2_with (first
      | (go_at_call 42; refine (HL.out _).mono ?_; rintro e w1 ⟨rfl, rfl⟩)
      | (go_at_call 41; refine (HG.out _).mono ?_; rintro e w1 ⟨rfl, rfl⟩)
      | (go_at_call 43; (with_reducible refine (HB1.out _).mono ?_); rintro e w1 ⟨rfl, rfl⟩))
    go_ret
    exact ⟨by first | rfl | simp, rfl⟩
  · rw [if_neg hle]
    have hd : decide (tq ≤ u) = false := by simpa using hle
    have HB1 := Lib.hid (HB.out false)
    rw [if_neg (by simp)] at HB1
    clear hle HB
    go_enter Try.func38, Try.ntmps38
    go_wp2_with (first
      | (go_at_call 42; refine (HL.out _).mono ?_; rintro e w1 ⟨rfl, rfl⟩)
      | (go_at_call 41; refine (HG.out _).mono ?_; rintro e w1 ⟨rfl, rfl⟩)
      | (go_at_call 43; (with_reducible refine (HB1.out _).mono ?_); rintro e w1 ⟨rfl, rfl⟩))
    go_ret
    exact ⟨by first | rfl | simp, rfl⟩
/-- The text. -/
def itoaT (T : Nat → Nat) (n : Nat) : ByteArray := if n < 100 then ⟨(Lib.decDigits n).toArray⟩ else ⟨(((fb10 1 (List.replicate 24 0) (numT T n) n).drop 1).take (numT T n)).toArray⟩
theorem step8_length (o : Nat) (L : List UInt8) (m u : Nat) : (step8 o L m u).length = L.length := by simp [step8, put2_length]
theorem loop8_length (o : Nat) : ∀ (f : Nat) (L : List UInt8) (nd u : Nat), (loop8 o f L nd u).1.length = L.length
  | 0, L, nd, u => rfl
  | f + 1, L, nd, u => by
    unfold loop8
    split
    · rw [loop8_length o f, step8_length]
    · rfl
theorem tail10_length (o : Nat) (L : List UInt8) (v n : Nat) : (tail10 o L v n).length = L.length := by
  unfold tail10
  split <;> simp [put2_length, last1_length]
theorem fb10_length (o : Nat) (L : List UInt8) (nd u : Nat) : (fb10 o L nd u).length = L.length := by
  unfold fb10
  rw [tail10_length, loop8_length]
set_option maxHeartbeats 4000000 in
theorem fmtInt_any (n : Nat) (T : Nat → Nat) (w : World) (h2 : n < 9223372036854775808) (hT : TabT w T) :
    Calls Try.prog 36 #[.int .i64 (n : Int), .int .i64 10] w fun e w' => e = .returned (.string (itoaT T n)) ∧ Below w.heap.size w w' := by
  unfold itoaT
  by_cases hs : n < 100
  · rw [if_pos hs]
    have HS := Lib.hid (small_any n hs)
    go_enter Try.func36, Try.ntmps36
    go_wp2_with (go_at_call 37; refine (HS.out _).mono ?_; rintro e w1 ⟨rfl, rfl⟩)
    go_ret
    exact ⟨rfl, Below.refl _ _⟩
  · rw [if_neg hs]
    have hs100 : ¬ (n : Int) < 100 := by omega
    obtain ⟨h20, hpw⟩ := numT_le T (u := n) (by omega) (by omega)
    have hlen : (fb10 1 (List.replicate 24 0) (numT T n) n).length = 24 := fb10_length _ _ _ _
    obtain ⟨L, hL⟩ : ∃ L, L = fb10 1 (List.replicate 24 0) (numT T n) n := ⟨_, rfl⟩
    have hb0 := (Below.refl w.heap.size w).alloc (Nat.le_refl _) (.cells #[.int .u8 0, .int .u8 0, .int .u8 0, .int .u8 0, .int .u8 0, .int .u8 0, .int .u8 0, .int .u8 0, .int .u8 0, .int .u8 0, .int .u8 0, .int .u8 0, .int .u8 0, .int .u8 0, .int .u8 0, .int .u8 0, .int .u8 0, .int .u8 0, .int .u8 0, .int .u8 0, .int .u8 0, .int .u8 0, .int .u8 0, .int .u8 0] 76)
    have hrow : RowAt (w.alloc (.cells #[.int .u8 0, .int .u8 0, .int .u8 0, .int .u8 0, .int .u8 0, .int .u8 0, .int .u8 0, .int .u8 0, .int .u8 0, .int .u8 0, .int .u8 0, .int .u8 0, .int .u8 0, .int .u8 0, .int .u8 0, .int .u8 0, .int .u8 0, .int .u8 0, .int .u8 0, .int .u8 0, .int .u8 0, .int .u8 0, .int .u8 0, .int .u8 0] 76)) w.heap.size 76 (List.replicate 24 0) := heap_alloc_new _ _
    obtain ⟨W, hW⟩ : ∃ W, W = w.alloc (.cells #[.int .u8 0, .int .u8 0, .int .u8 0, .int .u8 0, .int .u8 0, .int .u8 0, .int .u8 0, .int .u8 0, .int .u8 0, .int .u8 0, .int .u8 0, .int .u8 0, .int .u8 0, .int .u8 0, .int .u8 0, .int .u8 0, .int .u8 0, .int .u8 0, .int .u8 0, .int .u8 0, .int .u8 0, .int .u8 0, .int .u8 0, .int .u8 0] 76) := ⟨_, rfl⟩
    rw [← hW] at hb0 hrow
    have HND := Lib.hid (numDigits_any n T W (by omega) (by omega) (hT.below hb0))
    have hfb := fb10_any w.heap.size 1 (numT T n) n 23 76 _ W hrow (by simp; omega) h20 hpw (by omega)
    rw [← hL] at hfb hlen ⊢
    obtain ⟨nd, hnd⟩ : ∃ nd, nd = numT T n := ⟨_, rfl⟩
    rw [← hnd] at HND hfb h20 ⊢
    have HFB := Lib.hid hfb
    obtain ⟨tx, htx⟩ : ∃ tx : ByteArray, tx = ⟨((L.drop 1).take nd).toArray⟩ := ⟨_, rfl⟩
    rw [← htx]
    have HTX := Lib.hid htx
    clear htx
    have HW := Lib.hid hW
    have HB := Lib.hid hb0
    obtain ⟨s, hs⟩ : ∃ s, s = w.heap.size := ⟨_, rfl⟩
    rw [← hs] at HFB
    have HS := Lib.hid hs
    have he : Try.prog.elem 76 = 5 := by kernel_rfl
    have hal : Try.prog.arrayLen 76 = 24 := by kernel_rfl
    have hsz : ∀ w : World, (sizeOf 5).run Try.prog w = .ok 1 w := fun w => by kernel_rfl
    have hsl : ∀ W, (Instr.sliceAt 76 (.pointer (some ⟨s, 0, none⟩)) (some (.int .i64 1)) (some (.int .i64 (1 + (nd : Int)))) none).run Try.prog W = .ok (.slice (some ⟨s, 1, none⟩) nd 23) W := fun W => by
      have hr := run_sliceAt_array_lh (P := Try.prog) W 76 ⟨s, 0, none⟩ (by rw [he]; exact Try.underlying76) .i64 .i64 1 (1 + (nd : Int)) (by omega) (by omega) (by rw [hal]; omega)
      rw [hr, he, hsz, hal]
      simp [Result.andThen, slicedAt, Addr.add]
      omega
    have hneg : decide ((n : Int) < 0) = false := by simp
    clear hT hs hW hrow hb0 hfb hnd hL hpw he hal hsz
    go_enter Try.func36, Try.ntmps36
    go_wp2_with fail
    rw [← HW.out, ← HS.out]
    (with_reducible refine HND.out.mono ?_); rintro e w1 ⟨rfl, rfl⟩
    go_wp2_with fail
    (with_reducible refine HFB.out.mono ?_); rintro e w2 ⟨rfl, hR, hM⟩
    have hll : ((L.drop 1).take nd).length = nd := by simp [hlen]; omega
    have hcv := run_convert_bytes_back (P := Try.prog) w2 80 9 5 ⟨s, 1, none⟩ 23 ((L.drop 1).take nd) Try.underlying80 Try.underlying5 Try.underlying9 (fun j hj => by
      rw [hll] at hj
      have hadd : (⟨s, 1, none⟩ : Addr).add j = ⟨s, 1 + j, none⟩ := by unfold Addr.add; split <;> simp_all
      rw [hadd, hR.cell (by omega)]
      have h1 : L[1 + j]? = some L[1 + j] := List.getElem?_eq_getElem (by omega)
      have h2 : ((L.drop 1).take nd)[j] = L[1 + j] := by rw [List.getElem_take, List.getElem_drop]
      rw [h2, List.getD, h1]
      rfl)
    rw [hll, ← HTX.out] at hcv
    have HB2 : Hid (Below w.heap.size w w2) := Lib.hid (HB.out.trans (hM.below (B := w.heap.size) (fun k hk => by rw [hk, HS.out]; exact Nat.le_refl _) HB.out.size))
    clear hR hM hll
    go_wp2_with fail
    go_ret
    exact ⟨rfl, HB2.out⟩
theorem itoa_any (n : Nat) (T : Nat → Nat) (w : World) (h2 : n < 9223372036854775808) (hT : TabT w T) :
    Calls Try.prog 34 #[.int .i64 (n : Int)] w fun e w' => e = .returned (.string (itoaT T n)) ∧ Below w.heap.size w w' := by
  have HF := Lib.hid (fmtInt_any n T w h2 hT)
  have HI : Hid (Calls Try.prog 35 #[.int .i64 (n : Int)] w fun e w' => e = .returned (.string (itoaT T n)) ∧ Below w.heap.size w w') := Lib.hid (by
    clear hT
    go_enter Try.func35, Try.ntmps35
    go_wp2_with fail
    (with_reducible refine HF.out.mono ?_); rintro e w1 ⟨rfl, hb⟩
    have HB := Lib.hid hb
    clear hb
    go_wp2_with fail
    go_ret
    exact ⟨rfl, HB.out⟩)
  clear hT HF
  go_enter Try.func34, Try.ntmps34
  go_wp2_with fail
  (with_reducible refine HI.out.mono ?_); rintro e w1 ⟨rfl, hb⟩
  have HB := Lib.hid hb
  clear hb
  go_wp2_with fail
  go_ret
  exact ⟨rfl, HB.out⟩
theorem itoaT_size (T : Nat → Nat) (n : Nat) : (itoaT T n).size ≤ 24 := by
  unfold itoaT
  split
  · rename_i h
    show (Lib.decDigits n).toArray.size ≤ 24
    rw [List.size_toArray, Lib.decDigits_length]
    have := Lib.nDigits_le20 n (by omega)
    omega
  · show (List.take _ _).toArray.size ≤ 24
    rw [List.size_toArray, List.length_take, List.length_drop, fb10_length]
    simp
    omega
/-- An error's own text. -/
def errT (T : Nat → Nat) (c : Int) : ByteArray := if c < 0 then ⟨#[114, 101, 101, 100, 98, 101, 100, 58, 32, 101, 114, 114, 111, 114]⟩ else ⟨#[114, 101, 101, 100, 98, 101, 100, 58, 32, 101, 114, 114, 111, 114, 32]⟩ ++ itoaT T c.toNat
theorem errText_any (c : Int) (T : Nat → Nat) (w : World) (hc : c < 9223372036854775808) (hT : TabT w T) :
    Calls Try.prog 33 #[.int .i64 c] w fun e w' => e = .returned (.string (errT T c)) ∧ Below w.heap.size w w' := by
  unfold errT
  by_cases h : c < 0
  · rw [if_pos h]
    clear hc hT
    go_enter Try.func33, Try.ntmps33
    go_wp2_with fail
    go_ret
    exact ⟨rfl, Below.refl _ _⟩
  · rw [if_neg h]
    obtain ⟨n, rfl⟩ : ∃ n : Nat, c = (n : Int) := ⟨c.toNat, by omega⟩
    rw [Int.toNat_natCast]
    have HI := Lib.hid (itoa_any n T w (by omega) hT)
    have hsz := itoaT_size T n
    obtain ⟨s, hs⟩ : ∃ s, s = itoaT T n := ⟨_, rfl⟩
    rw [← hs] at HI hsz ⊢
    have hlt : ¬ 9223372036854775807 < 15 + s.size := by omega
    have hn0 : ¬ (n : Int) < 0 := by omega
    clear hT hs h hc
    go_enter Try.func33, Try.ntmps33
    go_wp2_with fail
    (with_reducible refine HI.out.mono ?_); rintro e w1 ⟨rfl, hb⟩
    have HB := Lib.hid hb
    clear hb
    go_wp2_with fail
    go_ret
    exact ⟨rfl, HB.out⟩
end Go.Proofs.Ytlgpidpnjmbknaa
