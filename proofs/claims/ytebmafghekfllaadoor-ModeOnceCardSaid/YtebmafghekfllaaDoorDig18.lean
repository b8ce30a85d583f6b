/- The document's Digits: the decimal numeral of any whole number. -/
import Derived.Test.YtebmafghekfllaaDoorRec
import Derived.Lib.ItoaNum
import Derived.Lib.ItoaLen
import Derived.Lib.ItoaMem
namespace Go.Proofs.YtebmafghekfllaaDoor
open Go Go.RowKit
set_option linter.unusedVariables false
set_option maxRecDepth 20000
/-- The numeral as a string. -/
def itoaS (n : Int) : ByteArray := ⟨(Lib.itoa n).toArray⟩
theorem itoaS_nat (u : Nat) : itoaS (u : Int) = ⟨(Lib.decDigits u).toArray⟩ := by rw [itoaS, Lib.itoa_nonneg]
theorem itoaS_small (u : Nat) (h : u < 10) : itoaS (u : Int) = ⟨#[UInt8.ofNat (48 + u)]⟩ := by rw [itoaS_nat, Lib.decDigits, dif_pos h]
theorem bytes_app (a b : List UInt8) : (⟨(a ++ b).toArray⟩ : ByteArray) = ⟨a.toArray⟩ ++ ⟨b.toArray⟩ := by
  apply ByteArray.ext
  rw [ByteArray.data_append]
  simp
theorem itoaS_step (u : Nat) (h : ¬ u < 10) : itoaS (u : Int) = itoaS ((u / 10 : Nat) : Int) ++ itoaS ((u % 10 : Nat) : Int) := by
  have h2 : u % 10 < 10 := Nat.mod_lt _ (by omega)
  rw [itoaS_nat, itoaS_nat, itoaS_small _ h2, Lib.decDigits, dif_neg h, bytes_app]
theorem itoaS_neg (u : Nat) (h : 1 ≤ u) : itoaS (-(u : Int)) = ⟨#[45]⟩ ++ itoaS (u : Int) := by
  rw [itoaS, Lib.itoa_neg u h, itoaS_nat, ← List.singleton_append, bytes_app]
theorem digs_le : ∀ (k u : Nat), u < 10 ^ (k + 1) → (Lib.decDigits u).length ≤ k + 1
  | 0, u, h => by rw [Lib.decDigits, dif_pos (by simpa using h)]; simp
  | k + 1, u, h => by
    rw [Lib.decDigits]
    split
    · simp
    · have := digs_le k (u / 10) (by rw [Nat.pow_succ] at h; omega)
      rw [List.length_append, List.length_singleton]
      omega
theorem itoaS_size (u : Nat) (h : u < 18446744073709551616) : (itoaS (u : Int)).size ≤ 20 := by
  rw [itoaS_nat]
  have := digs_le 19 u (by omega)
  simpa [ByteArray.size] using this
theorem one_octet (w : World) (u : Nat) (h : u < 10) : (convert 49 9 (.slice (some ⟨w.heap.size, 0, none⟩) 1 1)).run Tryd.prog (w.alloc (.cells #[.int .u8 (48 + (u : Int))] 5)) = .ok (.string (itoaS (u : Int))) (w.alloc (.cells #[.int .u8 (48 + (u : Int))] 5)) := by
  have hc : ∀ j, j < 1 → (w.alloc (.cells #[.int .u8 (48 + (u : Int))] 5)).cell? ⟨w.heap.size, 0 + j, none⟩ = some (.int .u8 ([48 + (u : Int)].getD j 0)) := fun j hj => by
    have : j = 0 := by omega
    subst this
    rw [cell_of_row _ _ _ _ _ (0, 0) (heap_alloc_new w _)]
    rfl
  have := run_convert_bytes_arg (P := Tryd.prog) (w.alloc (.cells #[.int .u8 (48 + (u : Int))] 5)) 49 5 Tryd.underlying49 Tryd.underlying5 w.heap.size 0 1 1 [48 + (u : Int)] rfl hc 9 Tryd.underlying9
  rw [this, itoaS_small u h]
  congr 2
theorem dig_nat : ∀ (u : Nat), u < 9223372036854775808 → ∀ w : World, Calls Tryd.prog 16 #[.int .i64 (u : Int)] w fun e w' => e = .returned (.string (itoaS (u : Int))) ∧ Below w.heap.size w w' := by
  intro u
  induction u using Nat.strongRecOn with
  | ind u ih =>
    intro hu w
    have hneg : ¬ (u : Int) < 0 := by omega
    by_cases h : u < 10
    · have hs := one_octet w u h
      have hb := Lib.hid ((Below.refl w.heap.size w).alloc (Nat.le_refl _) (.cells #[.int .u8 (48 + (u : Int))] 5))
      obtain ⟨s, hs2⟩ : ∃ s, s = itoaS (u : Int) := ⟨_, rfl⟩
      rw [← hs2] at hs ⊢
      clear hs2 ih
      go_enter Tryd.func16, Tryd.ntmps16
      go_wp2_with fail
      go_ret
      exact ⟨rfl, hb.out⟩
    · have H1 := Lib.hid fun w => ih (u / 10) (by omega) (by omega) w
      have H2 := Lib.hid fun w => ih (u % 10) (by omega) (by omega) w
      have e1 : (u : Int) / 10 = ((u / 10 : Nat) : Int) := by omega
      have e2 : (u : Int) % 10 = ((u % 10 : Nat) : Int) := by omega
      have hst := itoaS_step u h
      have l1 := itoaS_size (u / 10) (by omega)
      have l2 := itoaS_size (u % 10) (by omega)
      rw [hst]
      obtain ⟨a, ha⟩ : ∃ a, a = itoaS ((u / 10 : Nat) : Int) := ⟨_, rfl⟩
      obtain ⟨b, hb⟩ : ∃ b, b = itoaS ((u % 10 : Nat) : Int) := ⟨_, rfl⟩
      rw [← ha] at H1 l1 ⊢
      rw [← hb] at H2 l2 ⊢
      have l3 : ¬ 9223372036854775807 < a.size + b.size := by omega
      have E1 := Lib.hid e1
      have E2 := Lib.hid e2
      clear ih hst ha hb l1 l2 e1 e2
      go_enter Tryd.func16, Tryd.ntmps16
      go_wp2_with fail
      rw [E1.out]
      refine (H1.out _).mono ?_; rintro e w1 ⟨rfl, h1⟩
      have HB1 := Lib.hid h1
      clear h1
      go_wp2_with fail
      rw [E2.out]
      refine (H2.out _).mono ?_; rintro e w2 ⟨rfl, h2⟩
      have HB2 := Lib.hid (HB1.out.trans (h2.mono HB1.out.size))
      clear h2
      go_wp2_with fail
      go_ret
      exact ⟨rfl, HB2.out⟩
theorem itoaS_size_any (n : Int) (h0 : -9223372036854775808 ≤ n) (h1 : n ≤ 9223372036854775807) : (itoaS n).size ≤ 21 := by
  have := Lib.itoa_length_le n h0 h1
  simpa [itoaS, ByteArray.size] using this
theorem dig_any (n : Int) (h0 : -9223372036854775808 ≤ n) (h1 : n ≤ 9223372036854775807) (w : World) : Calls Tryd.prog 16 #[.int .i64 n] w fun e w' => e = .returned (.string (itoaS n)) ∧ Below w.heap.size w w' := by
  by_cases hneg : n < 0
  · obtain ⟨u, rfl⟩ : ∃ u : Nat, n = -(u : Int) := ⟨n.natAbs, by omega⟩
    have hu : 1 ≤ u := by omega
    have hu2 : u ≤ 9223372036854775808 := by omega
    rw [itoaS_neg u hu]
    have ec : IntKind.u64.wrap (-(u : Int)) = 18446744073709551616 - (u : Int) := by simp [IntKind.wrap, IntKind.bits, IntKind.signed]; omega
    have es : IntKind.u64.wrap (-(18446744073709551616 - (u : Int))) = (u : Int) := by simp [IntKind.wrap, IntKind.bits, IntKind.signed]; omega
    by_cases h : u < 10
    · have HD := Lib.hid fun w => dig_nat u (by omega) w
      have l1 := itoaS_size u (by omega)
      obtain ⟨a, ha⟩ : ∃ a, a = itoaS (u : Int) := ⟨_, rfl⟩
      rw [← ha] at HD l1 ⊢
      have l3 : ¬ 9223372036854775807 < 1 + a.size := by omega
      have l4 : ¬ 9223372036854775807 < (⟨#[45]⟩ : ByteArray).size + a.size := by rw [show (⟨#[45]⟩ : ByteArray).size = 1 from rfl]; omega
      clear ha l1 h0 h1
      go_enter Tryd.func16, Tryd.ntmps16
      go_wp2_with fail
      refine (HD.out _).mono ?_; rintro e w1 ⟨rfl, h1⟩
      have HB1 := Lib.hid h1
      clear h1
      go_wp2_with fail
      go_ret
      exact ⟨rfl, HB1.out⟩
    · have HD1 := Lib.hid fun w => dig_nat (u / 10) (by omega) w
      have HD2 := Lib.hid fun w => dig_nat (u % 10) (by omega) w
      have hst := itoaS_step u h
      have l1 := itoaS_size (u / 10) (by omega)
      have l2 := itoaS_size (u % 10) (by omega)
      rw [hst]
      obtain ⟨a, ha⟩ : ∃ a, a = itoaS ((u / 10 : Nat) : Int) := ⟨_, rfl⟩
      obtain ⟨b, hb⟩ : ∃ b, b = itoaS ((u % 10 : Nat) : Int) := ⟨_, rfl⟩
      rw [← ha] at HD1 l1 ⊢
      rw [← hb] at HD2 l2 ⊢
      have l3 : ¬ 9223372036854775807 < 1 + a.size := by omega
      have l5 : ¬ 9223372036854775807 < 1 + a.size + b.size := by omega
      have E1 := Lib.hid (show (u : Int) / 10 = ((u / 10 : Nat) : Int) by omega)
      have E2 := Lib.hid (show (u : Int) % 10 = ((u % 10 : Nat) : Int) by omega)
      rw [show (⟨#[45]⟩ : ByteArray) ++ (a ++ b) = ⟨#[45]⟩ ++ a ++ b from (ByteArray.append_assoc).symm]
      clear hst ha hb l1 l2 h0 h1
      go_enter Tryd.func16, Tryd.ntmps16
      go_wp2_with fail
      rw [E1.out]
      refine (HD1.out _).mono ?_; rintro e w1 ⟨rfl, h1⟩
      have HB1 := Lib.hid h1
      clear h1
      go_wp2_with fail
      rw [E2.out]
      refine (HD2.out _).mono ?_; rintro e w2 ⟨rfl, h2⟩
      have HB2 := Lib.hid (HB1.out.trans (h2.mono HB1.out.size))
      clear h2
      go_wp2_with fail
      go_ret
      exact ⟨rfl, HB2.out⟩
  · obtain ⟨u, rfl⟩ : ∃ u : Nat, n = (u : Int) := ⟨n.toNat, by omega⟩
    exact dig_nat u (by omega) w
end Go.Proofs.YtebmafghekfllaaDoor
