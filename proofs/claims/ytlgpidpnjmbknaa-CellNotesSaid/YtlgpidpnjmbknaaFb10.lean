/- internal/strconv.formatBase10, into a row of octets of the call's own: what it leaves, as a plain function of its arguments, whether the room suffices or not. -/
import Derived.Test.YtlgpidpnjmbknaaRec
import Derived.Lib.ItoaWalk
import Derived.BigRegion
namespace Go.Proofs.Ytlgpidpnjmbknaa
open Go Go.RowKit
set_option linter.unusedVariables false
set_option maxRecDepth 20000

def u8v (x : UInt8) : Value := .int .u8 (x.toNat : Int)
/-- Two places are stored to: a pair of digits. -/
def put2 (L : List UInt8) (i k : Nat) : List UInt8 := (L.set (i + 1) (Lib.sm (k + 1))).set i (Lib.sm k)
def step8 (o : Nat) (L : List UInt8) (m u : Nat) : List UInt8 :=
  put2 (put2 (put2 (put2 L (o + (m + 6)) (u % 100 * 2)) (o + (m + 4)) (u % 10000 / 100 * 2)) (o + (m + 2)) (u % 100000000 / 10000 % 100 * 2)) (o + m) (u % 100000000 / 10000 / 100 * 2)
def last1 (L : List UInt8) (o x : Nat) : List UInt8 := L.set o (UInt8.ofNat (48 + x))
/-- The last ones, fewer than eight. -/
def tail10 (o : Nat) (L : List UInt8) (v : Nat) : Nat → List UInt8
  | 0 => L
  | 1 => last1 L o v
  | 2 => put2 L o (v % 100 * 2)
  | 3 => last1 (put2 L (o + 1) (v % 100 * 2)) o (v / 100)
  | 4 => put2 (put2 L (o + 2) (v % 100 * 2)) o (v % 10000 / 100 * 2)
  | 5 => last1 (put2 (put2 L (o + 3) (v % 100 * 2)) (o + 1) (v % 10000 / 100 * 2)) o (v / 10000)
  | 6 => put2 (put2 (put2 L (o + 4) (v % 100 * 2)) (o + 2) (v % 10000 / 100 * 2)) o (v / 10000 % 100 * 2)
  | 7 => last1 (put2 (put2 (put2 L (o + 5) (v % 100 * 2)) (o + 3) (v % 10000 / 100 * 2)) (o + 1) (v / 10000 % 100 * 2)) o (v / 10000 / 100)
  | _ => L
def loop8 (o : Nat) : Nat → List UInt8 → Nat → Nat → List UInt8 × Nat × Nat
  | 0, L, nd, u => (L, nd, u)
  | f + 1, L, nd, u => if 8 ≤ nd then loop8 o f (step8 o L (nd - 8) u) (nd - 8) (u / 100000000) else (L, nd, u)
theorem loop8_more (o : Nat) : ∀ (f nd : Nat) (L : List UInt8) (u : Nat), nd ≤ f → loop8 o f L nd u = loop8 o nd L nd u
  | 0, nd, L, u, h => by rw [show nd = 0 by omega]
  | f + 1, 0, L, u, h => by simp [loop8]
  | f + 1, nd + 1, L, u, h => by
    unfold loop8
    by_cases h8 : 8 ≤ nd + 1
    · rw [if_pos h8, if_pos h8, loop8_more o f (nd + 1 - 8) _ _ (by omega), loop8_more o nd (nd + 1 - 8) _ _ (by omega)]
    · rw [if_neg h8, if_neg h8]
theorem loop8_step (o m : Nat) (L : List UInt8) (u : Nat) : loop8 o (m + 8) L (m + 8) u = loop8 o m (step8 o L m u) m (u / 100000000) := by
  show (if 8 ≤ m + 8 then loop8 o (m + 7) (step8 o L (m + 8 - 8) u) (m + 8 - 8) (u / 100000000) else (L, m + 8, u)) = _
  rw [if_pos (by omega), Nat.add_sub_cancel, loop8_more o (m + 7) m _ _ (by omega)]
/-- All of it. -/
def fb10 (o : Nat) (L : List UInt8) (nd u : Nat) : List UInt8 := tail10 o (loop8 o nd L nd u).1 (loop8 o nd L nd u).2.2 (loop8 o nd L nd u).2.1
theorem loop8_end (o nd : Nat) (L : List UInt8) (u : Nat) (h : nd < 8) : loop8 o nd L nd u = (L, nd, u) := by
  rcases nd with _ | nd
  · rfl
  · show (if 8 ≤ nd + 1 then _ else _) = _
    rw [if_neg (by omega)]
/-- A row of octets in a block. -/
def RowAt (w : World) (b : Nat) (t : TypeId) (L : List UInt8) : Prop := w.heap[b]? = some (.cells (L.map u8v).toArray t (0, 0))
section
variable {w : World} {b : Nat} {t : TypeId} {L : List UInt8}
theorem RowAt.cell (h : RowAt w b t L) {i : Nat} (hi : i < L.length) : w.cell? ⟨b, i, none⟩ = some (u8v (L.getD i 0)) := by
  have := cell_of_row w b i _ _ (0, 0) h
  rw [this]
  simp [List.getD, List.getElem?_eq_getElem hi]
theorem RowAt.frozen (h : RowAt w b t L) (i : Nat) : w.frozen? ⟨b, i, none⟩ = false := by
  unfold RowAt at h
  simp [World.frozen?, h]
theorem RowAt.set (h : RowAt w b t L) (i : Nat) (x : UInt8) : RowAt (w.setCell ⟨b, i, none⟩ (u8v x)) b t (L.set i x) := by
  have := heap_setCell_same w b i _ _ (u8v x) h
  unfold RowAt
  rw [this]
  simp [List.map_set]
theorem RowAt.put2 (h : RowAt w b t L) (i k : Nat) : RowAt ((w.setCell ⟨b, i + 1, none⟩ (u8v (Lib.sm (k + 1)))).setCell ⟨b, i, none⟩ (u8v (Lib.sm k))) b t (put2 L i k) := (h.set (i + 1) _).set i _
theorem row_step {w0 : World} (hm : Moved (fun k => k = b) w0 w) (h : RowAt w b t L) (i k : Nat) : RowAt ((w.setCell ⟨b, i + 1, none⟩ (u8v (Lib.sm (k + 1)))).setCell ⟨b, i, none⟩ (u8v (Lib.sm k))).drew b t (_root_.Go.Proofs.Ytlgpidpnjmbknaa.put2 L i k) ∧ Moved (fun k => k = b) w0 ((w.setCell ⟨b, i + 1, none⟩ (u8v (Lib.sm (k + 1)))).setCell ⟨b, i, none⟩ (u8v (Lib.sm k))).drew :=
  ⟨h.put2 i k, ((hm.setCell (p := ⟨b, i + 1, none⟩) (.inl rfl) _).setCell (p := ⟨b, i, none⟩) (.inl rfl) _).drew⟩
theorem row_last {w0 : World} (hm : Moved (fun k => k = b) w0 w) (h : RowAt w b t L) (i x : Nat) (hx : x < 100) : RowAt (w.setCell ⟨b, i, none⟩ (.int .u8 (48 + (x : Int)))) b t (last1 L i x) ∧ Moved (fun k => k = b) w0 (w.setCell ⟨b, i, none⟩ (.int .u8 (48 + (x : Int)))) := by
  have e : Value.int .u8 (48 + (x : Int)) = u8v (UInt8.ofNat (48 + x)) := by
    unfold u8v
    congr 1
    have : (UInt8.ofNat (48 + x)).toNat = 48 + x := by
      rw [UInt8.toNat_ofNat']
      omega
    omega
  rw [e]
  exact ⟨h.set i _, hm.setCell (p := ⟨b, i, none⟩) (.inl rfl) _⟩
theorem last1_length (L : List UInt8) (i x : Nat) : (last1 L i x).length = L.length := by simp [last1]
theorem put2_length (L : List UInt8) (i k : Nat) : (put2 L i k).length = L.length := by simp [put2]
end
set_option maxHeartbeats 12800000 in
theorem fb10_any (b o nd0 u0 cap : Nat) (t : TypeId) (L0 : List UInt8) (w : World) (h : RowAt w b t L0) (ho : o + nd0 ≤ L0.length) (hn : nd0 ≤ 20) (hu : u0 < 10 ^ (nd0 + 1)) (hu64 : u0 < 18446744073709551616) :
    Calls Try.prog 39 #[.slice (some ⟨b, o, none⟩) nd0 cap, .int .u64 (u0 : Int)] w fun e w' => e = .returned (.tuple #[]) ∧ RowAt w' b t (fb10 o L0 nd0 u0) ∧ Moved (fun k => k = b) w w' := by
  have HH := Lib.hid h
  have HLN := Lib.hid ho
  have HU := Lib.hid hu
  clear h ho hu
  go_enter Try.func39, Try.ntmps39
  go_name_bytes SM hSM
  have eSM : SM = Lib.smalls := by rw [← hSM]; decide +kernel
  subst eSM
  clear hSM
  go_wp2
  go_loopw [1, 4] (fun vu vn wr => ∃ (nd v : Nat) (L : List UInt8), vu = .int .u64 (v : Int) ∧ vn = .int .i64 (nd : Int) ∧ nd ≤ nd0 ∧ v < 18446744073709551616 ∧ Hid (loop8 o nd0 L0 nd0 u0 = loop8 o nd L nd v ∧ RowAt wr b t L ∧ L.length = L0.length ∧ o + nd ≤ L0.length ∧ v < 10 ^ (nd + 1) ∧ Moved (fun k => k = b) w wr)) (fun _ vn _ => (intOf vn).toNat)
  case atStart => exact ⟨nd0, u0, L0, rfl, rfl, Nat.le_refl _, hu64, Lib.hid ⟨rfl, HH.out, rfl, HLN.out, HU.out, Moved.refl _ _⟩⟩
  case round =>
    obtain ⟨nd, v, L0', rfl, rfl, hnd, hv64, HO⟩ := hrel
    by_cases h8 : 8 ≤ nd
    · obtain ⟨m, rfl⟩ : ∃ m, nd = m + 8 := ⟨nd - 8, by omega⟩
      obtain ⟨e1, R0, hl0, hlo, hvp, hm0⟩ := HO.out
      have HE0x := Lib.hid e1
      have HLO := Lib.hid hlo
      have HVP := Lib.hid hvp
      have HL0 := Lib.hid hl0
      have HM0 := Lib.hid hm0
      have hc0 : ∀ i, i < m + 8 → wr.cell? ⟨b, o + i, none⟩ = some (.int .u8 ((L0'.getD (o + i) 0).toNat : Int)) := fun i hi => R0.cell (by omega)
      have hf0 : ∀ i, wr.frozen? ⟨b, o + i, none⟩ = false := fun i => R0.frozen _
      have HR0 := Lib.hid R0
      clear e1 R0 hl0 hlo hvp hm0 HO
      have hi1 : (m : Int) + 8 - 1 < (nd0 : Int) := by omega
      have hz1 : 0 ≤ (m : Int) + 8 - 1 := by omega
      have hi2 : (m : Int) + 8 - 2 < (nd0 : Int) := by omega
      have hz2 : 0 ≤ (m : Int) + 8 - 2 := by omega
      have hi3 : (m : Int) + 8 - 3 < (nd0 : Int) := by omega
      have hz3 : 0 ≤ (m : Int) + 8 - 3 := by omega
      have hi4 : (m : Int) + 8 - 4 < (nd0 : Int) := by omega
      have hz4 : 0 ≤ (m : Int) + 8 - 4 := by omega
      have hi5 : (m : Int) + 8 - 5 < (nd0 : Int) := by omega
      have hz5 : 0 ≤ (m : Int) + 8 - 5 := by omega
      have hi6 : (m : Int) + 8 - 6 < (nd0 : Int) := by omega
      have hz6 : 0 ≤ (m : Int) + 8 - 6 := by omega
      have hi7 : (m : Int) + 8 - 7 < (nd0 : Int) := by omega
      have hz7 : 0 ≤ (m : Int) + 8 - 7 := by omega
      have hi8 : (m : Int) + 8 - 8 < (nd0 : Int) := by omega
      have hz8 : 0 ≤ (m : Int) + 8 - 8 := by omega
      go_wp2
      go_name_slot 9 x0 hx0
      have hxn0 : x0 = ((v % 100 * 2 : Nat) : Int) := by omega
      have hXa0 : ∀ w, (Instr.index 9 (.string Lib.smalls) (.int .u32 (x0 + 1))).run Try.prog w = .ok (.int .u8 ((Lib.sm (v % 100 * 2 + 1)).toNat : Int)) w := Lib.idx_smalls _ Try.underlying9 .u32 _ _ (by omega) (by omega)
      have hXb0 : ∀ w, (Instr.index 9 (.string Lib.smalls) (.int .u32 x0)).run Try.prog w = .ok (.int .u8 ((Lib.sm (v % 100 * 2)).toNat : Int)) w := Lib.idx_smalls _ Try.underlying9 .u32 _ _ (by omega) (by omega)
      have hlo0 : 0 ≤ x0 := by omega
      have hhi0 : x0 ≤ 198 := by omega
      clear hx0 hxn0
      go_region
      go_wp2
      go_name_world W0 hW0
      have hs0 : RowAt W0 b t (put2 L0' (o + (m + 6)) (v % 100 * 2)) ∧ Moved (fun k => k = b) w W0 := by rw [← hW0]; exact row_step HM0.out HR0.out (o + (m + 6)) (v % 100 * 2)
      obtain ⟨L1, hL1⟩ : ∃ L', L' = put2 L0' (o + (m + 6)) (v % 100 * 2) := ⟨_, rfl⟩
      rw [← hL1] at hs0
      have hl1 : L1.length = L0.length := by rw [hL1, put2_length]; exact HL0.out
      have hc1 : ∀ i, i < m + 8 → W0.cell? ⟨b, o + i, none⟩ = some (.int .u8 ((L1.getD (o + i) 0).toNat : Int)) := fun i hi => hs0.1.cell (by have := HLO.out; omega)
      have hf1 : ∀ i, W0.frozen? ⟨b, o + i, none⟩ = false := fun i => hs0.1.frozen _
      have HR1 := Lib.hid hs0.1
      have HM1 := Lib.hid hs0.2
      have HL1 := Lib.hid hl1
      have HE1 := Lib.hid hL1
      clear hs0 hW0 hL1 hl1 hc0 hf0 hXa0 hXb0
      go_name_slot 8 x1 hx1
      have hxn1 : x1 = ((v % 10000 / 100 * 2 : Nat) : Int) := by omega
      have hXa1 : ∀ w, (Instr.index 9 (.string Lib.smalls) (.int .u32 (x1 + 1))).run Try.prog w = .ok (.int .u8 ((Lib.sm (v % 10000 / 100 * 2 + 1)).toNat : Int)) w := Lib.idx_smalls _ Try.underlying9 .u32 _ _ (by omega) (by omega)
      have hXb1 : ∀ w, (Instr.index 9 (.string Lib.smalls) (.int .u32 x1)).run Try.prog w = .ok (.int .u8 ((Lib.sm (v % 10000 / 100 * 2)).toNat : Int)) w := Lib.idx_smalls _ Try.underlying9 .u32 _ _ (by omega) (by omega)
      have hlo1 : 0 ≤ x1 := by omega
      have hhi1 : x1 ≤ 198 := by omega
      clear hx1 hxn1
      go_region
      go_wp2
      go_name_world W1 hW1
      have hs1 : RowAt W1 b t (put2 L1 (o + (m + 4)) (v % 10000 / 100 * 2)) ∧ Moved (fun k => k = b) w W1 := by rw [← hW1]; exact row_step HM1.out HR1.out (o + (m + 4)) (v % 10000 / 100 * 2)
      obtain ⟨L2, hL2⟩ : ∃ L', L' = put2 L1 (o + (m + 4)) (v % 10000 / 100 * 2) := ⟨_, rfl⟩
      rw [← hL2] at hs1
      have hl2 : L2.length = L0.length := by rw [hL2, put2_length]; exact HL1.out
      have hc2 : ∀ i, i < m + 8 → W1.cell? ⟨b, o + i, none⟩ = some (.int .u8 ((L2.getD (o + i) 0).toNat : Int)) := fun i hi => hs1.1.cell (by have := HLO.out; omega)
      have hf2 : ∀ i, W1.frozen? ⟨b, o + i, none⟩ = false := fun i => hs1.1.frozen _
      have HR2 := Lib.hid hs1.1
      have HM2 := Lib.hid hs1.2
      have HL2 := Lib.hid hl2
      have HE2 := Lib.hid hL2
      clear hs1 hW1 hL2 hl2 hc1 hf1 hXa1 hXb1
      go_name_slot 11 x2 hx2
      have hxn2 : x2 = ((v % 100000000 / 10000 % 100 * 2 : Nat) : Int) := by omega
      have hXa2 : ∀ w, (Instr.index 9 (.string Lib.smalls) (.int .u32 (x2 + 1))).run Try.prog w = .ok (.int .u8 ((Lib.sm (v % 100000000 / 10000 % 100 * 2 + 1)).toNat : Int)) w := Lib.idx_smalls _ Try.underlying9 .u32 _ _ (by omega) (by omega)
      have hXb2 : ∀ w, (Instr.index 9 (.string Lib.smalls) (.int .u32 x2)).run Try.prog w = .ok (.int .u8 ((Lib.sm (v % 100000000 / 10000 % 100 * 2)).toNat : Int)) w := Lib.idx_smalls _ Try.underlying9 .u32 _ _ (by omega) (by omega)
      have hlo2 : 0 ≤ x2 := by omega
      have hhi2 : x2 ≤ 198 := by omega
      clear hx2 hxn2
      go_region
      go_wp2
      go_name_world W2 hW2
      have hs2 : RowAt W2 b t (put2 L2 (o + (m + 2)) (v % 100000000 / 10000 % 100 * 2)) ∧ Moved (fun k => k = b) w W2 := by rw [← hW2]; exact row_step HM2.out HR2.out (o + (m + 2)) (v % 100000000 / 10000 % 100 * 2)
      obtain ⟨L3, hL3⟩ : ∃ L', L' = put2 L2 (o + (m + 2)) (v % 100000000 / 10000 % 100 * 2) := ⟨_, rfl⟩
      rw [← hL3] at hs2
      have hl3 : L3.length = L0.length := by rw [hL3, put2_length]; exact HL2.out
      have hc3 : ∀ i, i < m + 8 → W2.cell? ⟨b, o + i, none⟩ = some (.int .u8 ((L3.getD (o + i) 0).toNat : Int)) := fun i hi => hs2.1.cell (by have := HLO.out; omega)
      have hf3 : ∀ i, W2.frozen? ⟨b, o + i, none⟩ = false := fun i => hs2.1.frozen _
      have HR3 := Lib.hid hs2.1
      have HM3 := Lib.hid hs2.2
      have HL3 := Lib.hid hl3
      have HE3 := Lib.hid hL3
      clear hs2 hW2 hL3 hl3 hc2 hf2 hXa2 hXb2
      go_name_slot 10 x3 hx3
      have hxn3 : x3 = ((v % 100000000 / 10000 / 100 * 2 : Nat) : Int) := by omega
      have hXa3 : ∀ w, (Instr.index 9 (.string Lib.smalls) (.int .u32 (x3 + 1))).run Try.prog w = .ok (.int .u8 ((Lib.sm (v % 100000000 / 10000 / 100 * 2 + 1)).toNat : Int)) w := Lib.idx_smalls _ Try.underlying9 .u32 _ _ (by omega) (by omega)
      have hXb3 : ∀ w, (Instr.index 9 (.string Lib.smalls) (.int .u32 x3)).run Try.prog w = .ok (.int .u8 ((Lib.sm (v % 100000000 / 10000 / 100 * 2)).toNat : Int)) w := Lib.idx_smalls _ Try.underlying9 .u32 _ _ (by omega) (by omega)
      have hlo3 : 0 ≤ x3 := by omega
      have hhi3 : x3 ≤ 198 := by omega
      clear hx3 hxn3
      go_region
      go_wp2
      have HN : Hid (RowAt _ b t (put2 L3 (o + m) (v % 100000000 / 10000 / 100 * 2)) ∧ Moved (fun k => k = b) w _) := Lib.hid (row_step HM3.out HR3.out (o + m) (v % 100000000 / 10000 / 100 * 2))
      refine ⟨⟨m, v / 100000000, put2 L3 (o + m) (v % 100000000 / 10000 / 100 * 2), by first | rfl | go_num, by go_num, by omega, by omega, Lib.hid ⟨?_, HN.out.1, by rw [put2_length]; exact HL3.out, by have := HLO.out; omega, ?_, HN.out.2⟩⟩, by simp [intOf]; omega⟩
      · rw [HE0x.out, loop8_step]
        unfold step8
        rw [← HE1.out, ← HE2.out, ← HE3.out]
      · have := HVP.out
        rw [show m + 8 + 1 = 8 + (m + 1) by omega, Nat.pow_add] at this
        exact Nat.div_lt_of_lt_mul this
    · have hc8 : nd = 0 ∨ nd = 1 ∨ nd = 2 ∨ nd = 3 ∨ nd = 4 ∨ nd = 5 ∨ nd = 6 ∨ nd = 7 := by omega
      rcases hc8 with rfl | rfl | rfl | rfl | rfl | rfl | rfl | rfl
      · obtain ⟨e1, R0, hl0, hlo, hvp, hm0⟩ := HO.out
        have HE0x := Lib.hid e1
        have HLO := Lib.hid hlo
        have HVP := Lib.hid hvp
        have HL0 := Lib.hid hl0
        have HM0 := Lib.hid hm0
        have hc0 : ∀ i, i < 0 → wr.cell? ⟨b, o + i, none⟩ = some (.int .u8 ((L0'.getD (o + i) 0).toNat : Int)) := fun i hi => R0.cell (by omega)
        have hf0 : ∀ i, wr.frozen? ⟨b, o + i, none⟩ = false := fun i => R0.frozen _
        have HR0 := Lib.hid R0
        clear e1 R0 hl0 hlo hvp hm0 HO
        -- 0 places
        go_wp2
        go_end0
        exact ⟨rfl, by unfold fb10; rw [HE0x.out, loop8_end o 0 _ _ (by omega)]; exact HR0.out, HM0.out⟩
      · obtain ⟨e1, R0, hl0, hlo, hvp, hm0⟩ := HO.out
        have HE0x := Lib.hid e1
        have HLO := Lib.hid hlo
        have HVP := Lib.hid hvp
        have HL0 := Lib.hid hl0
        have HM0 := Lib.hid hm0
        have hc0 : ∀ i, i < 1 → wr.cell? ⟨b, o + i, none⟩ = some (.int .u8 ((L0'.getD (o + i) 0).toNat : Int)) := fun i hi => R0.cell (by omega)
        have hf0 : ∀ i, wr.frozen? ⟨b, o + i, none⟩ = false := fun i => R0.frozen _
        have HR0 := Lib.hid R0
        clear e1 R0 hl0 hlo hvp hm0 HO
        -- 1 places
        have hvb : v < 100000000 := Nat.lt_of_lt_of_le HVP.out (Nat.pow_le_pow_right (by omega) (by omega : 1 + 1 ≤ 8))
        have hvc : v < 100 := HVP.out
        have hq0 : (0 : Int) < (nd0 : Int) := by omega
        have cz := hc0 0 (by omega)
        have fz := hf0 0
        simp only [Nat.add_zero] at cz fz
        go_wp2
        go_wp2
        go_end0
        refine ⟨rfl, ?_⟩
        have e : fb10 o L0 nd0 u0 = last1 L0' o (v) := by
          unfold fb10
          rw [HE0x.out, loop8_end o 1 _ _ (by omega)]
          rfl
        rw [e]
        exact row_last HM0.out HR0.out o (v) (by omega)
      · obtain ⟨e1, R0, hl0, hlo, hvp, hm0⟩ := HO.out
        have HE0x := Lib.hid e1
        have HLO := Lib.hid hlo
        have HVP := Lib.hid hvp
        have HL0 := Lib.hid hl0
        have HM0 := Lib.hid hm0
        have hc0 : ∀ i, i < 2 → wr.cell? ⟨b, o + i, none⟩ = some (.int .u8 ((L0'.getD (o + i) 0).toNat : Int)) := fun i hi => R0.cell (by omega)
        have hf0 : ∀ i, wr.frozen? ⟨b, o + i, none⟩ = false := fun i => R0.frozen _
        have HR0 := Lib.hid R0
        clear e1 R0 hl0 hlo hvp hm0 HO
        -- 2 places
        have hvb : v < 100000000 := Nat.lt_of_lt_of_le HVP.out (Nat.pow_le_pow_right (by omega) (by omega : 2 + 1 ≤ 8))
        have hq0 : (0 : Int) < (nd0 : Int) := by omega
        have hq1 : (1 : Int) < (nd0 : Int) := by omega
        have cz := hc0 0 (by omega)
        have fz := hf0 0
        simp only [Nat.add_zero] at cz fz
        go_wp2
        go_name_slot 16 x0 hx0
        have hxn0 : x0 = ((v % 100 * 2 : Nat) : Int) := by omega
        have hXa0 : ∀ w, (Instr.index 9 (.string Lib.smalls) (.int .u32 (x0 + 1))).run Try.prog w = .ok (.int .u8 ((Lib.sm (v % 100 * 2 + 1)).toNat : Int)) w := Lib.idx_smalls _ Try.underlying9 .u32 _ _ (by omega) (by omega)
        have hXb0 : ∀ w, (Instr.index 9 (.string Lib.smalls) (.int .u32 x0)).run Try.prog w = .ok (.int .u8 ((Lib.sm (v % 100 * 2)).toNat : Int)) w := Lib.idx_smalls _ Try.underlying9 .u32 _ _ (by omega) (by omega)
        have hlo0 : 0 ≤ x0 := by omega
        have hhi0 : x0 ≤ 198 := by omega
        clear hx0 hxn0
        go_region
        go_wp2
        go_end0
        refine ⟨rfl, ?_⟩
        have e : fb10 o L0 nd0 u0 = put2 L0' (o + 0) (v % 100 * 2) := by
          unfold fb10
          rw [HE0x.out, loop8_end o 2 _ _ (by omega)]
          rfl
        rw [e]
        exact row_step HM0.out HR0.out (o + 0) (v % 100 * 2)
      · obtain ⟨e1, R0, hl0, hlo, hvp, hm0⟩ := HO.out
        have HE0x := Lib.hid e1
        have HLO := Lib.hid hlo
        have HVP := Lib.hid hvp
        have HL0 := Lib.hid hl0
        have HM0 := Lib.hid hm0
        have hc0 : ∀ i, i < 3 → wr.cell? ⟨b, o + i, none⟩ = some (.int .u8 ((L0'.getD (o + i) 0).toNat : Int)) := fun i hi => R0.cell (by omega)
        have hf0 : ∀ i, wr.frozen? ⟨b, o + i, none⟩ = false := fun i => R0.frozen _
        have HR0 := Lib.hid R0
        clear e1 R0 hl0 hlo hvp hm0 HO
        -- 3 places
        have hvb : v < 100000000 := Nat.lt_of_lt_of_le HVP.out (Nat.pow_le_pow_right (by omega) (by omega : 3 + 1 ≤ 8))
        have hvc : v < 10000 := HVP.out
        have hq0 : (0 : Int) < (nd0 : Int) := by omega
        have hq1 : (1 : Int) < (nd0 : Int) := by omega
        have hq2 : (2 : Int) < (nd0 : Int) := by omega
        have cz := hc0 0 (by omega)
        have fz := hf0 0
        simp only [Nat.add_zero] at cz fz
        go_wp2
        go_name_slot 16 x0 hx0
        have hxn0 : x0 = ((v % 100 * 2 : Nat) : Int) := by omega
        have hXa0 : ∀ w, (Instr.index 9 (.string Lib.smalls) (.int .u32 (x0 + 1))).run Try.prog w = .ok (.int .u8 ((Lib.sm (v % 100 * 2 + 1)).toNat : Int)) w := Lib.idx_smalls _ Try.underlying9 .u32 _ _ (by omega) (by omega)
        have hXb0 : ∀ w, (Instr.index 9 (.string Lib.smalls) (.int .u32 x0)).run Try.prog w = .ok (.int .u8 ((Lib.sm (v % 100 * 2)).toNat : Int)) w := Lib.idx_smalls _ Try.underlying9 .u32 _ _ (by omega) (by omega)
        have hlo0 : 0 ≤ x0 := by omega
        have hhi0 : x0 ≤ 198 := by omega
        clear hx0 hxn0
        go_region
        go_wp2
        go_end0
        refine ⟨rfl, ?_⟩
        have e : fb10 o L0 nd0 u0 = last1 (put2 L0' (o + 1) (v % 100 * 2)) o (v / 100) := by
          unfold fb10
          rw [HE0x.out, loop8_end o 3 _ _ (by omega)]
          rfl
        rw [e]
        have hz := row_step HM0.out HR0.out (o + 1) (v % 100 * 2)
        exact row_last hz.2 hz.1 o (v / 100) (by omega)
      · obtain ⟨e1, R0, hl0, hlo, hvp, hm0⟩ := HO.out
        have HE0x := Lib.hid e1
        have HLO := Lib.hid hlo
        have HVP := Lib.hid hvp
        have HL0 := Lib.hid hl0
        have HM0 := Lib.hid hm0
        have hc0 : ∀ i, i < 4 → wr.cell? ⟨b, o + i, none⟩ = some (.int .u8 ((L0'.getD (o + i) 0).toNat : Int)) := fun i hi => R0.cell (by omega)
        have hf0 : ∀ i, wr.frozen? ⟨b, o + i, none⟩ = false := fun i => R0.frozen _
        have HR0 := Lib.hid R0
        clear e1 R0 hl0 hlo hvp hm0 HO
        -- 4 places
        have hvb : v < 100000000 := Nat.lt_of_lt_of_le HVP.out (Nat.pow_le_pow_right (by omega) (by omega : 4 + 1 ≤ 8))
        have hq0 : (0 : Int) < (nd0 : Int) := by omega
        have hq1 : (1 : Int) < (nd0 : Int) := by omega
        have hq2 : (2 : Int) < (nd0 : Int) := by omega
        have hq3 : (3 : Int) < (nd0 : Int) := by omega
        have cz := hc0 0 (by omega)
        have fz := hf0 0
        simp only [Nat.add_zero] at cz fz
        go_wp2
        go_name_slot 15 x0 hx0
        have hxn0 : x0 = ((v % 100 * 2 : Nat) : Int) := by omega
        have hXa0 : ∀ w, (Instr.index 9 (.string Lib.smalls) (.int .u32 (x0 + 1))).run Try.prog w = .ok (.int .u8 ((Lib.sm (v % 100 * 2 + 1)).toNat : Int)) w := Lib.idx_smalls _ Try.underlying9 .u32 _ _ (by omega) (by omega)
        have hXb0 : ∀ w, (Instr.index 9 (.string Lib.smalls) (.int .u32 x0)).run Try.prog w = .ok (.int .u8 ((Lib.sm (v % 100 * 2)).toNat : Int)) w := Lib.idx_smalls _ Try.underlying9 .u32 _ _ (by omega) (by omega)
        have hlo0 : 0 ≤ x0 := by omega
        have hhi0 : x0 ≤ 198 := by omega
        clear hx0 hxn0
        go_region
        go_wp2
        go_name_world W0 hW0
        have hs0 : RowAt W0 b t (put2 L0' (o + (2)) (v % 100 * 2)) ∧ Moved (fun k => k = b) w W0 := by rw [← hW0]; exact row_step HM0.out HR0.out (o + (2)) (v % 100 * 2)
        obtain ⟨L1, hL1⟩ : ∃ L', L' = put2 L0' (o + (2)) (v % 100 * 2) := ⟨_, rfl⟩
        rw [← hL1] at hs0
        have hl1 : L1.length = L0.length := by rw [hL1, put2_length]; exact HL0.out
        have hc1 : ∀ i, i < 4 → W0.cell? ⟨b, o + i, none⟩ = some (.int .u8 ((L1.getD (o + i) 0).toNat : Int)) := fun i hi => hs0.1.cell (by have := HLO.out; omega)
        have hf1 : ∀ i, W0.frozen? ⟨b, o + i, none⟩ = false := fun i => hs0.1.frozen _
        have HR1 := Lib.hid hs0.1
        have HM1 := Lib.hid hs0.2
        have HL1 := Lib.hid hl1
        have HE1 := Lib.hid hL1
        clear hs0 hW0 hL1 hl1 hc0 hf0 hXa0 hXb0
        have cz0 := hc1 0 (by omega)
        have fz0 := hf1 0
        simp only [Nat.add_zero] at cz0 fz0
        go_name_slot 14 x1 hx1
        have hxn1 : x1 = ((v % 10000 / 100 * 2 : Nat) : Int) := by omega
        have hXa1 : ∀ w, (Instr.index 9 (.string Lib.smalls) (.int .u32 (x1 + 1))).run Try.prog w = .ok (.int .u8 ((Lib.sm (v % 10000 / 100 * 2 + 1)).toNat : Int)) w := Lib.idx_smalls _ Try.underlying9 .u32 _ _ (by omega) (by omega)
        have hXb1 : ∀ w, (Instr.index 9 (.string Lib.smalls) (.int .u32 x1)).run Try.prog w = .ok (.int .u8 ((Lib.sm (v % 10000 / 100 * 2)).toNat : Int)) w := Lib.idx_smalls _ Try.underlying9 .u32 _ _ (by omega) (by omega)
        have hlo1 : 0 ≤ x1 := by omega
        have hhi1 : x1 ≤ 198 := by omega
        clear hx1 hxn1
        go_region
        go_wp2
        go_end0
        refine ⟨rfl, ?_⟩
        have e : fb10 o L0 nd0 u0 = put2 L1 (o + 0) (v % 10000 / 100 * 2) := by
          unfold fb10
          rw [HE0x.out, loop8_end o 4 _ _ (by omega)]
          rw [HE1.out]
          rfl
        rw [e]
        exact row_step HM1.out HR1.out (o + 0) (v % 10000 / 100 * 2)
      · obtain ⟨e1, R0, hl0, hlo, hvp, hm0⟩ := HO.out
        have HE0x := Lib.hid e1
        have HLO := Lib.hid hlo
        have HVP := Lib.hid hvp
        have HL0 := Lib.hid hl0
        have HM0 := Lib.hid hm0
        have hc0 : ∀ i, i < 5 → wr.cell? ⟨b, o + i, none⟩ = some (.int .u8 ((L0'.getD (o + i) 0).toNat : Int)) := fun i hi => R0.cell (by omega)
        have hf0 : ∀ i, wr.frozen? ⟨b, o + i, none⟩ = false := fun i => R0.frozen _
        have HR0 := Lib.hid R0
        clear e1 R0 hl0 hlo hvp hm0 HO
        -- 5 places
        have hvb : v < 100000000 := Nat.lt_of_lt_of_le HVP.out (Nat.pow_le_pow_right (by omega) (by omega : 5 + 1 ≤ 8))
        have hvc : v < 1000000 := HVP.out
        have hq0 : (0 : Int) < (nd0 : Int) := by omega
        have hq1 : (1 : Int) < (nd0 : Int) := by omega
        have hq2 : (2 : Int) < (nd0 : Int) := by omega
        have hq3 : (3 : Int) < (nd0 : Int) := by omega
        have hq4 : (4 : Int) < (nd0 : Int) := by omega
        have cz := hc0 0 (by omega)
        have fz := hf0 0
        simp only [Nat.add_zero] at cz fz
        go_wp2
        go_name_slot 15 x0 hx0
        have hxn0 : x0 = ((v % 100 * 2 : Nat) : Int) := by omega
        have hXa0 : ∀ w, (Instr.index 9 (.string Lib.smalls) (.int .u32 (x0 + 1))).run Try.prog w = .ok (.int .u8 ((Lib.sm (v % 100 * 2 + 1)).toNat : Int)) w := Lib.idx_smalls _ Try.underlying9 .u32 _ _ (by omega) (by omega)
        have hXb0 : ∀ w, (Instr.index 9 (.string Lib.smalls) (.int .u32 x0)).run Try.prog w = .ok (.int .u8 ((Lib.sm (v % 100 * 2)).toNat : Int)) w := Lib.idx_smalls _ Try.underlying9 .u32 _ _ (by omega) (by omega)
        have hlo0 : 0 ≤ x0 := by omega
        have hhi0 : x0 ≤ 198 := by omega
        clear hx0 hxn0
        go_region
        go_wp2
        go_name_world W0 hW0
        have hs0 : RowAt W0 b t (put2 L0' (o + (3)) (v % 100 * 2)) ∧ Moved (fun k => k = b) w W0 := by rw [← hW0]; exact row_step HM0.out HR0.out (o + (3)) (v % 100 * 2)
        obtain ⟨L1, hL1⟩ : ∃ L', L' = put2 L0' (o + (3)) (v % 100 * 2) := ⟨_, rfl⟩
        rw [← hL1] at hs0
        have hl1 : L1.length = L0.length := by rw [hL1, put2_length]; exact HL0.out
        have hc1 : ∀ i, i < 5 → W0.cell? ⟨b, o + i, none⟩ = some (.int .u8 ((L1.getD (o + i) 0).toNat : Int)) := fun i hi => hs0.1.cell (by have := HLO.out; omega)
        have hf1 : ∀ i, W0.frozen? ⟨b, o + i, none⟩ = false := fun i => hs0.1.frozen _
        have HR1 := Lib.hid hs0.1
        have HM1 := Lib.hid hs0.2
        have HL1 := Lib.hid hl1
        have HE1 := Lib.hid hL1
        clear hs0 hW0 hL1 hl1 hc0 hf0 hXa0 hXb0
        have cz0 := hc1 0 (by omega)
        have fz0 := hf1 0
        simp only [Nat.add_zero] at cz0 fz0
        go_name_slot 14 x1 hx1
        have hxn1 : x1 = ((v % 10000 / 100 * 2 : Nat) : Int) := by omega
        have hXa1 : ∀ w, (Instr.index 9 (.string Lib.smalls) (.int .u32 (x1 + 1))).run Try.prog w = .ok (.int .u8 ((Lib.sm (v % 10000 / 100 * 2 + 1)).toNat : Int)) w := Lib.idx_smalls _ Try.underlying9 .u32 _ _ (by omega) (by omega)
        have hXb1 : ∀ w, (Instr.index 9 (.string Lib.smalls) (.int .u32 x1)).run Try.prog w = .ok (.int .u8 ((Lib.sm (v % 10000 / 100 * 2)).toNat : Int)) w := Lib.idx_smalls _ Try.underlying9 .u32 _ _ (by omega) (by omega)
        have hlo1 : 0 ≤ x1 := by omega
        have hhi1 : x1 ≤ 198 := by omega
        clear hx1 hxn1
        go_region
        go_wp2
        go_end0
        refine ⟨rfl, ?_⟩
        have e : fb10 o L0 nd0 u0 = last1 (put2 L1 (o + 1) (v % 10000 / 100 * 2)) o (v / 10000) := by
          unfold fb10
          rw [HE0x.out, loop8_end o 5 _ _ (by omega)]
          rw [HE1.out]
          rfl
        rw [e]
        have hz := row_step HM1.out HR1.out (o + 1) (v % 10000 / 100 * 2)
        exact row_last hz.2 hz.1 o (v / 10000) (by omega)
      · obtain ⟨e1, R0, hl0, hlo, hvp, hm0⟩ := HO.out
        have HE0x := Lib.hid e1
        have HLO := Lib.hid hlo
        have HVP := Lib.hid hvp
        have HL0 := Lib.hid hl0
        have HM0 := Lib.hid hm0
        have hc0 : ∀ i, i < 6 → wr.cell? ⟨b, o + i, none⟩ = some (.int .u8 ((L0'.getD (o + i) 0).toNat : Int)) := fun i hi => R0.cell (by omega)
        have hf0 : ∀ i, wr.frozen? ⟨b, o + i, none⟩ = false := fun i => R0.frozen _
        have HR0 := Lib.hid R0
        clear e1 R0 hl0 hlo hvp hm0 HO
        -- 6 places
        have hvb : v < 100000000 := Nat.lt_of_lt_of_le HVP.out (Nat.pow_le_pow_right (by omega) (by omega : 6 + 1 ≤ 8))
        have hq0 : (0 : Int) < (nd0 : Int) := by omega
        have hq1 : (1 : Int) < (nd0 : Int) := by omega
        have hq2 : (2 : Int) < (nd0 : Int) := by omega
        have hq3 : (3 : Int) < (nd0 : Int) := by omega
        have hq4 : (4 : Int) < (nd0 : Int) := by omega
        have hq5 : (5 : Int) < (nd0 : Int) := by omega
        have cz := hc0 0 (by omega)
        have fz := hf0 0
        simp only [Nat.add_zero] at cz fz
        go_wp2
        go_name_slot 15 x0 hx0
        have hxn0 : x0 = ((v % 100 * 2 : Nat) : Int) := by omega
        have hXa0 : ∀ w, (Instr.index 9 (.string Lib.smalls) (.int .u32 (x0 + 1))).run Try.prog w = .ok (.int .u8 ((Lib.sm (v % 100 * 2 + 1)).toNat : Int)) w := Lib.idx_smalls _ Try.underlying9 .u32 _ _ (by omega) (by omega)
        have hXb0 : ∀ w, (Instr.index 9 (.string Lib.smalls) (.int .u32 x0)).run Try.prog w = .ok (.int .u8 ((Lib.sm (v % 100 * 2)).toNat : Int)) w := Lib.idx_smalls _ Try.underlying9 .u32 _ _ (by omega) (by omega)
        have hlo0 : 0 ≤ x0 := by omega
        have hhi0 : x0 ≤ 198 := by omega
        clear hx0 hxn0
        go_region
        go_wp2
        go_name_world W0 hW0
        have hs0 : RowAt W0 b t (put2 L0' (o + (4)) (v % 100 * 2)) ∧ Moved (fun k => k = b) w W0 := by rw [← hW0]; exact row_step HM0.out HR0.out (o + (4)) (v % 100 * 2)
        obtain ⟨L1, hL1⟩ : ∃ L', L' = put2 L0' (o + (4)) (v % 100 * 2) := ⟨_, rfl⟩
        rw [← hL1] at hs0
        have hl1 : L1.length = L0.length := by rw [hL1, put2_length]; exact HL0.out
        have hc1 : ∀ i, i < 6 → W0.cell? ⟨b, o + i, none⟩ = some (.int .u8 ((L1.getD (o + i) 0).toNat : Int)) := fun i hi => hs0.1.cell (by have := HLO.out; omega)
        have hf1 : ∀ i, W0.frozen? ⟨b, o + i, none⟩ = false := fun i => hs0.1.frozen _
        have HR1 := Lib.hid hs0.1
        have HM1 := Lib.hid hs0.2
        have HL1 := Lib.hid hl1
        have HE1 := Lib.hid hL1
        clear hs0 hW0 hL1 hl1 hc0 hf0 hXa0 hXb0
        have cz0 := hc1 0 (by omega)
        have fz0 := hf1 0
        simp only [Nat.add_zero] at cz0 fz0
        go_name_slot 14 x1 hx1
        have hxn1 : x1 = ((v % 10000 / 100 * 2 : Nat) : Int) := by omega
        have hXa1 : ∀ w, (Instr.index 9 (.string Lib.smalls) (.int .u32 (x1 + 1))).run Try.prog w = .ok (.int .u8 ((Lib.sm (v % 10000 / 100 * 2 + 1)).toNat : Int)) w := Lib.idx_smalls _ Try.underlying9 .u32 _ _ (by omega) (by omega)
        have hXb1 : ∀ w, (Instr.index 9 (.string Lib.smalls) (.int .u32 x1)).run Try.prog w = .ok (.int .u8 ((Lib.sm (v % 10000 / 100 * 2)).toNat : Int)) w := Lib.idx_smalls _ Try.underlying9 .u32 _ _ (by omega) (by omega)
        have hlo1 : 0 ≤ x1 := by omega
        have hhi1 : x1 ≤ 198 := by omega
        clear hx1 hxn1
        go_region
        go_wp2
        go_name_world W1 hW1
        have hs1 : RowAt W1 b t (put2 L1 (o + (2)) (v % 10000 / 100 * 2)) ∧ Moved (fun k => k = b) w W1 := by rw [← hW1]; exact row_step HM1.out HR1.out (o + (2)) (v % 10000 / 100 * 2)
        obtain ⟨L2, hL2⟩ : ∃ L', L' = put2 L1 (o + (2)) (v % 10000 / 100 * 2) := ⟨_, rfl⟩
        rw [← hL2] at hs1
        have hl2 : L2.length = L0.length := by rw [hL2, put2_length]; exact HL1.out
        have hc2 : ∀ i, i < 6 → W1.cell? ⟨b, o + i, none⟩ = some (.int .u8 ((L2.getD (o + i) 0).toNat : Int)) := fun i hi => hs1.1.cell (by have := HLO.out; omega)
        have hf2 : ∀ i, W1.frozen? ⟨b, o + i, none⟩ = false := fun i => hs1.1.frozen _
        have HR2 := Lib.hid hs1.1
        have HM2 := Lib.hid hs1.2
        have HL2 := Lib.hid hl2
        have HE2 := Lib.hid hL2
        clear hs1 hW1 hL2 hl2 hc1 hf1 hXa1 hXb1
        have cz1 := hc2 0 (by omega)
        have fz1 := hf2 0
        simp only [Nat.add_zero] at cz1 fz1
        go_name_slot 16 x2 hx2
        have hxn2 : x2 = ((v / 10000 % 100 * 2 : Nat) : Int) := by omega
        have hXa2 : ∀ w, (Instr.index 9 (.string Lib.smalls) (.int .u32 (x2 + 1))).run Try.prog w = .ok (.int .u8 ((Lib.sm (v / 10000 % 100 * 2 + 1)).toNat : Int)) w := Lib.idx_smalls _ Try.underlying9 .u32 _ _ (by omega) (by omega)
        have hXb2 : ∀ w, (Instr.index 9 (.string Lib.smalls) (.int .u32 x2)).run Try.prog w = .ok (.int .u8 ((Lib.sm (v / 10000 % 100 * 2)).toNat : Int)) w := Lib.idx_smalls _ Try.underlying9 .u32 _ _ (by omega) (by omega)
        have hlo2 : 0 ≤ x2 := by omega
        have hhi2 : x2 ≤ 198 := by omega
        clear hx2 hxn2
        go_region
        go_wp2
        go_end0
        refine ⟨rfl, ?_⟩
        have e : fb10 o L0 nd0 u0 = put2 L2 (o + 0) (v / 10000 % 100 * 2) := by
          unfold fb10
          rw [HE0x.out, loop8_end o 6 _ _ (by omega)]
          rw [HE2.out, HE1.out]
          rfl
        rw [e]
        exact row_step HM2.out HR2.out (o + 0) (v / 10000 % 100 * 2)
      · obtain ⟨e1, R0, hl0, hlo, hvp, hm0⟩ := HO.out
        have HE0x := Lib.hid e1
        have HLO := Lib.hid hlo
        have HVP := Lib.hid hvp
        have HL0 := Lib.hid hl0
        have HM0 := Lib.hid hm0
        have hc0 : ∀ i, i < 7 → wr.cell? ⟨b, o + i, none⟩ = some (.int .u8 ((L0'.getD (o + i) 0).toNat : Int)) := fun i hi => R0.cell (by omega)
        have hf0 : ∀ i, wr.frozen? ⟨b, o + i, none⟩ = false := fun i => R0.frozen _
        have HR0 := Lib.hid R0
        clear e1 R0 hl0 hlo hvp hm0 HO
        -- 7 places
        have hvb : v < 100000000 := Nat.lt_of_lt_of_le HVP.out (Nat.pow_le_pow_right (by omega) (by omega : 7 + 1 ≤ 8))
        have hvc : v < 100000000 := HVP.out
        have hq0 : (0 : Int) < (nd0 : Int) := by omega
        have hq1 : (1 : Int) < (nd0 : Int) := by omega
        have hq2 : (2 : Int) < (nd0 : Int) := by omega
        have hq3 : (3 : Int) < (nd0 : Int) := by omega
        have hq4 : (4 : Int) < (nd0 : Int) := by omega
        have hq5 : (5 : Int) < (nd0 : Int) := by omega
        have hq6 : (6 : Int) < (nd0 : Int) := by omega
        have cz := hc0 0 (by omega)
        have fz := hf0 0
        simp only [Nat.add_zero] at cz fz
        go_wp2
        go_name_slot 15 x0 hx0
        have hxn0 : x0 = ((v % 100 * 2 : Nat) : Int) := by omega
        have hXa0 : ∀ w, (Instr.index 9 (.string Lib.smalls) (.int .u32 (x0 + 1))).run Try.prog w = .ok (.int .u8 ((Lib.sm (v % 100 * 2 + 1)).toNat : Int)) w := Lib.idx_smalls _ Try.underlying9 .u32 _ _ (by omega) (by omega)
        have hXb0 : ∀ w, (Instr.index 9 (.string Lib.smalls) (.int .u32 x0)).run Try.prog w = .ok (.int .u8 ((Lib.sm (v % 100 * 2)).toNat : Int)) w := Lib.idx_smalls _ Try.underlying9 .u32 _ _ (by omega) (by omega)
        have hlo0 : 0 ≤ x0 := by omega
        have hhi0 : x0 ≤ 198 := by omega
        clear hx0 hxn0
        go_region
        go_wp2
        go_name_world W0 hW0
        have hs0 : RowAt W0 b t (put2 L0' (o + (5)) (v % 100 * 2)) ∧ Moved (fun k => k = b) w W0 := by rw [← hW0]; exact row_step HM0.out HR0.out (o + (5)) (v % 100 * 2)
        obtain ⟨L1, hL1⟩ : ∃ L', L' = put2 L0' (o + (5)) (v % 100 * 2) := ⟨_, rfl⟩
        rw [← hL1] at hs0
        have hl1 : L1.length = L0.length := by rw [hL1, put2_length]; exact HL0.out
        have hc1 : ∀ i, i < 7 → W0.cell? ⟨b, o + i, none⟩ = some (.int .u8 ((L1.getD (o + i) 0).toNat : Int)) := fun i hi => hs0.1.cell (by have := HLO.out; omega)
        have hf1 : ∀ i, W0.frozen? ⟨b, o + i, none⟩ = false := fun i => hs0.1.frozen _
        have HR1 := Lib.hid hs0.1
        have HM1 := Lib.hid hs0.2
        have HL1 := Lib.hid hl1
        have HE1 := Lib.hid hL1
        clear hs0 hW0 hL1 hl1 hc0 hf0 hXa0 hXb0
        have cz0 := hc1 0 (by omega)
        have fz0 := hf1 0
        simp only [Nat.add_zero] at cz0 fz0
        go_name_slot 14 x1 hx1
        have hxn1 : x1 = ((v % 10000 / 100 * 2 : Nat) : Int) := by omega
        have hXa1 : ∀ w, (Instr.index 9 (.string Lib.smalls) (.int .u32 (x1 + 1))).run Try.prog w = .ok (.int .u8 ((Lib.sm (v % 10000 / 100 * 2 + 1)).toNat : Int)) w := Lib.idx_smalls _ Try.underlying9 .u32 _ _ (by omega) (by omega)
        have hXb1 : ∀ w, (Instr.index 9 (.string Lib.smalls) (.int .u32 x1)).run Try.prog w = .ok (.int .u8 ((Lib.sm (v % 10000 / 100 * 2)).toNat : Int)) w := Lib.idx_smalls _ Try.underlying9 .u32 _ _ (by omega) (by omega)
        have hlo1 : 0 ≤ x1 := by omega
        have hhi1 : x1 ≤ 198 := by omega
        clear hx1 hxn1
        go_region
        go_wp2
        go_name_world W1 hW1
        have hs1 : RowAt W1 b t (put2 L1 (o + (3)) (v % 10000 / 100 * 2)) ∧ Moved (fun k => k = b) w W1 := by rw [← hW1]; exact row_step HM1.out HR1.out (o + (3)) (v % 10000 / 100 * 2)
        obtain ⟨L2, hL2⟩ : ∃ L', L' = put2 L1 (o + (3)) (v % 10000 / 100 * 2) := ⟨_, rfl⟩
        rw [← hL2] at hs1
        have hl2 : L2.length = L0.length := by rw [hL2, put2_length]; exact HL1.out
        have hc2 : ∀ i, i < 7 → W1.cell? ⟨b, o + i, none⟩ = some (.int .u8 ((L2.getD (o + i) 0).toNat : Int)) := fun i hi => hs1.1.cell (by have := HLO.out; omega)
        have hf2 : ∀ i, W1.frozen? ⟨b, o + i, none⟩ = false := fun i => hs1.1.frozen _
        have HR2 := Lib.hid hs1.1
        have HM2 := Lib.hid hs1.2
        have HL2 := Lib.hid hl2
        have HE2 := Lib.hid hL2
        clear hs1 hW1 hL2 hl2 hc1 hf1 hXa1 hXb1
        have cz1 := hc2 0 (by omega)
        have fz1 := hf2 0
        simp only [Nat.add_zero] at cz1 fz1
        go_name_slot 16 x2 hx2
        have hxn2 : x2 = ((v / 10000 % 100 * 2 : Nat) : Int) := by omega
        have hXa2 : ∀ w, (Instr.index 9 (.string Lib.smalls) (.int .u32 (x2 + 1))).run Try.prog w = .ok (.int .u8 ((Lib.sm (v / 10000 % 100 * 2 + 1)).toNat : Int)) w := Lib.idx_smalls _ Try.underlying9 .u32 _ _ (by omega) (by omega)
        have hXb2 : ∀ w, (Instr.index 9 (.string Lib.smalls) (.int .u32 x2)).run Try.prog w = .ok (.int .u8 ((Lib.sm (v / 10000 % 100 * 2)).toNat : Int)) w := Lib.idx_smalls _ Try.underlying9 .u32 _ _ (by omega) (by omega)
        have hlo2 : 0 ≤ x2 := by omega
        have hhi2 : x2 ≤ 198 := by omega
        clear hx2 hxn2
        go_region
        go_wp2
        go_end0
        refine ⟨rfl, ?_⟩
        have e : fb10 o L0 nd0 u0 = last1 (put2 L2 (o + 1) (v / 10000 % 100 * 2)) o (v / 10000 / 100) := by
          unfold fb10
          rw [HE0x.out, loop8_end o 7 _ _ (by omega)]
          rw [HE2.out, HE1.out]
          rfl
        rw [e]
        have hz := row_step HM2.out HR2.out (o + 1) (v / 10000 % 100 * 2)
        exact row_last hz.2 hz.1 o (v / 10000 / 100) (by omega)
end Go.Proofs.Ytlgpidpnjmbknaa
