/- Contracts of math/bits that the library proves over any program, laid at this one. -/
import Derived.Test.YtjpabeeokgfloaaDoorM01
import Derived.Test.YtjpabeeokgfloaaDoorM02
import Derived.Shelf.Small.Bits
import Derived.Test.YtjpabeeokgfloaaDoorProg
import Derived.Deep.QuietTactic
import Derived.BigQuiet
import Derived.Laws.BitsAllLaws
namespace Go.Proofs
open Go.Shelf
def Tryd.lays126_ren : Go.Shelf.Ren := ⟨fun | 126 => 55 | n => n, fun | 5 => 5 | 3 => 3 | 9 => 9 | n => n, fun | n => n⟩
theorem Tryd.lays126 : Go.Proofs.Lays.n126 Tryd.prog Tryd.lays126_ren := {
  mixed := by kernel_rfl
  f126 := Tryd.func55.trans (congrArg some (by kernel_rfl))
  t3 := Tryd.underlying3
  a3 := Tryd.isAgg3
  z3 := Tryd.sizeOf3
  v3 := Tryd.zeroValue3
  t5 := Tryd.underlying5
  a5 := Tryd.isAgg5
  z5 := Tryd.sizeOf5
  v5 := Tryd.zeroValue5
  t9 := Tryd.underlying9
  a9 := Tryd.isAgg9
  z9 := Tryd.sizeOf9
  v9 := Tryd.zeroValue9 }
/-- How many bits. -/
theorem Tryd.bits_Len8 (x : Int) (w : World) (h0 : 0 ≤ x) (h1 : x ≤ 255) :
    Calls Tryd.prog 55 #[.int .u8 x] w fun e w' => e = .returned (.int .i64 (Lib.bitLen x.toNat)) ∧ w' = w := Any.bits_Len8 Tryd.lays126 x w h0 h1
def Tryd.lays131_ren : Go.Shelf.Ren := ⟨fun | 131 => 48 | 126 => 55 | n => n, fun | 5 => 5 | 3 => 3 | 9 => 9 | n => n, fun | n => n⟩
theorem Tryd.lays131 : Go.Proofs.Lays.n131 Tryd.prog Tryd.lays131_ren := {
  mixed := by kernel_rfl
  f126 := Tryd.func55.trans (congrArg some (by kernel_rfl))
  f131 := Tryd.func48.trans (congrArg some (by kernel_rfl))
  t3 := Tryd.underlying3
  a3 := Tryd.isAgg3
  z3 := Tryd.sizeOf3
  v3 := Tryd.zeroValue3
  t5 := Tryd.underlying5
  a5 := Tryd.isAgg5
  z5 := Tryd.sizeOf5
  v5 := Tryd.zeroValue5
  t9 := Tryd.underlying9
  a9 := Tryd.isAgg9
  z9 := Tryd.sizeOf9
  v9 := Tryd.zeroValue9 }
/-- How many zero bits lead. -/
theorem Tryd.bits_LeadingZeros8 (x : Int) (w : World) (h0 : 0 ≤ x) (h1 : x ≤ 255) :
    Calls Tryd.prog 48 #[.int .u8 x] w fun e w' => e = .returned (.int .i64 (8 - (Lib.bitLen x.toNat : Int))) ∧ w' = w := Any.bits_LeadingZeros8 Tryd.lays131 x w h0 h1
end Go.Proofs
/- Contracts of length and gather of package code. -/
namespace Go.Proofs.YtjpabeeokgfloaaDoor
open Go Go.RowKit

/-- How many octets a first one announces; 0 if it can't be one. -/
def lenI (c : Int) : Int := if c < 128 then 1 else if c < 192 then 0 else if c < 224 then 2 else if c < 240 then 3 else if c < 248 then 4 else 0

theorem lz_all : ∀ c : Fin 256, (Lib.bitLen (255 - c.val) : Int) = if c.val < 128 then 8 else if c.val < 192 then 7 else if c.val < 224 then 6 else if c.val < 240 then 5 else if c.val < 248 then 4 else (Lib.bitLen (255 - c.val) : Int) := by decide +kernel
theorem lz_top : ∀ c : Fin 8, Lib.bitLen c.val ≤ 3 := by decide +kernel

theorem xor255 : ∀ c : Fin 256, (255 ^^^ c.val : Nat) = 255 - c.val := by decide +kernel
theorem u8_not {c : Int} (h0 : 0 ≤ c) (h1 : c ≤ 255) : bits BinOp.xor IntKind.u8 IntKind.u8.max c = 255 - c := by
  rw [show IntKind.u8.max = 255 from rfl, u8_xor 255 c (by omega) (by omega) h0 (by omega)]
  have := xor255 ⟨c.toNat, by omega⟩
  simp only at this
  rw [show (255 : Int).toNat = 255 from rfl, this]
  omega
theorem length_lo (c m : Int) (w : World) (h0 : 0 ≤ c) (h1 : c ≤ 255) (hm : m = 0 ∨ m = 2 ∨ m = 3 ∨ m = 4)
    (hb : 8 - (Lib.bitLen (255 - c).toNat : Int) = m) : Calls Tryd.prog 33 #[.int .u8 c] w fun e w' => e = .returned (.int .i64 (if m = 0 then 1 else m)) ∧ w = w' := by
  have hl := fun w => Tryd.bits_LeadingZeros8 (255 - c) w (by omega) (by omega)
  rw [hb] at hl
  clear hb
  have HL := Lib.hid hl; clear hl
  have e1 := u8_not h0 h1
  rcases hm with rfl | rfl | rfl | rfl
  all_goals
    go_enter Tryd.func33, Tryd.ntmps33
    go_wp2_with fail
    refine (HL.out _).mono ?_; rintro e w' ⟨rfl, rfl⟩
    go_wp2_with fail
    go_ret
    exact ⟨by simp, rfl⟩

theorem length_hi (c m : Int) (w : World) (h0 : 0 ≤ c) (h1 : c ≤ 255) (hm : m = 1 ∨ 5 ≤ m)
    (hb : 8 - (Lib.bitLen (255 - c).toNat : Int) = m) : Calls Tryd.prog 33 #[.int .u8 c] w fun e w' => e = .returned (.int .i64 0) ∧ w = w' := by
  have hl := fun w => Tryd.bits_LeadingZeros8 (255 - c) w (by omega) (by omega)
  rw [hb] at hl
  clear hb
  have HL := Lib.hid hl; clear hl
  have e1 := u8_not h0 h1
  have b1 : (m == 0) = false := by simp; omega
  have b2 : (m == 2) = false := by simp; omega
  have b3 : (m == 3) = false := by simp; omega
  have b4 : (m == 4) = false := by simp; omega
  clear hm
  go_enter Tryd.func33, Tryd.ntmps33
  go_wp2_with fail
  refine (HL.out _).mono ?_; rintro e w' ⟨rfl, rfl⟩
  go_wp2_with fail
  go_ret
  exact ⟨rfl, rfl⟩

theorem length_any (c : Int) (w : World) (h0 : 0 ≤ c) (h1 : c < 256) : Calls Tryd.prog 33 #[.int .u8 c] w fun e w' => e = .returned (.int .i64 (lenI c)) ∧ w = w' := by
  have ha := lz_all ⟨c.toNat, by omega⟩
  simp only at ha
  rw [show 255 - c.toNat = (255 - c).toNat by omega] at ha
  have ht : 248 ≤ c → Lib.bitLen (255 - c).toNat ≤ 3 := fun h => lz_top ⟨(255 - c).toNat, by omega⟩
  rcases (show c < 128 ∨ (128 ≤ c ∧ c < 192) ∨ (192 ≤ c ∧ c < 224) ∨ (224 ≤ c ∧ c < 240) ∨ (240 ≤ c ∧ c < 248) ∨ 248 ≤ c by omega) with h | h | h | h | h | h
  · rw [if_pos (by omega)] at ha
    have := length_lo c 0 w h0 (by omega) (by omega) (by omega)
    rw [show lenI c = 1 by unfold lenI; rw [if_pos (by omega)]]
    exact this
  · rw [if_neg (by omega), if_pos (by omega)] at ha
    rw [show lenI c = 0 by unfold lenI; rw [if_neg (by omega), if_pos (by omega)]]
    exact length_hi c 1 w h0 (by omega) (by omega) (by omega)
  · rw [if_neg (by omega), if_neg (by omega), if_pos (by omega)] at ha
    rw [show lenI c = 2 by unfold lenI; rw [if_neg (by omega), if_neg (by omega), if_pos (by omega)]]
    exact length_lo c 2 w h0 (by omega) (by omega) (by omega)
  · rw [if_neg (by omega), if_neg (by omega), if_neg (by omega), if_pos (by omega)] at ha
    rw [show lenI c = 3 by unfold lenI; rw [if_neg (by omega), if_neg (by omega), if_neg (by omega), if_pos (by omega)]]
    exact length_lo c 3 w h0 (by omega) (by omega) (by omega)
  · rw [if_neg (by omega), if_neg (by omega), if_neg (by omega), if_neg (by omega), if_pos (by omega)] at ha
    rw [show lenI c = 4 by unfold lenI; rw [if_neg (by omega), if_neg (by omega), if_neg (by omega), if_neg (by omega), if_pos (by omega)]]
    exact length_lo c 4 w h0 (by omega) (by omega) (by omega)
  · have h3 := ht h
    rw [show lenI c = 0 by unfold lenI; rw [if_neg (by omega), if_neg (by omega), if_neg (by omega), if_neg (by omega), if_neg (by omega)]]
    exact length_hi c (8 - (Lib.bitLen (255 - c).toNat : Int)) w h0 (by omega) (by omega) rfl
end Go.Proofs.YtjpabeeokgfloaaDoor
/- The contract of gather of package code. -/
namespace Go.Proofs.YtjpabeeokgfloaaDoor
open Go Go.RowKit

/-- What the octets behind the first one say, put behind r. -/
def gat : Int → List Int → Int × Bool
  | r, [] => (r, true)
  | r, c :: t => if 128 ≤ c ∧ c < 192 then gat (r * 64 + (c - 128)) t else (0, false)

/-- What of a first octet's bits is its code point's. -/
def headI (n c : Int) : Int := if n = 1 then c % 128 else if n = 2 then c % 64 else if n = 3 then c % 32 else c % 16

theorem and127 {c : Int} (h0 : 0 ≤ c) (h1 : c < 256) : bits .and .u8 c 127 = c % 128 := bits_mask .u8 8 (by decide) wraps_u8 7 (by decide) c h0 h1

set_option maxHeartbeats 400000 in
theorem gather_1 (b o cap : Nat) (n x : Int) (w : World) (hn : n = 1 ∨ n = 2 ∨ n = 3 ∨ n = 4) (hcap : 1 ≤ cap) (hcm : cap ≤ maxLen) (hx0 : 0 ≤ x) (hx1 : x < 256)
    (hc : w.cell? ⟨b, o, none⟩ = some (.int .u8 x)) :
    Calls Tryd.prog 34 #[.slice (some ⟨b, o, none⟩) 1 cap, .int .i64 n] w fun e w' => e = .returned (.tuple #[.int .i64 (headI n x), .bool true]) ∧ ∃ q, w' = w.drewN q := by
  have e1 := and127 hx0 hx1
  have e2 := u8_and63 x hx0 hx1
  have e3 := u8_and31 x hx0 hx1
  have e4 := u8_and15 x hx0 hx1
  unfold maxLen at hcm
  by_cases h1 : cap = 1
  · subst h1
    rcases hn with rfl | rfl | rfl | rfl
    all_goals
      go_enter Tryd.func34, Tryd.ntmps34
      go_wp2
      go_quiet (fail)
      go_wp2
      go_rounds 1
      go_ret2
      exact ⟨by simp [headI], _, rfl⟩
  · rcases hn with rfl | rfl | rfl | rfl
    all_goals
      go_enter Tryd.func34, Tryd.ntmps34
      go_wp2
      go_quiet (fail)
      go_wp2
      go_rounds 1
      go_ret2
      exact ⟨by simp [headI], _, rfl⟩

/-- How great the number can be before round k. -/
def Room (k : Nat) (r : Int) : Prop := 0 ≤ r ∧ (k = 0 → r < 128) ∧ (k = 1 → r < 8192) ∧ (k = 2 → r < 524288) ∧ (k = 3 → r < 33554432)
theorem Room.lt {k : Nat} {r : Int} (h : Room k r) (hk : k ≤ 3) : 0 ≤ r ∧ r < 33554432 := by unfold Room at h; omega
theorem Room.next {k : Nat} {r c : Int} (h : Room k r) (h0 : 0 ≤ c) (h1 : c < 64) (hk : k < 3) : Room (k + 1) (r * 64 + c) := by unfold Room at *; omega
theorem headI_room (n x : Int) : Room 0 (headI n x) := by
  unfold Room headI
  refine ⟨?_, ?_, ?_, ?_, ?_⟩ <;> (split <;> (try split) <;> (try split) <;> omega)

set_option maxHeartbeats 1000000 in
theorem gather_n (b o m cap : Nat) (n x : Int) (t : List Int) (w : World) (hn : n = 1 ∨ n = 2 ∨ n = 3 ∨ n = 4) (hm : m = t.length) (hm1 : 1 ≤ m) (hm3 : m ≤ 3) (hcap : m + 1 ≤ cap) (hcm : cap ≤ maxLen) (hx0 : 0 ≤ x) (hx1 : x < 256)
    (hc : w.cell? ⟨b, o, none⟩ = some (.int .u8 x)) (hct : ∀ j, j < m → w.cell? ⟨b, o + 1 + j, none⟩ = some (.int .u8 (t.getD j 0))) (hby : ∀ c ∈ t, 0 ≤ c ∧ c < 256) :
    Calls Tryd.prog 34 #[.slice (some ⟨b, o, none⟩) ((m + 1 : Nat) : Nat) cap, .int .i64 n] w fun e w' => e = .returned (.tuple #[.int .i64 (gat (headI n x) t).1, .bool (gat (headI n x) t).2]) ∧ ∃ q, w' = w.drewN q := by
  have e1 := and127 hx0 hx1
  have e2 := u8_and63 x hx0 hx1
  have e3 := u8_and31 x hx0 hx1
  have e4 := u8_and15 x hx0 hx1
  unfold maxLen at hcm
  have hne : ¬ cap = 1 := by omega
  have hroom := headI_room n x
  obtain ⟨h, hh⟩ : ∃ h, h = headI n x := ⟨_, rfl⟩
  rw [← hh] at hroom ⊢
  have HH := Lib.hid hh; clear hh
  have HM := Lib.hid hm; clear hm
  have HR := Lib.hid hroom; clear hroom
  have HT := Lib.hid hct; clear hct
  have HB := Lib.hid hby; clear hby
  rcases hn with rfl | rfl | rfl | rfl
  all_goals
    go_enter Tryd.func34, Tryd.ntmps34
    go_wp2
    go_quiet (fail)
    go_wp2
    go_loop [6, 19] (fun vr vi => ∃ (k : Nat) (r : Int), k ≤ m ∧ vi = .int .i64 k ∧ vr = .int .i64 r ∧ Hid (Room k r) ∧ Hid (gat r (t.drop k) = gat h t)) (fun _ vi => m - (intOf vi).toNat)
    case atStart => exact ⟨0, h, Nat.zero_le _, rfl, by rw [HH.out]; simp [headI], HR, Lib.hid (by simp)⟩
    case round =>
      obtain ⟨k, r, hk, rfl, rfl, HK, HG⟩ := hrel
      by_cases hlt : k < m
      · have c1 := HT.out k hlt
        obtain ⟨c, hc'⟩ : ∃ c, c = t.getD k 0 := ⟨_, rfl⟩
        rw [← hc'] at c1
        have hk' : k < t.length := by have := HM.out; omega
        have hg : t[k] = c := by rw [hc']; simp [List.getD, hk']
        have hcr := HB.out c (by rw [← hg]; exact List.getElem_mem hk')
        have hd : t.drop k = c :: t.drop (k + 1) := by rw [← hg]; exact List.drop_eq_getElem_cons hk'
        obtain ⟨hc0, hc1⟩ := hcr
        have hrm := HK.out.lt (by omega)
        obtain ⟨hr0, hr1⟩ := hrm
        have HD := Lib.hid hd
        clear hd hg hc' hk'
        by_cases hcont : 128 ≤ c ∧ c < 192
        · have hq : (c / 64 != 2) = false := by rw [bne_eq_false_iff_eq]; omega
          have e6 := u8_and63 c hc0 hc1
          have e7 := i64_or6 (x := r * 64) (y := c % 64) (by omega) (by omega) (by omega) (by omega) (by omega)
          have e8 : 0 ≤ c % 64 := by omega
          have e9 : c % 64 < 64 := by omega
          have HN := Lib.hid (HK.out.next e8 e9 (by omega))
          have HC := Lib.hid hcont; clear hcont
          go_wp2
          go_round
          case rel =>
            refine ⟨k + 1, r * 64 + c % 64, by omega, by go_num, rfl, HN, Lib.hid ?_⟩
            rw [← HG.out, HD.out, gat, if_pos HC.out, show c - 128 = c % 64 by have := HC.out; omega]
          case measure => simp [intOf]; omega
        · have hq : (c / 64 != 2) = true := by rw [bne_iff_ne]; omega
          have HC := Lib.hid hcont; clear hcont
          go_wp2
          go_ret2
          exact ⟨by rw [← HG.out, HD.out, gat, if_neg HC.out]; rfl, _, rfl⟩
      · go_wp2
        go_ret2
        exact ⟨by rw [← HG.out, List.drop_eq_nil_of_le (by have := HM.out; omega)]; simp [gat], _, rfl⟩
end Go.Proofs.YtjpabeeokgfloaaDoor
/- The contract of Get of package code. -/
namespace Go.Proofs.YtjpabeeokgfloaaDoor
open Go Go.RowKit

/-- What Get gives, of octets as numbers. -/
def getI : List Int → Int × Int
  | [] => (65533, 0)
  | x :: t => if lenI x = 0 ∨ (t.length : Int) + 1 < lenI x then (65533, 1) else
    if (gat (headI (lenI x) x) (t.take ((lenI x).toNat - 1))).2 = true ∧ szI (gat (headI (lenI x) x) (t.take ((lenI x).toNat - 1))).1 = lenI x
      then ((gat (headI (lenI x) x) (t.take ((lenI x).toNat - 1))).1, lenI x) else (65533, 1)

theorem get_nil (A : Option Addr) (cap : Nat) (w : World) : Calls Tryd.prog 18 #[.slice A 0 cap] w fun e w' => e = .returned (.tuple #[.int .i64 65533, .int .i64 0]) ∧ ∃ q, w' = w.drewN q := by
  go_enter Tryd.func18, Tryd.ntmps18
  go_wp2
  go_ret2
  exact ⟨rfl, 0, rfl⟩

theorem get_fail (b o m cap : Nat) (x n : Int) (w : World) (hm : (m : Int) ≤ 4611686018427387904) (hc : w.cell? ⟨b, o, none⟩ = some (.int .u8 x)) (hn : n = 0 ∨ (m : Int) + 1 < n)
    (hl : ∀ w, Calls Tryd.prog 33 #[.int .u8 x] w fun e w' => e = .returned (.int .i64 n) ∧ w = w') :
    Calls Tryd.prog 18 #[.slice (some ⟨b, o, none⟩) ((m + 1 : Nat) : Nat) cap] w fun e w' => e = .returned (.tuple #[.int .i64 65533, .int .i64 1]) ∧ ∃ q, w' = w.drewN q := by
  have HL := Lib.hid hl; clear hl
  have hz : (((m + 1 : Nat) : Int) == 0) = false := by simp; omega
  by_cases h0 : n = 0
  · subst h0
    go_enter Tryd.func18, Tryd.ntmps18
    go_wp2_with fail
    refine (HL.out _).mono ?_; rintro e w' ⟨rfl, rfl⟩
    go_wp2_with fail
    go_ret2
    exact ⟨rfl, 0, rfl⟩
  · have hb : (n == 0) = false := by simp; omega
    have hg : (m : Int) + 1 < n := by omega
    clear h0 hn
    go_enter Tryd.func18, Tryd.ntmps18
    go_wp2_with fail
    refine (HL.out _).mono ?_; rintro e w' ⟨rfl, rfl⟩
    go_wp2_with fail
    go_ret2
    exact ⟨rfl, 0, rfl⟩

theorem get_bad (b o m cap : Nat) (x n r : Int) (w : World) (hm : (m : Int) ≤ 4611686018427387904) (hcap : m + 1 ≤ cap) (hc : w.cell? ⟨b, o, none⟩ = some (.int .u8 x)) (hn : n = 1 ∨ n = 2 ∨ n = 3 ∨ n = 4) (hnm : n ≤ (m : Int) + 1)
    (hl : ∀ w, Calls Tryd.prog 33 #[.int .u8 x] w fun e w' => e = .returned (.int .i64 n) ∧ w = w')
    (hg : Calls Tryd.prog 34 #[.slice (some ⟨b, o, none⟩) n.toNat cap, .int .i64 n] w fun e w' => e = .returned (.tuple #[.int .i64 r, .bool false]) ∧ ∃ q, w' = w.drewN q) :
    Calls Tryd.prog 18 #[.slice (some ⟨b, o, none⟩) ((m + 1 : Nat) : Nat) cap] w fun e w' => e = .returned (.tuple #[.int .i64 65533, .int .i64 1]) ∧ ∃ q, w' = w.drewN q := by
  have HL := Lib.hid hl; clear hl
  have HG := Lib.hid hg; clear hg
  have hz : (((m + 1 : Nat) : Int) == 0) = false := by simp; omega
  have hnb : decide ((m : Int) + 1 < n) = false := by simp; omega
  rcases hn with rfl | rfl | rfl | rfl
  all_goals
    go_enter Tryd.func18, Tryd.ntmps18
    go_wp2_with fail
    refine (HL.out _).mono ?_; rintro e w' ⟨rfl, rfl⟩
    go_wp2_with fail
    refine HG.out.mono ?_; rintro e w' ⟨rfl, q, rfl⟩
    go_wp2_with fail
    go_ret2
    exact ⟨rfl, q, rfl⟩

theorem get_odd (b o m cap : Nat) (x n r : Int) (z : Int) (w : World) (hm : (m : Int) ≤ 4611686018427387904) (hcap : m + 1 ≤ cap) (hc : w.cell? ⟨b, o, none⟩ = some (.int .u8 x)) (hn : n = 1 ∨ n = 2 ∨ n = 3 ∨ n = 4) (hnm : n ≤ (m : Int) + 1)
    (hl : ∀ w, Calls Tryd.prog 33 #[.int .u8 x] w fun e w' => e = .returned (.int .i64 n) ∧ w = w')
    (hg : Calls Tryd.prog 34 #[.slice (some ⟨b, o, none⟩) n.toNat cap, .int .i64 n] w fun e w' => e = .returned (.tuple #[.int .i64 r, .bool true]) ∧ ∃ q, w' = w.drewN q)
    (hs : ∀ w, Calls Tryd.prog 19 #[.int .i64 r] w fun e w' => e = .returned (.int .i64 z) ∧ w = w') (hzn : ¬ z = n) :
    Calls Tryd.prog 18 #[.slice (some ⟨b, o, none⟩) ((m + 1 : Nat) : Nat) cap] w fun e w' => e = .returned (.tuple #[.int .i64 65533, .int .i64 1]) ∧ ∃ q, w' = w.drewN q := by
  have HL := Lib.hid hl; clear hl
  have HG := Lib.hid hg; clear hg
  have hz : (((m + 1 : Nat) : Int) == 0) = false := by simp; omega
  have hnb : decide ((m : Int) + 1 < n) = false := by simp; omega
  have HS := Lib.hid hs; clear hs
  have hzz : (z != n) = true := by simpa using hzn
  clear hzn
  rcases hn with rfl | rfl | rfl | rfl
  all_goals
    go_enter Tryd.func18, Tryd.ntmps18
    go_wp2_with fail
    refine (HL.out _).mono ?_; rintro e w' ⟨rfl, rfl⟩
    go_wp2_with fail
    refine HG.out.mono ?_; rintro e w' ⟨rfl, q, rfl⟩
    go_wp2_with fail
    refine (HS.out _).mono ?_; rintro e w' ⟨rfl, rfl⟩
    go_wp2_with fail
    go_ret2
    exact ⟨rfl, q, rfl⟩

theorem get_good (b o m cap : Nat) (x n r : Int) (w : World) (hm : (m : Int) ≤ 4611686018427387904) (hcap : m + 1 ≤ cap) (hc : w.cell? ⟨b, o, none⟩ = some (.int .u8 x)) (hn : n = 1 ∨ n = 2 ∨ n = 3 ∨ n = 4) (hnm : n ≤ (m : Int) + 1)
    (hl : ∀ w, Calls Tryd.prog 33 #[.int .u8 x] w fun e w' => e = .returned (.int .i64 n) ∧ w = w')
    (hg : Calls Tryd.prog 34 #[.slice (some ⟨b, o, none⟩) n.toNat cap, .int .i64 n] w fun e w' => e = .returned (.tuple #[.int .i64 r, .bool true]) ∧ ∃ q, w' = w.drewN q)
    (hs : ∀ w, Calls Tryd.prog 19 #[.int .i64 r] w fun e w' => e = .returned (.int .i64 n) ∧ w = w') :
    Calls Tryd.prog 18 #[.slice (some ⟨b, o, none⟩) ((m + 1 : Nat) : Nat) cap] w fun e w' => e = .returned (.tuple #[.int .i64 r, .int .i64 n]) ∧ ∃ q, w' = w.drewN q := by
  have HL := Lib.hid hl; clear hl
  have HG := Lib.hid hg; clear hg
  have hz : (((m + 1 : Nat) : Int) == 0) = false := by simp; omega
  have hnb : decide ((m : Int) + 1 < n) = false := by simp; omega
  have HS := Lib.hid hs; clear hs
  have hzz : (n != n) = false := by simp
  rcases hn with rfl | rfl | rfl | rfl
  all_goals
    go_enter Tryd.func18, Tryd.ntmps18
    go_wp2_with fail
    refine (HL.out _).mono ?_; rintro e w' ⟨rfl, rfl⟩
    go_wp2_with fail
    refine HG.out.mono ?_; rintro e w' ⟨rfl, q, rfl⟩
    go_wp2_with fail
    refine (HS.out _).mono ?_; rintro e w' ⟨rfl, rfl⟩
    go_wp2_with fail
    go_ret2
    exact ⟨rfl, q, rfl⟩

theorem lenI_or (x : Int) : lenI x = 0 ∨ lenI x = 1 ∨ lenI x = 2 ∨ lenI x = 3 ∨ lenI x = 4 := by
  unfold lenI; (repeat' split) <;> omega

/-- WHAT Get GIVES, of octets that read as a list. -/
theorem get_any (A : Option Addr) (len cap : Nat) (l : List Int) (w : World) (hr : RowI .u8 w A len l) (hby : ∀ c ∈ l, 0 ≤ c ∧ c < 256) (hcap : len ≤ cap) (hcm : cap ≤ maxLen) (hlen : (len : Int) ≤ 4611686018427387904) :
    Calls Tryd.prog 18 #[.slice A len cap] w fun e w' => e = .returned (.tuple #[.int .i64 (getI l).1, .int .i64 (getI l).2]) ∧ ∃ q, w' = w.drewN q := by
  obtain ⟨hl, hc⟩ := hr
  rcases l with _ | ⟨x, t⟩
  · obtain rfl : len = 0 := hl.symm
    exact get_nil A cap w
  · obtain rfl : len = t.length + 1 := by simpa using hl.symm
    obtain ⟨b, o, rfl, _, hcell⟩ := hc (by omega)
    have hx := hby x (by simp)
    have hc0 : w.cell? ⟨b, o, none⟩ = some (.int .u8 x) := by simpa using hcell 0 (by omega)
    have hl := fun w => length_any x w hx.1 hx.2
    have hor := lenI_or x
    have hgd : getI (x :: t) = if lenI x = 0 ∨ (t.length : Int) + 1 < lenI x then (65533, 1) else
      if (gat (headI (lenI x) x) (t.take ((lenI x).toNat - 1))).2 = true ∧ szI (gat (headI (lenI x) x) (t.take ((lenI x).toNat - 1))).1 = lenI x
      then ((gat (headI (lenI x) x) (t.take ((lenI x).toNat - 1))).1, lenI x) else (65533, 1) := rfl
    rw [hgd]
    generalize lenI x = n at *
    clear hgd
    by_cases hf : n = 0 ∨ (t.length : Int) + 1 < n
    · rw [if_pos hf]
      exact get_fail b o t.length cap x n w (by omega) hc0 hf hl
    · rw [if_neg hf]
      have hn : n = 1 ∨ n = 2 ∨ n = 3 ∨ n = 4 := by omega
      have hg : Calls Tryd.prog 34 #[.slice (some ⟨b, o, none⟩) n.toNat cap, .int .i64 n] w fun e w' =>
          e = .returned (.tuple #[.int .i64 (gat (headI n x) (t.take (n.toNat - 1))).1, .bool (gat (headI n x) (t.take (n.toNat - 1))).2]) ∧ ∃ q, w' = w.drewN q := by
        by_cases h1 : n = 1
        · subst h1
          have := gather_1 b o cap 1 x w (by omega) (by omega) hcm hx.1 hx.2 hc0
          simpa [gat] using this
        · have hnt : n.toNat = (n.toNat - 1) + 1 := by omega
          rw [hnt]
          exact gather_n b o (n.toNat - 1) cap n x (t.take (n.toNat - 1)) w hn (by simp; omega) (by omega) (by omega) (by omega) hcm hx.1 hx.2 hc0 (fun j hj => by
            have := hcell (j + 1) (by omega)
            rw [show o + 1 + j = o + (j + 1) by omega, this]
            simp [List.getD, hj]) (fun c hc => hby c (List.mem_cons_of_mem _ (List.mem_of_mem_take hc)))
      generalize gat (headI n x) (t.take (n.toNat - 1)) = g at *
      obtain ⟨r, ok⟩ := g
      cases ok
      · simp only [Bool.false_eq_true, false_and, if_false]
        exact get_bad b o t.length cap x n r w (by omega) hcap hc0 hn (by omega) hl hg
      · by_cases hz : szI r = n
        · simp only [hz, and_self, if_true]
          exact get_good b o t.length cap x n r w (by omega) hcap hc0 hn (by omega) hl hg (fun w => hz ▸ size_any r w)
        · simp only [hz, and_false, if_false]
          exact get_odd b o t.length cap x n r (szI r) w (by omega) hcap hc0 hn (by omega) hl hg (fun w => size_any r w) hz
end Go.Proofs.YtjpabeeokgfloaaDoor
/- What Get of package code gives is what the document's Get gives: numbers alone. -/
namespace Go.Proofs.YtjpabeeokgfloaaDoor
open Go Go.RowKit

theorem szI_len {r : Int} (h : isI r = true) : szI r = (putI r).length := by
  unfold szI putI
  rw [h]
  simp only [Bool.true_eq_false, if_false]
  (repeat' split) <;> rfl
/-- The first octet tells how many there are; the others stand in their range. -/
theorem putI_form {r : Int} (h : isI r = true) {x : Int} {t : List Int} (e : putI r = x :: t) : lenI x = (t.length : Int) + 1 ∧ ∀ c ∈ t, 128 ≤ c ∧ c < 192 := by
  have h0 := isI_cases h
  unfold putI at e
  (repeat' split at e) <;> injection e with e1 e2 <;> subst e1 <;> subst e2 <;> (refine ⟨?_, ?_⟩)
  · unfold lenI; simp; omega
  · simp
  · unfold lenI; simp; omega
  · intro c hc; simp at hc; omega
  · unfold lenI; simp; omega
  · intro c hc; simp at hc; omega
  · unfold lenI; simp; omega
  · intro c hc; simp at hc; omega

theorem okI_len {x : Int} {t : List Int} {n : Nat} (h : okI (x :: t) n = true) (hn : 1 ≤ n) : lenI x = n := by
  unfold okI at h
  simp only [Bool.and_eq_true, decide_eq_true_eq] at h
  obtain ⟨⟨h1, h2⟩, h3⟩ := h
  obtain ⟨m, rfl⟩ : ∃ m, n = m + 1 := ⟨n - 1, by omega⟩
  rw [List.take_succ_cons] at h2 h3
  have := (putI_form h2 h3).1
  simp at h1
  rw [List.length_take] at this
  omega

/-- Of the tries one alone can do: the one that the first octet tells. -/
theorem rgetF_one {x : Int} {t : List Int} : rgetF (x :: t) 4 1 = if okI (x :: t) (lenI x).toNat = true ∧ 1 ≤ lenI x then (valI ((x :: t).take (lenI x).toNat), lenI x) else (65533, 1) := by
  have no : ∀ n : Nat, 1 ≤ n → lenI x ≠ n → okI (x :: t) n = false := fun n hn h => by
    cases hq : okI (x :: t) n with
    | false => rfl
    | true => exact absurd (okI_len hq hn) h
  unfold rgetF rgetF rgetF rgetF rgetF
  simp only [Nat.reduceAdd]
  rcases lenI_or x with h | h | h | h | h
  · rw [no 1 (by omega) (by omega), no 2 (by omega) (by omega), no 3 (by omega) (by omega), no 4 (by omega) (by omega), if_neg (show ¬ (okI (x :: t) (lenI x).toNat = true ∧ 1 ≤ lenI x) by omega)]
    rfl
  · rw [no 2 (by omega) (by omega), no 3 (by omega) (by omega), no 4 (by omega) (by omega), h]
    cases hq : okI (x :: t) 1 <;> simp [hq]
  · rw [no 1 (by omega) (by omega), no 3 (by omega) (by omega), no 4 (by omega) (by omega), h]
    cases hq : okI (x :: t) 2 <;> simp [hq]
  · rw [no 1 (by omega) (by omega), no 2 (by omega) (by omega), no 4 (by omega) (by omega), h]
    cases hq : okI (x :: t) 3 <;> simp [hq]
  · rw [no 1 (by omega) (by omega), no 2 (by omega) (by omega), no 3 (by omega) (by omega), h]
    cases hq : okI (x :: t) 4 <;> simp [hq]

theorem gat_conts : ∀ (r : Int) (t : List Int), (∀ c ∈ t, 128 ≤ c ∧ c < 192) → gat r t = (vtailI r t, true)
  | _, [], _ => rfl
  | r, c :: t, h => by
    have hc := h c (by simp)
    unfold gat vtailI
    rw [if_pos hc, show (c + 128) % 256 = c - 128 by omega]
    exact gat_conts _ t fun d hd => h d (List.mem_cons_of_mem _ hd)
theorem gat_not : ∀ (r : Int) (t : List Int), ¬ (∀ c ∈ t, 128 ≤ c ∧ c < 192) → (gat r t).2 = false
  | _, [], h => absurd (by simp) h
  | r, c :: t, h => by
    unfold gat
    split
    · rename_i hc
      exact gat_not _ t fun hh => h fun d hd => by
        rcases List.mem_cons.1 hd with rfl | hd
        · exact hc
        · exact hh d hd
    · rfl

theorem head_v {x : Int} (h0 : 0 ≤ x) (h : 1 ≤ lenI x) : headI (lenI x) x = vheadI x := by
  unfold lenI at h
  unfold headI vheadI lenI
  (repeat' split at h) <;> (repeat' split) <;> omega

theorem back2 {x b : Int} (hb : 128 ≤ b ∧ b < 192) (hs : szI ((x - 192) * 64 + (b - 128)) = 2) : putI ((x - 192) * 64 + (b - 128)) = [x, b] := by
  unfold szI at hs
  unfold putI
  (repeat' split at hs) <;> first | omega | skip
  rw [if_neg (by omega), if_pos (by omega)]
  congr 1
  · omega
  · congr 1; omega
theorem back3 {x b c : Int} (hb : 128 ≤ b ∧ b < 192) (hc : 128 ≤ c ∧ c < 192) (hs : szI (((x - 224) * 64 + (b - 128)) * 64 + (c - 128)) = 3) : putI (((x - 224) * 64 + (b - 128)) * 64 + (c - 128)) = [x, b, c] := by
  unfold szI at hs
  unfold putI
  (repeat' split at hs) <;> first | omega | skip
  rw [if_neg (by omega), if_neg (by omega), if_pos (by omega)]
  congr 1
  · omega
  · congr 1
    · omega
    · congr 1; omega
theorem back4 {x b c d : Int} (hb : 128 ≤ b ∧ b < 192) (hc : 128 ≤ c ∧ c < 192) (hd : 128 ≤ d ∧ d < 192) (hs : szI ((((x - 240) * 64 + (b - 128)) * 64 + (c - 128)) * 64 + (d - 128)) = 4) : putI ((((x - 240) * 64 + (b - 128)) * 64 + (c - 128)) * 64 + (d - 128)) = [x, b, c, d] := by
  unfold szI at hs
  unfold putI
  (repeat' split at hs) <;> first | omega | skip
  rw [if_neg (by omega), if_neg (by omega), if_neg (by omega)]
  congr 1
  · omega
  · congr 1
    · omega
    · congr 1
      · omega
      · congr 1; omega

theorem lenI_range (x : Int) : (lenI x = 2 → 192 ≤ x ∧ x < 224) ∧ (lenI x = 3 → 224 ≤ x ∧ x < 240) ∧ (lenI x = 4 → 240 ≤ x ∧ x < 248) ∧ (lenI x = 1 → x < 128) := by
  unfold lenI; (repeat' split) <;> omega
theorem szI_pos_is {r n : Int} (h : szI r = n) (hn : 1 ≤ n) : isI r = true := by
  cases hq : isI r with
  | true => rfl
  | false => unfold szI at h; rw [hq] at h; simp at h; omega

/-- .. whatever octets. -/
theorem get_same (x : Int) (t : List Int) (hx : 0 ≤ x) : getI (x :: t) = rgetF (x :: t) 4 1 := by
  rw [rgetF_one]
  have hr := lenI_range x
  simp only [getI]
  by_cases hf : lenI x = 0 ∨ (t.length : Int) + 1 < lenI x
  · rw [if_pos hf, if_neg]
    rintro ⟨h1, h2⟩
    unfold okI at h1
    simp only [Bool.and_eq_true, decide_eq_true_eq, List.length_cons] at h1
    omega
  rw [if_neg hf]
  obtain ⟨N, hN⟩ : ∃ N : Nat, lenI x = ((N + 1 : Nat) : Int) := ⟨(lenI x).toNat - 1, by have := lenI_or x; omega⟩
  have hh := head_v hx (by omega)
  rw [hN] at hf hh ⊢
  rw [hh, Int.toNat_natCast, Nat.add_sub_cancel, List.take_succ_cons]
  have hlen : (t.take N).length = N := by rw [List.length_take]; omega
  have hok : okI (x :: t) (N + 1) = (isI (valI (x :: t.take N)) && decide (putI (valI (x :: t.take N)) = x :: t.take N)) := by
    unfold okI
    rw [decide_eq_true (by simp; omega), Bool.true_and, List.take_succ_cons]
  rw [hok]
  generalize t.take N = u at *
  have hval : valI (x :: u) = vtailI (vheadI x) u := rfl
  rw [hval]
  by_cases hc : ∀ c ∈ u, 128 ≤ c ∧ c < 192
  · rw [gat_conts _ _ hc]
    simp only [true_and]
    obtain ⟨v, hv⟩ : ∃ v, v = vtailI (vheadI x) u := ⟨_, rfl⟩
    rw [← hv]
    have key : szI v = ((N + 1 : Nat) : Int) ↔ ((isI v && decide (putI v = x :: u)) = true ∧ 1 ≤ ((N + 1 : Nat) : Int)) := by
      constructor
      · intro hs
        refine ⟨?_, by omega⟩
        have hi := szI_pos_is hs (by omega)
        rw [hi, Bool.true_and, decide_eq_true_iff]
        have hor := lenI_or x
        rcases u with _ | ⟨b, _ | ⟨c, _ | ⟨d, _ | ⟨e, u⟩⟩⟩⟩
        · have hx1 := hr.2.2.2 (by simp at hlen; omega)
          have : v = x := by rw [hv]; unfold vtailI vheadI; (repeat' split) <;> omega
          rw [this]; unfold putI; rw [if_pos hx1]
        · have hx2 := hr.1 (by simp at hlen; omega)
          have hb := hc b (by simp)
          have : v = (x - 192) * 64 + (b - 128) := by rw [hv]; simp only [vtailI]; unfold vheadI; (repeat' split) <;> omega
          subst this
          exact back2 hb (by simp at hlen; omega)
        · have hx2 := hr.2.1 (by simp at hlen; omega)
          have hb := hc b (by simp)
          have hc' := hc c (by simp)
          have : v = ((x - 224) * 64 + (b - 128)) * 64 + (c - 128) := by rw [hv]; simp only [vtailI]; unfold vheadI; (repeat' split) <;> omega
          subst this
          exact back3 hb hc' (by simp at hlen; omega)
        · have hx2 := hr.2.2.1 (by simp at hlen; omega)
          have hb := hc b (by simp)
          have hc' := hc c (by simp)
          have hd := hc d (by simp)
          have : v = (((x - 240) * 64 + (b - 128)) * 64 + (c - 128)) * 64 + (d - 128) := by rw [hv]; simp only [vtailI]; unfold vheadI; (repeat' split) <;> omega
          subst this
          exact back4 hb hc' hd (by simp at hlen; omega)
        · simp at hlen; omega
      · rintro ⟨h, _⟩
        simp only [Bool.and_eq_true, decide_eq_true_eq] at h
        rw [szI_len h.1, h.2, List.length_cons, hlen]
    by_cases hs : szI v = ((N + 1 : Nat) : Int)
    · rw [if_pos hs, if_pos (key.1 hs)]
    · rw [if_neg hs, if_neg (fun h => hs (key.2 h))]
  · rw [gat_not _ _ hc, if_neg (by simp), if_neg]
    rintro ⟨h, _⟩
    simp only [Bool.and_eq_true, decide_eq_true_eq] at h
    exact hc (putI_form h.1 h.2).2
end Go.Proofs.YtjpabeeokgfloaaDoor
/- The document's Get, of whatever text. -/
namespace Go.Proofs.YtjpabeeokgfloaaDoor
open Go Go.RowKit

/-- The document's Get, of whatever text. -/
theorem refGet_any (s : ByteArray) (w : World) (hm : s.size ≤ maxLen) :
    Calls Tryd.prog 23 #[.string s] w fun e w' => e = .returned (.tuple #[.int .i64 (getI (nums s)).1, .int .i64 (getI (nums s)).2]) ∧ Below w.heap.size w w' := by
  have hl := nums_length s
  rcases Nat.eq_zero_or_pos s.size with h0 | h0
  · have : nums s = [] := List.eq_nil_of_length_eq_zero (by omega)
    rw [this]
    exact refGet_nil s w h0
  · have hb := nums_byte s
    have h := refGet_some s w h0 hm
    cases hq : nums s with
    | nil => rw [hq] at hl; simp at hl; omega
    | cons x t =>
      rw [hq] at h hb
      rw [get_same x t (hb x (by simp)).1]
      exact h

end Go.Proofs.YtjpabeeokgfloaaDoor
/- There and back; the octets of many code points. -/
namespace Go.Proofs.YtjpabeeokgfloaaDoor
open Go Go.RowKit
set_option linter.unusedVariables false

theorem valI_put {s : Int} (h : isI s = true) : valI (putI s) = s := by
  have h0 := isI_cases h
  unfold putI
  (repeat' split) <;> simp only [valI, vtailI] <;> unfold vheadI <;> (repeat' split) <;> omega
/-- There and back it is itself, whatever stands behind. -/
theorem get_put {s : Int} (h : isI s = true) (rest : List Int) : getI (putI s ++ rest) = (s, ((putI s).length : Int)) := by
  cases hp : putI s with
  | nil => unfold putI at hp; (repeat' split at hp) <;> cases hp
  | cons x t =>
    have hf := putI_form h hp
    rw [List.cons_append, get_same x _ (putI_byte s h x (by rw [hp]; simp)).1, rgetF_one, hf.1]
    have ht : (x :: (t ++ rest)).take ((t.length : Int) + 1).toNat = putI s := by
      rw [hp, show ((t.length : Int) + 1).toNat = t.length + 1 by omega, List.take_succ_cons, List.take_left]
    have hok : okI (x :: (t ++ rest)) ((t.length : Int) + 1).toNat = true := by
      unfold okI
      rw [ht, valI_put h, h, decide_eq_true rfl, decide_eq_true (by simp)]
      rfl
    rw [if_pos ⟨hok, by omega⟩, ht, valI_put h]
    simp
theorem putI_len (r : Int) : 1 ≤ (putI r).length ∧ (putI r).length ≤ 4 := by unfold putI; (repeat' split) <;> simp

theorem getI_bounds {l : List Int} (h : l ≠ []) : 1 ≤ (getI l).2 ∧ (getI l).2 ≤ l.length := by
  cases l with
  | nil => exact absurd rfl h
  | cons x t =>
    simp only [getI, List.length_cons]
    have := lenI_or x
    (repeat' split) <;> simp <;> omega
theorem getI_is (l : List Int) : isI (getI l).1 = true := by
  cases l with
  | nil => decide
  | cons x t =>
    simp only [getI]
    split
    · decide
    · split
      · rename_i h1 h2
        exact szI_pos_is h2.2 (by have := lenI_or x; omega)
      · decide

/-- The octets of many code points, one behind the other. -/
def putAll : List Int → List Int
  | [] => []
  | c :: cs => putI c ++ putAll cs
theorem putAll_snoc : ∀ (cs : List Int) (c : Int), putAll (cs ++ [c]) = putAll cs ++ putI c
  | [], c => by simp [putAll]
  | d :: cs, c => by simp only [List.cons_append, putAll, putAll_snoc cs c, List.append_assoc]
theorem putAll_append : ∀ (ds bs : List Int), putAll (ds ++ bs) = putAll ds ++ putAll bs
  | [], _ => rfl
  | d :: ds, bs => by simp only [List.cons_append, putAll, putAll_append ds bs, List.append_assoc]
theorem putAll_len : ∀ cs : List Int, cs.length ≤ (putAll cs).length ∧ (putAll cs).length ≤ 4 * cs.length
  | [] => by simp [putAll]
  | c :: cs => by
    have h := putI_len c
    have h2 := putAll_len cs
    simp only [putAll, List.length_append, List.length_cons]
    omega
theorem putAll_byte : ∀ cs : List Int, (∀ c ∈ cs, isI c = true) → ∀ x ∈ putAll cs, 0 ≤ x ∧ x < 256
  | [], _, x, hx => by simp [putAll] at hx
  | c :: cs, h, x, hx => by
    rw [putAll, List.mem_append] at hx
    rcases hx with hx | hx
    · exact putI_byte c (h c (by simp)) x hx
    · exact putAll_byte cs (fun d hd => h d (List.mem_cons_of_mem _ hd)) x hx

end Go.Proofs.YtjpabeeokgfloaaDoor
