/- Contracts of length and gather of package code. -/
import Derived.Test.YtegcebgoiocakaaM01
import Derived.Test.YtegcebgoiocakaaM02
import Derived.Test.YtegcebgoiocakaaM07
import Derived.Deep.QuietTactic
import Derived.BigQuiet
import Derived.Laws.BitsAllLaws
namespace Go.Proofs.Ytegcebgoiocakaa
open Go Go.RowKit

/-- How many octets a first one announces; 0 if it can't be one. -/
def lenI (c : Int) : Int := if c < 128 then 1 else if c < 192 then 0 else if c < 224 then 2 else if c < 240 then 3 else if c < 248 then 4 else 0

theorem lz_all : ∀ c : Fin 256, (Lib.bitLen (255 - c.val) : Int) = if c.val < 128 then 8 else if c.val < 192 then 7 else if c.val < 224 then 6 else if c.val < 240 then 5 else if c.val < 248 then 4 else (Lib.bitLen (255 - c.val) : Int) := by decide +kernel
theorem lz_top : ∀ c : Fin 8, Lib.bitLen c.val ≤ 3 := by decide +kernel

theorem xor255 : ∀ c : Fin 256, (255 ^^^ c.val : Nat) = 255 - c.val := by decide +kernel
theorem u8_not {c : Int} (h0 : 0 ≤ c) (h1 : c ≤ 255) : bits BinOp.xor IntKind.u8 IntKind.u8.max c = 255 - c := by
  rw [show IntKind.u8.max = 255 from rfl, u8_xor 255 c (by omega) (by omega) h0 (by omega)]
  have := xor255 ⟨c.toNat, by omega⟩
  simp only at this
  rw [show (255 : Int).toNat = 255 from rfl, this]
  omega
theorem length_lo (c m : Int) (w : World) (h0 : 0 ≤ c) (h1 : c ≤ 255) (hm : m = 0 ∨ m = 2 ∨ m = 3 ∨ m = 4)
    (hb : 8 - (Lib.bitLen (255 - c).toNat : Int) = m) : Calls Try.prog 69 #[.int .u8 c] w fun e w' => e = .returned (.int .i64 (if m = 0 then 1 else m)) ∧ w = w' := by
  have hl := fun w => Try.bits_LeadingZeros8 (255 - c) w (by omega) (by omega)
  rw [hb] at hl
  clear hb
  have HL := Lib.hid hl; clear hl
  have e1 := u8_not h0 h1
  rcases hm with rfl | rfl | rfl | rfl
  all_goals
    go_enter Try.func69, Try.ntmps69
    go_wp2_with fail
    refine (HL.out _).mono ?_; rintro e w' ⟨rfl, rfl⟩
    go_wp2_with fail
    go_ret
    exact ⟨by simp, rfl⟩

theorem length_hi (c m : Int) (w : World) (h0 : 0 ≤ c) (h1 : c ≤ 255) (hm : m = 1 ∨ 5 ≤ m)
    (hb : 8 - (Lib.bitLen (255 - c).toNat : Int) = m) : Calls Try.prog 69 #[.int .u8 c] w fun e w' => e = .returned (.int .i64 0) ∧ w = w' := by
  have hl := fun w => Try.bits_LeadingZeros8 (255 - c) w (by omega) (by omega)
  rw [hb] at hl
  clear hb
  have HL := Lib.hid hl; clear hl
  have e1 := u8_not h0 h1
  have b1 : (m == 0) = false := by simp; omega
  have b2 : (m == 2) = false := by simp; omega
  have b3 : (m == 3) = false := by simp; omega
  have b4 : (m == 4) = false := by simp; omega
  clear hm
  go_enter Try.func69, Try.ntmps69
  go_wp2_with fail
  refine (HL.out _).mono ?_; rintro e w' ⟨rfl, rfl⟩
  go_wp2_with fail
  go_ret
  exact ⟨rfl, rfl⟩

theorem length_any (c : Int) (w : World) (h0 : 0 ≤ c) (h1 : c < 256) : Calls Try.prog 69 #[.int .u8 c] w fun e w' => e = .returned (.int .i64 (lenI c)) ∧ w = w' := by
  have ha := lz_all ⟨c.toNat, by omega⟩
  simp only at ha
  rw [show 255 - c.toNat = (255 - c).toNat by omega] at ha
  have ht : 248 ≤ c → Lib.bitLen (255 - c).toNat ≤ 3 := fun h => lz_top ⟨(255 - c).toNat, by omega⟩
  rcases (show c < 128 ∨ (128 ≤ c ∧ c < 192) ∨ (192 ≤ c ∧ c < 224) ∨ (224 ≤ c ∧ c < 240) ∨ (240 ≤ c ∧ c < 248) ∨ 248 ≤ c by omega) with h | h | h | h | h | h
  · rw [if_pos (by omega)] at ha
    have := length_lo c 0 w h0 (by omega) (by omega) (by omega)
    rw [show lenI c = 1 by unfold lenI; rw [if_pos (by omega)]]
    exact this
  · rw [if_neg (by omega), if_pos (by omega)] at ha
    rw [show lenI c = 0 by unfold lenI; rw [if_neg (by omega), if_pos (by omega)]]
    exact length_hi c 1 w h0 (by omega) (by omega) (by omega)
  · rw [if_neg (by omega), if_neg (by omega), if_pos (by omega)] at ha
    rw [show lenI c = 2 by unfold lenI; rw [if_neg (by omega), if_neg (by omega), if_pos (by omega)]]
    exact length_lo c 2 w h0 (by omega) (by omega) (by omega)
  · rw [if_neg (by omega), if_neg (by omega), if_neg (by omega), if_pos (by omega)] at ha
    rw [show lenI c = 3 by unfold lenI; rw [if_neg (by omega), if_neg (by omega), if_neg (by omega), if_pos (by omega)]]
    exact length_lo c 3 w h0 (by omega) (by omega) (by omega)
  · rw [if_neg (by omega), if_neg (by omega), if_neg (by omega), if_neg (by omega), if_pos (by omega)] at ha
    rw [show lenI c = 4 by unfold lenI; rw [if_neg (by omega), if_neg (by omega), if_neg (by omega), if_neg (by omega), if_pos (by omega)]]
    exact length_lo c 4 w h0 (by omega) (by omega) (by omega)
  · have h3 := ht h
    rw [show lenI c = 0 by unfold lenI; rw [if_neg (by omega), if_neg (by omega), if_neg (by omega), if_neg (by omega), if_neg (by omega)]]
    exact length_hi c (8 - (Lib.bitLen (255 - c).toNat : Int)) w h0 (by omega) (by omega) rfl
end Go.Proofs.Ytegcebgoiocakaa
/- The contract of gather of package code. -/
namespace Go.Proofs.Ytegcebgoiocakaa
open Go Go.RowKit

/-- What the octets behind the first one say, put behind r. -/
def gat : Int → List Int → Int × Bool
  | r, [] => (r, true)
  | r, c :: t => if 128 ≤ c ∧ c < 192 then gat (r * 64 + (c - 128)) t else (0, false)

/-- What of a first octet's bits is its code point's. -/
def headI (n c : Int) : Int := if n = 1 then c % 128 else if n = 2 then c % 64 else if n = 3 then c % 32 else c % 16

theorem and127 {c : Int} (h0 : 0 ≤ c) (h1 : c < 256) : bits .and .u8 c 127 = c % 128 := bits_mask .u8 8 (by decide) wraps_u8 7 (by decide) c h0 h1

set_option maxHeartbeats 400000 in
theorem gather_1 (b o cap : Nat) (n x : Int) (w : World) (hn : n = 1 ∨ n = 2 ∨ n = 3 ∨ n = 4) (hcap : 1 ≤ cap) (hcm : cap ≤ maxLen) (hx0 : 0 ≤ x) (hx1 : x < 256)
    (hc : w.cell? ⟨b, o, none⟩ = some (.int .u8 x)) :
    Calls Try.prog 70 #[.slice (some ⟨b, o, none⟩) 1 cap, .int .i64 n] w fun e w' => e = .returned (.tuple #[.int .i64 (headI n x), .bool true]) ∧ ∃ q, w' = w.drewN q := by
  have e1 := and127 hx0 hx1
  have e2 := u8_and63 x hx0 hx1
  have e3 := u8_and31 x hx0 hx1
  have e4 := u8_and15 x hx0 hx1
  unfold maxLen at hcm
  by_cases h1 : cap = 1
  · subst h1
    rcases hn with rfl | rfl | rfl | rfl
    all_goals
      go_enter Try.func70, Try.ntmps70
      go_wp2
      go_quiet (fail)
      go_wp2
      go_rounds 1
      go_ret2
      exact ⟨by simp [headI], _, rfl⟩
  · rcases hn with rfl | rfl | rfl | rfl
    all_goals
      go_enter Try.func70, Try.ntmps70
      go_wp2
      go_quiet (fail)
      go_wp2
      go_rounds 1
      go_ret2
      exact ⟨by simp [headI], _, rfl⟩

/-- How great the number can be before round k. -/
def Room (k : Nat) (r : Int) : Prop := 0 ≤ r ∧ (k = 0 → r < 128) ∧ (k = 1 → r < 8192) ∧ (k = 2 → r < 524288) ∧ (k = 3 → r < 33554432)
theorem Room.lt {k : Nat} {r : Int} (h : Room k r) (hk : k ≤ 3) : 0 ≤ r ∧ r < 33554432 := by unfold Room at h; omega
theorem Room.next {k : Nat} {r c : Int} (h : Room k r) (h0 : 0 ≤ c) (h1 : c < 64) (hk : k < 3) : Room (k + 1) (r * 64 + c) := by unfold Room at *; omega
theorem headI_room (n x : Int) : Room 0 (headI n x) := by
  unfold Room headI
  refine ⟨?_, ?_, ?_, ?_, ?_⟩ <;> (split <;> (try split) <;> (try split) <;> omega)

set_option maxHeartbeats 1000000 in
theorem gather_n (b o m cap : Nat) (n x : Int) (t : List Int) (w : World) (hn : n = 1 ∨ n = 2 ∨ n = 3 ∨ n = 4) (hm : m = t.length) (hm1 : 1 ≤ m) (hm3 : m ≤ 3) (hcap : m + 1 ≤ cap) (hcm : cap ≤ maxLen) (hx0 : 0 ≤ x) (hx1 : x < 256)
    (hc : w.cell? ⟨b, o, none⟩ = some (.int .u8 x)) (hct : ∀ j, j < m → w.cell? ⟨b, o + 1 + j, none⟩ = some (.int .u8 (t.getD j 0))) (hby : ∀ c ∈ t, 0 ≤ c ∧ c < 256) :
    Calls Try.prog 70 #[.slice (some ⟨b, o, none⟩) ((m + 1 : Nat) : Nat) cap, .int .i64 n] w fun e w' => e = .returned (.tuple #[.int .i64 (gat (headI n x) t).1, .bool (gat (headI n x) t).2]) ∧ ∃ q, w' = w.drewN q := by
  have e1 := and127 hx0 hx1
  have e2 := u8_and63 x hx0 hx1
  have e3 := u8_and31 x hx0 hx1
  have e4 := u8_and15 x hx0 hx1
  unfold maxLen at hcm
  have hne : ¬ cap = 1 := by omega
  have hroom := headI_room n x
  obtain ⟨h, hh⟩ : ∃ h, h = headI n x := ⟨_, rfl⟩
  rw [← hh] at hroom ⊢
  have HH := Lib.hid hh; clear hh
  have HM := Lib.hid hm; clear hm
  have HR := Lib.hid hroom; clear hroom
  have HT := Lib.hid hct; clear hct
  have HB := Lib.hid hby; clear hby
  rcases hn with rfl | rfl | rfl | rfl
  all_goals
    go_enter Try.func70, Try.ntmps70
    go_wp2
    go_quiet (fail)
    go_wp2
    go_loop [6, 19] (fun vr vi => ∃ (k : Nat) (r : Int), k ≤ m ∧ vi = .int .i64 k ∧ vr = .int .i64 r ∧ Hid (Room k r) ∧ Hid (gat r (t.drop k) = gat h t)) (fun _ vi => m - (intOf vi).toNat)
    case atStart => exact ⟨0, h, Nat.zero_le _, rfl, by rw [HH.out]; simp [headI], HR, Lib.hid (by simp)⟩
    case round =>
      obtain ⟨k, r, hk, rfl, rfl, HK, HG⟩ := hrel
      by_cases hlt : k < m
      · have c1 := HT.out k hlt
        obtain ⟨c, hc'⟩ : ∃ c, c = t.getD k 0 := ⟨_, rfl⟩
        rw [← hc'] at c1
        have hk' : k < t.length := by have := HM.out; omega
        have hg : t[k] = c := by rw [hc']; simp [List.getD, hk']
        have hcr := HB.out c (by rw [← hg]; exact List.getElem_mem hk')
        have hd : t.drop k = c :: t.drop (k + 1) := by rw [← hg]; exact List.drop_eq_getElem_cons hk'
        obtain ⟨hc0, hc1⟩ := hcr
        have hrm := HK.out.lt (by omega)
        obtain ⟨hr0, hr1⟩ := hrm
        have HD := Lib.hid hd
        clear hd hg hc' hk'
        by_cases hcont : 128 ≤ c ∧ c < 192
        · have hq : (c / 64 != 2) = false := by rw [bne_eq_false_iff_eq]; omega
          have e6 := u8_and63 c hc0 hc1
          have e7 := i64_or6 (x := r * 64) (y := c % 64) (by omega) (by omega) (by omega) (by omega) (by omega)
          have e8 : 0 ≤ c % 64 := by omega
          have e9 : c % 64 < 64 := by omega
          have HN := Lib.hid (HK.out.next e8 e9 (by omega))
          have HC := Lib.hid hcont; clear hcont
          go_wp2
          go_round
          case rel =>
            refine ⟨k + 1, r * 64 + c % 64, by omega, by go_num, rfl, HN, Lib.hid ?_⟩
            rw [← HG.out, HD.out, gat, if_pos HC.out, show c - 128 = c % 64 by have := HC.out; omega]
          case measure => simp [intOf]; omega
        · have hq : (c / 64 != 2) = true := by rw [bne_iff_ne]; omega
          have HC := Lib.hid hcont; clear hcont
          go_wp2
          go_ret2
          exact ⟨by rw [← HG.out, HD.out, gat, if_neg HC.out]; rfl, _, rfl⟩
      · go_wp2
        go_ret2
        exact ⟨by rw [← HG.out, List.drop_eq_nil_of_le (by have := HM.out; omega)]; simp [gat], _, rfl⟩
end Go.Proofs.Ytegcebgoiocakaa
/- The contract of Get of package code. -/
namespace Go.Proofs.Ytegcebgoiocakaa
open Go Go.RowKit

/-- What Get gives, of octets as numbers. -/
def getI : List Int → Int × Int
  | [] => (65533, 0)
  | x :: t => if lenI x = 0 ∨ (t.length : Int) + 1 < lenI x then (65533, 1) else
    if (gat (headI (lenI x) x) (t.take ((lenI x).toNat - 1))).2 = true ∧ szI (gat (headI (lenI x) x) (t.take ((lenI x).toNat - 1))).1 = lenI x
      then ((gat (headI (lenI x) x) (t.take ((lenI x).toNat - 1))).1, lenI x) else (65533, 1)

theorem get_nil (A : Option Addr) (cap : Nat) (w : World) : Calls Try.prog 38 #[.slice A 0 cap] w fun e w' => e = .returned (.tuple #[.int .i64 65533, .int .i64 0]) ∧ ∃ q, w' = w.drewN q := by
  go_enter Try.func38, Try.ntmps38
  go_wp2
  go_ret2
  exact ⟨rfl, 0, rfl⟩

theorem get_fail (b o m cap : Nat) (x n : Int) (w : World) (hm : (m : Int) ≤ 4611686018427387904) (hc : w.cell? ⟨b, o, none⟩ = some (.int .u8 x)) (hn : n = 0 ∨ (m : Int) + 1 < n)
    (hl : ∀ w, Calls Try.prog 69 #[.int .u8 x] w fun e w' => e = .returned (.int .i64 n) ∧ w = w') :
    Calls Try.prog 38 #[.slice (some ⟨b, o, none⟩) ((m + 1 : Nat) : Nat) cap] w fun e w' => e = .returned (.tuple #[.int .i64 65533, .int .i64 1]) ∧ ∃ q, w' = w.drewN q := by
  have HL := Lib.hid hl; clear hl
  have hz : (((m + 1 : Nat) : Int) == 0) = false := by simp; omega
  by_cases h0 : n = 0
  · subst h0
    go_enter Try.func38, Try.ntmps38
    go_wp2_with fail
    refine (HL.out _).mono ?_; rintro e w' ⟨rfl, rfl⟩
    go_wp2_with fail
    go_ret2
    exact ⟨rfl, 0, rfl⟩
  · have hb : (n == 0) = false := by simp; omega
    have hg : (m : Int) + 1 < n := by omega
    clear h0 hn
    go_enter Try.func38, Try.ntmps38
    go_wp2_with fail
    refine (HL.out _).mono ?_; rintro e w' ⟨rfl, rfl⟩
    go_wp2_with fail
    go_ret2
    exact ⟨rfl, 0, rfl⟩

theorem get_bad (b o m cap : Nat) (x n r : Int) (w : World) (hm : (m : Int) ≤ 4611686018427387904) (hcap : m + 1 ≤ cap) (hc : w.cell? ⟨b, o, none⟩ = some (.int .u8 x)) (hn : n = 1 ∨ n = 2 ∨ n = 3 ∨ n = 4) (hnm : n ≤ (m : Int) + 1)
    (hl : ∀ w, Calls Try.prog 69 #[.int .u8 x] w fun e w' => e = .returned (.int .i64 n) ∧ w = w')
    (hg : Calls Try.prog 70 #[.slice (some ⟨b, o, none⟩) n.toNat cap, .int .i64 n] w fun e w' => e = .returned (.tuple #[.int .i64 r, .bool false]) ∧ ∃ q, w' = w.drewN q) :
    Calls Try.prog 38 #[.slice (some ⟨b, o, none⟩) ((m + 1 : Nat) : Nat) cap] w fun e w' => e = .returned (.tuple #[.int .i64 65533, .int .i64 1]) ∧ ∃ q, w' = w.drewN q := by
  have HL := Lib.hid hl; clear hl
  have HG := Lib.hid hg; clear hg
  have hz : (((m + 1 : Nat) : Int) == 0) = false := by simp; omega
  have hnb : decide ((m : Int) + 1 < n) = false := by simp; omega
  rcases hn with rfl | rfl | rfl | rfl
  all_goals
    go_enter Try.func38, Try.ntmps38
    go_wp2_with fail
    refine (HL.out _).mono ?_; rintro e w' ⟨rfl, rfl⟩
    go_wp2_with fail
    refine HG.out.mono ?_; rintro e w' ⟨rfl, q, rfl⟩
    go_wp2_with fail
    go_ret2
    exact ⟨rfl, q, rfl⟩

theorem get_odd (b o m cap : Nat) (x n r : Int) (z : Int) (w : World) (hm : (m : Int) ≤ 4611686018427387904) (hcap : m + 1 ≤ cap) (hc : w.cell? ⟨b, o, none⟩ = some (.int .u8 x)) (hn : n = 1 ∨ n = 2 ∨ n = 3 ∨ n = 4) (hnm : n ≤ (m : Int) + 1)
    (hl : ∀ w, Calls Try.prog 69 #[.int .u8 x] w fun e w' => e = .returned (.int .i64 n) ∧ w = w')
    (hg : Calls Try.prog 70 #[.slice (some ⟨b, o, none⟩) n.toNat cap, .int .i64 n] w fun e w' => e = .returned (.tuple #[.int .i64 r, .bool true]) ∧ ∃ q, w' = w.drewN q)
    (hs : ∀ w, Calls Try.prog 71 #[.int .i64 r] w fun e w' => e = .returned (.int .i64 z) ∧ w = w') (hzn : ¬ z = n) :
    Calls Try.prog 38 #[.slice (some ⟨b, o, none⟩) ((m + 1 : Nat) : Nat) cap] w fun e w' => e = .returned (.tuple #[.int .i64 65533, .int .i64 1]) ∧ ∃ q, w' = w.drewN q := by
  have HL := Lib.hid hl; clear hl
  have HG := Lib.hid hg; clear hg
  have hz : (((m + 1 : Nat) : Int) == 0) = false := by simp; omega
  have hnb : decide ((m : Int) + 1 < n) = false := by simp; omega
  have HS := Lib.hid hs; clear hs
  have hzz : (z != n) = true := by simpa using hzn
  clear hzn
  rcases hn with rfl | rfl | rfl | rfl
  all_goals
    go_enter Try.func38, Try.ntmps38
    go_wp2_with fail
    refine (HL.out _).mono ?_; rintro e w' ⟨rfl, rfl⟩
    go_wp2_with fail
    refine HG.out.mono ?_; rintro e w' ⟨rfl, q, rfl⟩
    go_wp2_with fail
    refine (HS.out _).mono ?_; rintro e w' ⟨rfl, rfl⟩
    go_wp2_with fail
    go_ret2
    exact ⟨rfl, q, rfl⟩

theorem get_good (b o m cap : Nat) (x n r : Int) (w : World) (hm : (m : Int) ≤ 4611686018427387904) (hcap : m + 1 ≤ cap) (hc : w.cell? ⟨b, o, none⟩ = some (.int .u8 x)) (hn : n = 1 ∨ n = 2 ∨ n = 3 ∨ n = 4) (hnm : n ≤ (m : Int) + 1)
    (hl : ∀ w, Calls Try.prog 69 #[.int .u8 x] w fun e w' => e = .returned (.int .i64 n) ∧ w = w')
    (hg : Calls Try.prog 70 #[.slice (some ⟨b, o, none⟩) n.toNat cap, .int .i64 n] w fun e w' => e = .returned (.tuple #[.int .i64 r, .bool true]) ∧ ∃ q, w' = w.drewN q)
    (hs : ∀ w, Calls Try.prog 71 #[.int .i64 r] w fun e w' => e = .returned (.int .i64 n) ∧ w = w') :
    Calls Try.prog 38 #[.slice (some ⟨b, o, none⟩) ((m + 1 : Nat) : Nat) cap] w fun e w' => e = .returned (.tuple #[.int .i64 r, .int .i64 n]) ∧ ∃ q, w' = w.drewN q := by
  have HL := Lib.hid hl; clear hl
  have HG := Lib.hid hg; clear hg
  have hz : (((m + 1 : Nat) : Int) == 0) = false := by simp; omega
  have hnb : decide ((m : Int) + 1 < n) = false := by simp; omega
  have HS := Lib.hid hs; clear hs
  have hzz : (n != n) = false := by simp
  rcases hn with rfl | rfl | rfl | rfl
  all_goals
    go_enter Try.func38, Try.ntmps38
    go_wp2_with fail
    refine (HL.out _).mono ?_; rintro e w' ⟨rfl, rfl⟩
    go_wp2_with fail
    refine HG.out.mono ?_; rintro e w' ⟨rfl, q, rfl⟩
    go_wp2_with fail
    refine (HS.out _).mono ?_; rintro e w' ⟨rfl, rfl⟩
    go_wp2_with fail
    go_ret2
    exact ⟨rfl, q, rfl⟩

theorem lenI_or (x : Int) : lenI x = 0 ∨ lenI x = 1 ∨ lenI x = 2 ∨ lenI x = 3 ∨ lenI x = 4 := by
  unfold lenI; (repeat' split) <;> omega

/-- WHAT Get GIVES, of octets that read as a list. -/
theorem get_any (A : Option Addr) (len cap : Nat) (l : List Int) (w : World) (hr : RowI .u8 w A len l) (hby : ∀ c ∈ l, 0 ≤ c ∧ c < 256) (hcap : len ≤ cap) (hcm : cap ≤ maxLen) (hlen : (len : Int) ≤ 4611686018427387904) :
    Calls Try.prog 38 #[.slice A len cap] w fun e w' => e = .returned (.tuple #[.int .i64 (getI l).1, .int .i64 (getI l).2]) ∧ ∃ q, w' = w.drewN q := by
  obtain ⟨hl, hc⟩ := hr
  rcases l with _ | ⟨x, t⟩
  · obtain rfl : len = 0 := hl.symm
    exact get_nil A cap w
  · obtain rfl : len = t.length + 1 := by simpa using hl.symm
    obtain ⟨b, o, rfl, _, hcell⟩ := hc (by omega)
    have hx := hby x (by simp)
    have hc0 : w.cell? ⟨b, o, none⟩ = some (.int .u8 x) := by simpa using hcell 0 (by omega)
    have hl := fun w => length_any x w hx.1 hx.2
    have hor := lenI_or x
    have hgd : getI (x :: t) = if lenI x = 0 ∨ (t.length : Int) + 1 < lenI x then (65533, 1) else
      if (gat (headI (lenI x) x) (t.take ((lenI x).toNat - 1))).2 = true ∧ szI (gat (headI (lenI x) x) (t.take ((lenI x).toNat - 1))).1 = lenI x
      then ((gat (headI (lenI x) x) (t.take ((lenI x).toNat - 1))).1, lenI x) else (65533, 1) := rfl
    rw [hgd]
    generalize lenI x = n at *
    clear hgd
    by_cases hf : n = 0 ∨ (t.length : Int) + 1 < n
    · rw [if_pos hf]
      exact get_fail b o t.length cap x n w (by omega) hc0 hf hl
    · rw [if_neg hf]
      have hn : n = 1 ∨ n = 2 ∨ n = 3 ∨ n = 4 := by omega
      have hg : Calls Try.prog 70 #[.slice (some ⟨b, o, none⟩) n.toNat cap, .int .i64 n] w fun e w' =>
          e = .returned (.tuple #[.int .i64 (gat (headI n x) (t.take (n.toNat - 1))).1, .bool (gat (headI n x) (t.take (n.toNat - 1))).2]) ∧ ∃ q, w' = w.drewN q := by
        by_cases h1 : n = 1
        · subst h1
          have := gather_1 b o cap 1 x w (by omega) (by omega) hcm hx.1 hx.2 hc0
          simpa [gat] using this
        · have hnt : n.toNat = (n.toNat - 1) + 1 := by omega
          rw [hnt]
          exact gather_n b o (n.toNat - 1) cap n x (t.take (n.toNat - 1)) w hn (by simp; omega) (by omega) (by omega) (by omega) hcm hx.1 hx.2 hc0 (fun j hj => by
            have := hcell (j + 1) (by omega)
            rw [show o + 1 + j = o + (j + 1) by omega, this]
            simp [List.getD, hj]) (fun c hc => hby c (List.mem_cons_of_mem _ (List.mem_of_mem_take hc)))
      generalize gat (headI n x) (t.take (n.toNat - 1)) = g at *
      obtain ⟨r, ok⟩ := g
      cases ok
      · simp only [Bool.false_eq_true, false_and, if_false]
        exact get_bad b o t.length cap x n r w (by omega) hcap hc0 hn (by omega) hl hg
      · by_cases hz : szI r = n
        · simp only [hz, and_self, if_true]
          exact get_good b o t.length cap x n r w (by omega) hcap hc0 hn (by omega) hl hg (fun w => hz ▸ size_any r w)
        · simp only [hz, and_false, if_false]
          exact get_odd b o t.length cap x n r (szI r) w (by omega) hcap hc0 hn (by omega) hl hg (fun w => size_any r w) hz
end Go.Proofs.Ytegcebgoiocakaa
/- The contract of the document's own value. -/
namespace Go.Proofs.Ytegcebgoiocakaa
open Go Go.RowKit

/-- What of a first octet counts. -/
def vheadI (c : Int) : Int := if 240 ≤ c then c - 240 else if 224 ≤ c then c - 224 else if 192 ≤ c then c - 192 else c
/-- .. and the octets behind it. -/
def vtailI : Int → List Int → Int
  | r, [] => r
  | r, c :: t => vtailI (r * 64 + (c + 128) % 256) t
def valI : List Int → Int
  | [] => 0
  | c :: t => vtailI (vheadI c) t

def VRoom (k : Nat) (r : Int) : Prop := 0 ≤ r ∧ (k = 1 → r < 256) ∧ (k = 2 → r < 16640) ∧ (k = 3 → r < 1065216) ∧ (k = 4 → r < 68174080)
theorem VRoom.lt {k : Nat} {r : Int} (h : VRoom k r) (hk1 : 1 ≤ k) (hk : k ≤ 4) : 0 ≤ r ∧ r < 68174080 := by unfold VRoom at h; omega
theorem VRoom.next {k : Nat} {r c : Int} (h : VRoom k r) (h0 : 0 ≤ c) (h1 : c < 256) (hk1 : 1 ≤ k) (hk : k < 4) : VRoom (k + 1) (r * 64 + c) := by unfold VRoom at *; omega

theorem getD_behind {c : Int} {t : List Int} {k : Nat} (hk1 : 1 ≤ k) (h : k - 1 < t.length) : (c :: t).getD k 0 = t[k - 1] := by
  obtain ⟨j, rfl⟩ : ∃ j, k = j + 1 := ⟨k - 1, by omega⟩
  have h' : j < t.length := by omega
  simp [List.getD, h']
set_option maxHeartbeats 1000000 in
theorem value_any (s : ByteArray) (w : World) (h1 : 1 ≤ s.size) (h4 : s.size ≤ 4) :
    Calls Try.prog 39 #[.string s] w fun e w' => e = .returned (.int .i64 (valI (nums s))) ∧ w = w' := by
  have hnl := nums_length s
  have hby := nums_byte s
  obtain ⟨c, t, hct⟩ : ∃ c t, nums s = c :: t := by
    cases hq : nums s with
    | nil => rw [hq] at hnl; simp at hnl; omega
    | cons c t => exact ⟨c, t, rfl⟩
  rw [hct] at hnl hby ⊢
  have hcb := hby c (by simp)
  obtain ⟨hc0, hcl⟩ := hcb
  have hidx : ∀ k : Nat, k < s.size → ∀ w, (Instr.index 9 (.string s) (.int .i64 (k : Int))).run Try.prog w = .ok (.int .u8 ((c :: t).getD k 0)) w := fun k hk w => by rw [idx_at s k hk w, hct]
  have hi0 := hidx 0 (by omega)
  simp at hi0
  have HI := Lib.hid hidx; clear hidx
  have HB := Lib.hid hby; clear hby
  have HN := Lib.hid hnl; clear hnl
  clear hct
  rw [show valI (c :: t) = vtailI (vheadI c) t from rfl]
  have hroom : VRoom 1 (vheadI c) := by unfold VRoom vheadI; (repeat' split) <;> omega
  have HR := Lib.hid hroom; clear hroom
  obtain ⟨h, hh'⟩ : ∃ h, h = vheadI c := ⟨_, rfl⟩
  rw [← hh'] at HR ⊢
  have HH := Lib.hid hh'; clear hh'
  rcases (show c < 192 ∨ (192 ≤ c ∧ c < 224) ∨ (224 ≤ c ∧ c < 240) ∨ 240 ≤ c by omega) with hh | ⟨hh, hh2⟩ | ⟨hh, hh2⟩ | hh
  all_goals
    go_enter Try.func39, Try.ntmps39
    go_wp2
    go_loop [4, 5] (fun vr vi => ∃ (k : Nat) (r : Int), 1 ≤ k ∧ k ≤ s.size ∧ vi = .int .i64 k ∧ vr = .int .i64 r ∧ Hid (VRoom k r) ∧ Hid (vtailI r (t.drop (k - 1)) = vtailI h t)) (fun _ vi => s.size - (intOf vi).toNat)
    case atStart => exact ⟨1, h, by omega, h1, rfl, by rw [HH.out]; unfold vheadI; (repeat' split) <;> first | rfl | omega, HR, Lib.hid (by simp)⟩
    case round =>
      obtain ⟨k, r, hk1, hk, rfl, rfl, HK, HG⟩ := hrel
      by_cases hlt : k < s.size
      · have hk' : k - 1 < t.length := by have := HN.out; simp at this; omega
        obtain ⟨x, hx⟩ : ∃ x, x = t[k - 1] := ⟨_, rfl⟩
        have hcr := HB.out x (by rw [hx]; exact List.mem_cons_of_mem _ (List.getElem_mem hk'))
        have hd : t.drop (k - 1) = x :: t.drop (k + 1 - 1) := by
          rw [List.drop_eq_getElem_cons hk', hx, show k - 1 + 1 = k + 1 - 1 by omega]
        have c1 : ∀ w, (Instr.index 9 (.string s) (.int .i64 (k : Int))).run Try.prog w = .ok (.int .u8 x) w := by
          intro w
          have hgx : (c :: t).getD k 0 = x := by rw [hx]; exact getD_behind hk1 hk'
          rw [HI.out k hlt w, hgx]
        obtain ⟨hx0, hx1⟩ := hcr
        obtain ⟨hr0, hr1⟩ := HK.out.lt hk1 (by omega)
        have HD := Lib.hid hd
        clear hd hx hk'
        have hxm0 : 0 ≤ (x + 128) % 256 := by omega
        have hxm1 : (x + 128) % 256 < 256 := by omega
        have HM := Lib.hid (HK.out.next hxm0 hxm1 hk1 (by omega))
        go_wp2
        go_round
        case rel =>
          refine ⟨k + 1, r * 64 + (x + 128) % 256, by omega, by omega, by go_num, rfl, HM, Lib.hid ?_⟩
          rw [← HG.out, HD.out, vtailI]
        case measure => simp [intOf]; omega
      · go_wp2
        go_ret
        refine ⟨?_, rfl⟩
        rw [← HG.out, List.drop_eq_nil_of_le (by have := HN.out; simp at this; omega)]
        rfl
end Go.Proofs.Ytegcebgoiocakaa
/- Contracts of the document's own Put. -/
namespace Go.Proofs.Ytegcebgoiocakaa
open Go Go.RowKit

theorem str1 (g : Nat) (x : Int) (w : World) (hg : g = w.heap.size) : (convert 80 9 (.slice (some ⟨g, 0, none⟩) 1 1)).run Try.prog (w.alloc (.cells #[.int .u8 x] 5)) = .ok (.string (strOfNums [x])) (w.alloc (.cells #[.int .u8 x] 5)) := by
  subst hg
  exact run_convert_bytes_arg (P := Try.prog) _ 80 5 Try.underlying80 Try.underlying5 w.heap.size 0 1 1 [x] rfl (fun i hi => by
    obtain rfl : i = 0 := by omega
    simp) 9 Try.underlying9

theorem refPut1 (r : Int) (w : World) (h0 : 0 ≤ r) (h1 : r < 128)
    (hc : ∀ w, Calls Try.prog 40 #[.int .i64 r] w fun e w' => e = .returned (.bool true) ∧ w = w')
    (hz : ∀ w, Calls Try.prog 72 #[.int .i64 r] w fun e w' => e = .returned (.int .i64 1) ∧ w = w') :
    Calls Try.prog 41 #[.int .i64 r] w fun e w' => e = .returned (.string (strOfNums [r])) ∧ Below w.heap.size w w' := by
  have HC := Lib.hid hc; clear hc
  have HZ := Lib.hid hz; clear hz
  have hst := str1
  go_enter Try.func41, Try.ntmps41
  go_wp2_with fail
  refine (HC.out _).mono ?_; rintro e w' ⟨rfl, rfl⟩
  go_wp2_with fail
  refine (HZ.out _).mono ?_; rintro e w' ⟨rfl, rfl⟩
  go_wp2_with fail
  go_ret
  exact ⟨rfl, by go_grown⟩

theorem refPut2 (r : Int) (w : World) (h0 : 128 ≤ r) (h1 : r < 2048)
    (hc : ∀ w, Calls Try.prog 40 #[.int .i64 r] w fun e w' => e = .returned (.bool true) ∧ w = w')
    (hz : ∀ w, Calls Try.prog 72 #[.int .i64 r] w fun e w' => e = .returned (.int .i64 2) ∧ w = w') :
    Calls Try.prog 41 #[.int .i64 r] w fun e w' => e = .returned (.string (strOfNums [192 + r / 64, 128 + r % 64])) ∧ Below w.heap.size w w' := by
  have HC := Lib.hid hc; clear hc
  have HZ := Lib.hid hz; clear hz
  have hst := str1
  go_enter Try.func41, Try.ntmps41
  go_wp2_with fail
  refine (HC.out _).mono ?_; rintro e w' ⟨rfl, rfl⟩
  go_wp2_with fail
  refine (HZ.out _).mono ?_; rintro e w' ⟨rfl, rfl⟩
  go_wp2_with fail
  go_rounds 3
  go_ret
  exact ⟨rfl, by go_grown⟩

theorem refPut3 (r : Int) (w : World) (h0 : 2048 ≤ r) (h1 : r < 65536)
    (hc : ∀ w, Calls Try.prog 40 #[.int .i64 r] w fun e w' => e = .returned (.bool true) ∧ w = w')
    (hz : ∀ w, Calls Try.prog 72 #[.int .i64 r] w fun e w' => e = .returned (.int .i64 3) ∧ w = w') :
    Calls Try.prog 41 #[.int .i64 r] w fun e w' => e = .returned (.string (strOfNums [224 + r / 4096, 128 + r / 64 % 64, 128 + r % 64])) ∧ Below w.heap.size w w' := by
  have HC := Lib.hid hc; clear hc
  have HZ := Lib.hid hz; clear hz
  have hst := str1
  go_enter Try.func41, Try.ntmps41
  go_wp2_with fail
  refine (HC.out _).mono ?_; rintro e w' ⟨rfl, rfl⟩
  go_wp2_with fail
  refine (HZ.out _).mono ?_; rintro e w' ⟨rfl, rfl⟩
  go_wp2_with fail
  go_rounds 4
  go_ret
  exact ⟨by rw [show r / 4096 = r / 64 / 64 by omega]; rfl, by go_grown⟩

theorem refPut4 (r : Int) (w : World) (h0 : 65536 ≤ r) (h1 : r ≤ 1114111)
    (hc : ∀ w, Calls Try.prog 40 #[.int .i64 r] w fun e w' => e = .returned (.bool true) ∧ w = w')
    (hz : ∀ w, Calls Try.prog 72 #[.int .i64 r] w fun e w' => e = .returned (.int .i64 4) ∧ w = w') :
    Calls Try.prog 41 #[.int .i64 r] w fun e w' => e = .returned (.string (strOfNums [240 + r / 262144, 128 + r / 4096 % 64, 128 + r / 64 % 64, 128 + r % 64])) ∧ Below w.heap.size w w' := by
  have HC := Lib.hid hc; clear hc
  have HZ := Lib.hid hz; clear hz
  have hst := str1
  go_enter Try.func41, Try.ntmps41
  go_wp2_with fail
  refine (HC.out _).mono ?_; rintro e w' ⟨rfl, rfl⟩
  go_wp2_with fail
  refine (HZ.out _).mono ?_; rintro e w' ⟨rfl, rfl⟩
  go_wp2_with fail
  go_rounds 5
  go_ret
  exact ⟨by rw [show r / 262144 = r / 64 / 64 / 64 by omega, show r / 4096 = r / 64 / 64 by omega]; rfl, by go_grown⟩

theorem refPut_is (r : Int) (w : World) (hs : isI r = true) : Calls Try.prog 41 #[.int .i64 r] w fun e w' => e = .returned (.string (strOfNums (putI r))) ∧ Below w.heap.size w w' := by
  have hc := fun w => refIs_any r w
  have hz := fun w => refSize_any r w
  rw [hs] at hc
  have h0 := isI_cases hs
  rcases (show r < 128 ∨ (128 ≤ r ∧ r < 2048) ∨ (2048 ≤ r ∧ r < 65536) ∨ 65536 ≤ r by omega) with h1 | ⟨h1, h2⟩ | ⟨h1, h2⟩ | h1
  · have ez : szI r = 1 := by simp [szI, hs]; omega
    have e : putI r = [r] := by unfold putI; rw [if_pos h1]
    rw [ez] at hz; rw [e]
    exact refPut1 r w h0.1 h1 hc hz
  · have ez : szI r = 2 := by simp [szI, hs]; omega
    have e : putI r = [192 + r / 64, 128 + r % 64] := by unfold putI; rw [if_neg (by omega), if_pos h2]
    rw [ez] at hz; rw [e]
    exact refPut2 r w h1 h2 hc hz
  · have ez : szI r = 3 := by simp [szI, hs]; omega
    have e : putI r = [224 + r / 4096, 128 + r / 64 % 64, 128 + r % 64] := by unfold putI; rw [if_neg (by omega), if_neg (by omega), if_pos h2]
    rw [ez] at hz; rw [e]
    exact refPut3 r w h1 h2 hc hz
  · have ez : szI r = 4 := by simp [szI, hs]; omega
    have e : putI r = [240 + r / 262144, 128 + r / 4096 % 64, 128 + r / 64 % 64, 128 + r % 64] := by unfold putI; rw [if_neg (by omega), if_neg (by omega), if_neg (by omega)]
    rw [ez] at hz; rw [e]
    exact refPut4 r w h1 h0.2 hc hz

theorem refPut_no (r : Int) (w : World) (hs : isI r = false) : Calls Try.prog 41 #[.int .i64 r] w fun e w' => e = .returned (.string (strOfNums (putI 65533))) ∧ Below w.heap.size w w' := by
  have hc := fun w => refIs_any r w
  have hz := fun w => refSize_any 65533 w
  rw [hs] at hc
  rw [show szI 65533 = 3 by decide] at hz
  rw [show putI 65533 = [239, 191, 189] by decide]
  clear hs
  have HC := Lib.hid hc; clear hc
  have HZ := Lib.hid hz; clear hz
  have hst := str1
  go_enter Try.func41, Try.ntmps41
  go_wp2_with fail
  refine (HC.out _).mono ?_; rintro e w' ⟨rfl, rfl⟩
  go_wp2_with fail
  refine (HZ.out _).mono ?_; rintro e w' ⟨rfl, rfl⟩
  go_wp2_with fail
  go_rounds 4
  go_ret
  exact ⟨rfl, by go_grown⟩

/-- WHAT THE DOCUMENT's Put GIVES. -/
theorem refPut_any (r : Int) (w : World) : Calls Try.prog 41 #[.int .i64 r] w fun e w' => e = .returned (.string (strOfNums (putI (sndI r)))) ∧ Below w.heap.size w w' := by
  rcases hb : isI r with _ | _
  · rw [show sndI r = 65533 by simp [sndI, hb]]
    exact refPut_no r w hb
  · rw [show sndI r = r by simp [sndI, hb]]
    exact refPut_is r w hb
end Go.Proofs.Ytegcebgoiocakaa
