/- The contract of gather of package code. -/
import Derived.Test.YtoojfjealncddaaDoorGet
namespace Go.Proofs.YtoojfjealncddaaDoor
open Go Go.RowKit

/-- What the octets behind the first one say, put behind r. -/
def gat : Int → List Int → Int × Bool
  | r, [] => (r, true)
  | r, c :: t => if 128 ≤ c ∧ c < 192 then gat (r * 64 + (c - 128)) t else (0, false)

/-- What of a first octet's bits is its code point's. -/
def headI (n c : Int) : Int := if n = 1 then c % 128 else if n = 2 then c % 64 else if n = 3 then c % 32 else c % 16

theorem and127 {c : Int} (h0 : 0 ≤ c) (h1 : c < 256) : bits .and .u8 c 127 = c % 128 := bits_mask .u8 8 (by decide) wraps_u8 7 (by decide) c h0 h1

set_option maxHeartbeats 400000 in
theorem gather_1 (b o cap : Nat) (n x : Int) (w : World) (hn : n = 1 ∨ n = 2 ∨ n = 3 ∨ n = 4) (hcap : 1 ≤ cap) (hcm : cap ≤ maxLen) (hx0 : 0 ≤ x) (hx1 : x < 256)
    (hc : w.cell? ⟨b, o, none⟩ = some (.int .u8 x)) :
    Calls Tryd.prog 50 #[.slice (some ⟨b, o, none⟩) 1 cap, .int .i64 n] w fun e w' => e = .returned (.tuple #[.int .i64 (headI n x), .bool true]) ∧ ∃ q, w' = w.drewN q := by
  have e1 := and127 hx0 hx1
  have e2 := u8_and63 x hx0 hx1
  have e3 := u8_and31 x hx0 hx1
  have e4 := u8_and15 x hx0 hx1
  unfold maxLen at hcm
  by_cases h1 : cap = 1
  · subst h1
    rcases hn with rfl | rfl | rfl | rfl
    all_goals
      go_enter Tryd.func50, Tryd.ntmps50
      go_wp2
      go_quiet (fail)
      go_wp2
      go_rounds 1
      go_ret2
      exact ⟨by simp [headI], _, rfl⟩
  · rcases hn with rfl | rfl | rfl | rfl
    all_goals
      go_enter Tryd.func50, Tryd.ntmps50
      go_wp2
      go_quiet (fail)
      go_wp2
      go_rounds 1
      go_ret2
      exact ⟨by simp [headI], _, rfl⟩

/-- How great the number can be before round k. -/
def Room (k : Nat) (r : Int) : Prop := 0 ≤ r ∧ (k = 0 → r < 128) ∧ (k = 1 → r < 8192) ∧ (k = 2 → r < 524288) ∧ (k = 3 → r < 33554432)
theorem Room.lt {k : Nat} {r : Int} (h : Room k r) (hk : k ≤ 3) : 0 ≤ r ∧ r < 33554432 := by unfold Room at h; omega
theorem Room.next {k : Nat} {r c : Int} (h : Room k r) (h0 : 0 ≤ c) (h1 : c < 64) (hk : k < 3) : Room (k + 1) (r * 64 + c) := by unfold Room at *; omega
theorem headI_room (n x : Int) : Room 0 (headI n x) := by
  unfold Room headI
  refine ⟨?_, ?_, ?_, ?_, ?_⟩ <;> (split <;> (try split) <;> (try split) <;> omega)

set_option maxHeartbeats 1000000 in
theorem gather_n (b o m cap : Nat) (n x : Int) (t : List Int) (w : World) (hn : n = 1 ∨ n = 2 ∨ n = 3 ∨ n = 4) (hm : m = t.length) (hm1 : 1 ≤ m) (hm3 : m ≤ 3) (hcap : m + 1 ≤ cap) (hcm : cap ≤ maxLen) (hx0 : 0 ≤ x) (hx1 : x < 256)
    (hc : w.cell? ⟨b, o, none⟩ = some (.int .u8 x)) (hct : ∀ j, j < m → w.cell? ⟨b, o + 1 + j, none⟩ = some (.int .u8 (t.getD j 0))) (hby : ∀ c ∈ t, 0 ≤ c ∧ c < 256) :
    Calls Tryd.prog 50 #[.slice (some ⟨b, o, none⟩) ((m + 1 : Nat) : Nat) cap, .int .i64 n] w fun e w' => e = .returned (.tuple #[.int .i64 (gat (headI n x) t).1, .bool (gat (headI n x) t).2]) ∧ ∃ q, w' = w.drewN q := by
  have e1 := and127 hx0 hx1
  have e2 := u8_and63 x hx0 hx1
  have e3 := u8_and31 x hx0 hx1
  have e4 := u8_and15 x hx0 hx1
  unfold maxLen at hcm
  have hne : ¬ cap = 1 := by omega
  have hroom := headI_room n x
  obtain ⟨h, hh⟩ : ∃ h, h = headI n x := ⟨_, rfl⟩
  rw [← hh] at hroom ⊢
  have HH := Lib.hid hh; clear hh
  have HM := Lib.hid hm; clear hm
  have HR := Lib.hid hroom; clear hroom
  have HT := Lib.hid hct; clear hct
  have HB := Lib.hid hby; clear hby
  rcases hn with rfl | rfl | rfl | rfl
  all_goals
    go_enter Tryd.func50, Tryd.ntmps50
    go_wp2
    go_quiet (fail)
    go_wp2
    go_loop [6, 19] (fun vr vi => ∃ (k : Nat) (r : Int), k ≤ m ∧ vi = .int .i64 k ∧ vr = .int .i64 r ∧ Hid (Room k r) ∧ Hid (gat r (t.drop k) = gat h t)) (fun _ vi => m - (intOf vi).toNat)
    case atStart => exact ⟨0, h, Nat.zero_le _, rfl, by rw [HH.out]; simp [headI], HR, Lib.hid (by simp)⟩
    case round =>
      obtain ⟨k, r, hk, rfl, rfl, HK, HG⟩ := hrel
      by_cases hlt : k < m
      · have c1 := HT.out k hlt
        obtain ⟨c, hc'⟩ : ∃ c, c = t.getD k 0 := ⟨_, rfl⟩
        rw [← hc'] at c1
        have hk' : k < t.length := by have := HM.out; omega
        have hg : t[k] = c := by rw [hc']; simp [List.getD, hk']
        have hcr := HB.out c (by rw [← hg]; exact List.getElem_mem hk')
        have hd : t.drop k = c :: t.drop (k + 1) := by rw [← hg]; exact List.drop_eq_getElem_cons hk'
        obtain ⟨hc0, hc1⟩ := hcr
        have hrm := HK.out.lt (by omega)
        obtain ⟨hr0, hr1⟩ := hrm
        have HD := Lib.hid hd
        clear hd hg hc' hk'
        by_cases hcont : 128 ≤ c ∧ c < 192
        · have hq : (c / 64 != 2) = false := by rw [bne_eq_false_iff_eq]; omega
          have e6 := u8_and63 c hc0 hc1
          have e7 := i64_or6 (x := r * 64) (y := c % 64) (by omega) (by omega) (by omega) (by omega) (by omega)
          have e8 : 0 ≤ c % 64 := by omega
          have e9 : c % 64 < 64 := by omega
          have HN := Lib.hid (HK.out.next e8 e9 (by omega))
          have HC := Lib.hid hcont; clear hcont
          go_wp2
          go_round
          case rel =>
            refine ⟨k + 1, r * 64 + c % 64, by omega, by go_num, rfl, HN, Lib.hid ?_⟩
            rw [← HG.out, HD.out, gat, if_pos HC.out, show c - 128 = c % 64 by have := HC.out; omega]
          case measure => simp [intOf]; omega
        · have hq : (c / 64 != 2) = true := by rw [bne_iff_ne]; omega
          have HC := Lib.hid hcont; clear hcont
          go_wp2
          go_ret2
          exact ⟨by rw [← HG.out, HD.out, gat, if_neg HC.out]; rfl, _, rfl⟩
      · go_wp2
        go_ret2
        exact ⟨by rw [← HG.out, List.drop_eq_nil_of_le (by have := HM.out; omega)]; simp [gat], _, rfl⟩
end Go.Proofs.YtoojfjealncddaaDoor
