/- The contract of gather of package code. -/
import Derived.Test.YtegcebgoiocakaaDoorA01
import Derived.Test.YtegcebgoiocakaaDoorA02
import Derived.Test.YtegcebgoiocakaaDoorA12
namespace Go.Proofs.YtegcebgoiocakaaDoor
open Go Go.RowKit

/-- What the octets behind the first one say, put behind r. -/
def gat : Int → List Int → Int × Bool
  | r, [] => (r, true)
  | r, c :: t => if 128 ≤ c ∧ c < 192 then gat (r * 64 + (c - 128)) t else (0, false)

/-- What of a first octet's bits is its code point's. -/
def headI (n c : Int) : Int := if n = 1 then c % 128 else if n = 2 then c % 64 else if n = 3 then c % 32 else c % 16

theorem and127 {c : Int} (h0 : 0 ≤ c) (h1 : c < 256) : bits .and .u8 c 127 = c % 128 := bits_mask .u8 8 (by decide) wraps_u8 7 (by decide) c h0 h1

set_option maxHeartbeats 400000 in
theorem gather_1 (b o cap : Nat) (n x : Int) (w : World) (hn : n = 1 ∨ n = 2 ∨ n = 3 ∨ n = 4) (hcap : 1 ≤ cap) (hcm : cap ≤ maxLen) (hx0 : 0 ≤ x) (hx1 : x < 256)
    (hc : w.cell? ⟨b, o, none⟩ = some (.int .u8 x)) :
    Calls Tryd.prog 22 #[.slice (some ⟨b, o, none⟩) 1 cap, .int .i64 n] w fun e w' => e = .returned (.tuple #[.int .i64 (headI n x), .bool true]) ∧ ∃ q, w' = w.drewN q := by
  have e1 := and127 hx0 hx1
  have e2 := u8_and63 x hx0 hx1
  have e3 := u8_and31 x hx0 hx1
  have e4 := u8_and15 x hx0 hx1
  unfold maxLen at hcm
  by_cases h1 : cap = 1
  · subst h1
    rcases hn with rfl | rfl | rfl | rfl
    all_goals
      go_enter Tryd.func22, Tryd.ntmps22
      go_wp2
      go_quiet (fail)
      go_wp2
      go_rounds 1
      go_ret2
      exact ⟨by simp [headI], _, rfl⟩
  · rcases hn with rfl | rfl | rfl | rfl
    all_goals
      go_enter Tryd.func22, Tryd.ntmps22
      go_wp2
      go_quiet (fail)
      go_wp2
      go_rounds 1
      go_ret2
      exact ⟨by simp [headI], _, rfl⟩

/-- How great the number can be before round k. -/
def Room (k : Nat) (r : Int) : Prop := 0 ≤ r ∧ (k = 0 → r < 128) ∧ (k = 1 → r < 8192) ∧ (k = 2 → r < 524288) ∧ (k = 3 → r < 33554432)
theorem Room.lt {k : Nat} {r : Int} (h : Room k r) (hk : k ≤ 3) : 0 ≤ r ∧ r < 33554432 := by unfold Room at h; omega
theorem Room.next {k : Nat} {r c : Int} (h : Room k r) (h0 : 0 ≤ c) (h1 : c < 64) (hk : k < 3) : Room (k + 1) (r * 64 + c) := by unfold Room at *; omega
theorem headI_room (n x : Int) : Room 0 (headI n x) := by
  unfold Room headI
  refine ⟨?_, ?_, ?_, ?_, ?_⟩ <;> (split <;> (try split) <;> (try split) <;> omega)

set_option maxHeartbeats 1000000 in
theorem gather_n (b o m cap : Nat) (n x : Int) (t : List Int) (w : World) (hn : n = 1 ∨ n = 2 ∨ n = 3 ∨ n = 4) (hm : m = t.length) (hm1 : 1 ≤ m) (hm3 : m ≤ 3) (hcap : m + 1 ≤ cap) (hcm : cap ≤ maxLen) (hx0 : 0 ≤ x) (hx1 : x < 256)
    (hc : w.cell? ⟨b, o, none⟩ = some (.int .u8 x)) (hct : ∀ j, j < m → w.cell? ⟨b, o + 1 + j, none⟩ = some (.int .u8 (t.getD j 0))) (hby : ∀ c ∈ t, 0 ≤ c ∧ c < 256) :
    Calls Tryd.prog 22 #[.slice (some ⟨b, o, none⟩) ((m + 1 : Nat) : Nat) cap, .int .i64 n] w fun e w' => e = .returned (.tuple #[.int .i64 (gat (headI n x) t).1, .bool (gat (headI n x) t).2]) ∧ ∃ q, w' = w.drewN q := by
  have e1 := and127 hx0 hx1
  have e2 := u8_and63 x hx0 hx1
  have e3 := u8_and31 x hx0 hx1
  have e4 := u8_and15 x hx0 hx1
  unfold maxLen at hcm
  have hne : ¬ cap = 1 := by omega
  have hroom := headI_room n x
  obtain ⟨h, hh⟩ : ∃ h, h = headI n x := ⟨_, rfl⟩
  rw [← hh] at hroom ⊢
  have HH := Lib.hid hh; clear hh
  have HM := Lib.hid hm; clear hm
  have HR := Lib.hid hroom; clear hroom
  have HT := Lib.hid hct; clear hct
  have HB := Lib.hid hby; clear hby
  rcases hn with rfl | rfl | rfl | rfl
  all_goals
    go_enter Tryd.func22, Tryd.ntmps22
    go_wp2
    go_quiet (fail)
    go_wp2
    go_loop [6, 19] (fun vr vi => ∃ (k : Nat) (r : Int), k ≤ m ∧ vi = .int .i64 k ∧ vr = .int .i64 r ∧ Hid (Room k r) ∧ Hid (gat r (t.drop k) = gat h t)) (fun _ vi => m - (intOf vi).toNat)
    case atStart => exact ⟨0, h, Nat.zero_le _, rfl, by rw [HH.out]; simp [headI], HR, Lib.hid (by simp)⟩
    case round =>
      obtain ⟨k, r, hk, rfl, rfl, HK, HG⟩ := hrel
      by_cases hlt : k < m
      · have c1 := HT.out k hlt
        obtain ⟨c, hc'⟩ : ∃ c, c = t.getD k 0 := ⟨_, rfl⟩
        rw [← hc'] at c1
        have hk' : k < t.length := by have := HM.out; omega
        have hg : t[k] = c := by rw [hc']; simp [List.getD, hk']
        have hcr := HB.out c (by rw [← hg]; exact List.getElem_mem hk')
        have hd : t.drop k = c :: t.drop (k + 1) := by rw [← hg]; exact List.drop_eq_getElem_cons hk'
        obtain ⟨hc0, hc1⟩ := hcr
        have hrm := HK.out.lt (by omega)
        obtain ⟨hr0, hr1⟩ := hrm
        have HD := Lib.hid hd
        clear hd hg hc' hk'
        by_cases hcont : 128 ≤ c ∧ c < 192
        · have hq : (c / 64 != 2) = false := by rw [bne_eq_false_iff_eq]; omega
          have e6 := u8_and63 c hc0 hc1
          have e7 := i64_or6 (x := r * 64) (y := c % 64) (by omega) (by omega) (by omega) (by omega) (by omega)
          have e8 : 0 ≤ c % 64 := by omega
          have e9 : c % 64 < 64 := by omega
          have HN := Lib.hid (HK.out.next e8 e9 (by omega))
          have HC := Lib.hid hcont; clear hcont
          go_wp2
          go_round
          case rel =>
            refine ⟨k + 1, r * 64 + c % 64, by omega, by go_num, rfl, HN, Lib.hid ?_⟩
            rw [← HG.out, HD.out, gat, if_pos HC.out, show c - 128 = c % 64 by have := HC.out; omega]
          case measure => simp [intOf]; omega
        · have hq : (c / 64 != 2) = true := by rw [bne_iff_ne]; omega
          have HC := Lib.hid hcont; clear hcont
          go_wp2
          go_ret2
          exact ⟨by rw [← HG.out, HD.out, gat, if_neg HC.out]; rfl, _, rfl⟩
      · go_wp2
        go_ret2
        exact ⟨by rw [← HG.out, List.drop_eq_nil_of_le (by have := HM.out; omega)]; simp [gat], _, rfl⟩
end Go.Proofs.YtegcebgoiocakaaDoor
/- The contract of Get of package code. -/
namespace Go.Proofs.YtegcebgoiocakaaDoor
open Go Go.RowKit

/-- What Get gives, of octets as numbers. -/
def getI : List Int → Int × Int
  | [] => (65533, 0)
  | x :: t => if lenI x = 0 ∨ (t.length : Int) + 1 < lenI x then (65533, 1) else
    if (gat (headI (lenI x) x) (t.take ((lenI x).toNat - 1))).2 = true ∧ szI (gat (headI (lenI x) x) (t.take ((lenI x).toNat - 1))).1 = lenI x
      then ((gat (headI (lenI x) x) (t.take ((lenI x).toNat - 1))).1, lenI x) else (65533, 1)

theorem get_nil (A : Option Addr) (cap : Nat) (w : World) : Calls Tryd.prog 13 #[.slice A 0 cap] w fun e w' => e = .returned (.tuple #[.int .i64 65533, .int .i64 0]) ∧ ∃ q, w' = w.drewN q := by
  go_enter Tryd.func13, Tryd.ntmps13
  go_wp2
  go_ret2
  exact ⟨rfl, 0, rfl⟩

theorem get_fail (b o m cap : Nat) (x n : Int) (w : World) (hm : (m : Int) ≤ 4611686018427387904) (hc : w.cell? ⟨b, o, none⟩ = some (.int .u8 x)) (hn : n = 0 ∨ (m : Int) + 1 < n)
    (hl : ∀ w, Calls Tryd.prog 21 #[.int .u8 x] w fun e w' => e = .returned (.int .i64 n) ∧ w = w') :
    Calls Tryd.prog 13 #[.slice (some ⟨b, o, none⟩) ((m + 1 : Nat) : Nat) cap] w fun e w' => e = .returned (.tuple #[.int .i64 65533, .int .i64 1]) ∧ ∃ q, w' = w.drewN q := by
  have HL := Lib.hid hl; clear hl
  have hz : (((m + 1 : Nat) : Int) == 0) = false := by simp; omega
  by_cases h0 : n = 0
  · subst h0
    go_enter Tryd.func13, Tryd.ntmps13
    go_wp2_with fail
    refine (HL.out _).mono ?_; rintro e w' ⟨rfl, rfl⟩
    go_wp2_with fail
    go_ret2
    exact ⟨rfl, 0, rfl⟩
  · have hb : (n == 0) = false := by simp; omega
    have hg : (m : Int) + 1 < n := by omega
    clear h0 hn
    go_enter Tryd.func13, Tryd.ntmps13
    go_wp2_with fail
    refine (HL.out _).mono ?_; rintro e w' ⟨rfl, rfl⟩
    go_wp2_with fail
    go_ret2
    exact ⟨rfl, 0, rfl⟩

theorem get_bad (b o m cap : Nat) (x n r : Int) (w : World) (hm : (m : Int) ≤ 4611686018427387904) (hcap : m + 1 ≤ cap) (hc : w.cell? ⟨b, o, none⟩ = some (.int .u8 x)) (hn : n = 1 ∨ n = 2 ∨ n = 3 ∨ n = 4) (hnm : n ≤ (m : Int) + 1)
    (hl : ∀ w, Calls Tryd.prog 21 #[.int .u8 x] w fun e w' => e = .returned (.int .i64 n) ∧ w = w')
    (hg : Calls Tryd.prog 22 #[.slice (some ⟨b, o, none⟩) n.toNat cap, .int .i64 n] w fun e w' => e = .returned (.tuple #[.int .i64 r, .bool false]) ∧ ∃ q, w' = w.drewN q) :
    Calls Tryd.prog 13 #[.slice (some ⟨b, o, none⟩) ((m + 1 : Nat) : Nat) cap] w fun e w' => e = .returned (.tuple #[.int .i64 65533, .int .i64 1]) ∧ ∃ q, w' = w.drewN q := by
  have HL := Lib.hid hl; clear hl
  have HG := Lib.hid hg; clear hg
  have hz : (((m + 1 : Nat) : Int) == 0) = false := by simp; omega
  have hnb : decide ((m : Int) + 1 < n) = false := by simp; omega
  rcases hn with rfl | rfl | rfl | rfl
  all_goals
    go_enter Tryd.func13, Tryd.ntmps13
    go_wp2_with fail
    refine (HL.out _).mono ?_; rintro e w' ⟨rfl, rfl⟩
    go_wp2_with fail
    refine HG.out.mono ?_; rintro e w' ⟨rfl, q, rfl⟩
    go_wp2_with fail
    go_ret2
    exact ⟨rfl, q, rfl⟩

theorem get_odd (b o m cap : Nat) (x n r : Int) (z : Int) (w : World) (hm : (m : Int) ≤ 4611686018427387904) (hcap : m + 1 ≤ cap) (hc : w.cell? ⟨b, o, none⟩ = some (.int .u8 x)) (hn : n = 1 ∨ n = 2 ∨ n = 3 ∨ n = 4) (hnm : n ≤ (m : Int) + 1)
    (hl : ∀ w, Calls Tryd.prog 21 #[.int .u8 x] w fun e w' => e = .returned (.int .i64 n) ∧ w = w')
    (hg : Calls Tryd.prog 22 #[.slice (some ⟨b, o, none⟩) n.toNat cap, .int .i64 n] w fun e w' => e = .returned (.tuple #[.int .i64 r, .bool true]) ∧ ∃ q, w' = w.drewN q)
    (hs : ∀ w, Calls Tryd.prog 14 #[.int .i64 r] w fun e w' => e = .returned (.int .i64 z) ∧ w = w') (hzn : ¬ z = n) :
    Calls Tryd.prog 13 #[.slice (some ⟨b, o, none⟩) ((m + 1 : Nat) : Nat) cap] w fun e w' => e = .returned (.tuple #[.int .i64 65533, .int .i64 1]) ∧ ∃ q, w' = w.drewN q := by
  have HL := Lib.hid hl; clear hl
  have HG := Lib.hid hg; clear hg
  have hz : (((m + 1 : Nat) : Int) == 0) = false := by simp; omega
  have hnb : decide ((m : Int) + 1 < n) = false := by simp; omega
  have HS := Lib.hid hs; clear hs
  have hzz : (z != n) = true := by simpa using hzn
  clear hzn
  rcases hn with rfl | rfl | rfl | rfl
  all_goals
    go_enter Tryd.func13, Tryd.ntmps13
    go_wp2_with fail
    refine (HL.out _).mono ?_; rintro e w' ⟨rfl, rfl⟩
    go_wp2_with fail
    refine HG.out.mono ?_; rintro e w' ⟨rfl, q, rfl⟩
    go_wp2_with fail
    refine (HS.out _).mono ?_; rintro e w' ⟨rfl, rfl⟩
    go_wp2_with fail
    go_ret2
    exact ⟨rfl, q, rfl⟩

theorem get_good (b o m cap : Nat) (x n r : Int) (w : World) (hm : (m : Int) ≤ 4611686018427387904) (hcap : m + 1 ≤ cap) (hc : w.cell? ⟨b, o, none⟩ = some (.int .u8 x)) (hn : n = 1 ∨ n = 2 ∨ n = 3 ∨ n = 4) (hnm : n ≤ (m : Int) + 1)
    (hl : ∀ w, Calls Tryd.prog 21 #[.int .u8 x] w fun e w' => e = .returned (.int .i64 n) ∧ w = w')
    (hg : Calls Tryd.prog 22 #[.slice (some ⟨b, o, none⟩) n.toNat cap, .int .i64 n] w fun e w' => e = .returned (.tuple #[.int .i64 r, .bool true]) ∧ ∃ q, w' = w.drewN q)
    (hs : ∀ w, Calls Tryd.prog 14 #[.int .i64 r] w fun e w' => e = .returned (.int .i64 n) ∧ w = w') :
    Calls Tryd.prog 13 #[.slice (some ⟨b, o, none⟩) ((m + 1 : Nat) : Nat) cap] w fun e w' => e = .returned (.tuple #[.int .i64 r, .int .i64 n]) ∧ ∃ q, w' = w.drewN q := by
  have HL := Lib.hid hl; clear hl
  have HG := Lib.hid hg; clear hg
  have hz : (((m + 1 : Nat) : Int) == 0) = false := by simp; omega
  have hnb : decide ((m : Int) + 1 < n) = false := by simp; omega
  have HS := Lib.hid hs; clear hs
  have hzz : (n != n) = false := by simp
  rcases hn with rfl | rfl | rfl | rfl
  all_goals
    go_enter Tryd.func13, Tryd.ntmps13
    go_wp2_with fail
    refine (HL.out _).mono ?_; rintro e w' ⟨rfl, rfl⟩
    go_wp2_with fail
    refine HG.out.mono ?_; rintro e w' ⟨rfl, q, rfl⟩
    go_wp2_with fail
    refine (HS.out _).mono ?_; rintro e w' ⟨rfl, rfl⟩
    go_wp2_with fail
    go_ret2
    exact ⟨rfl, q, rfl⟩

theorem lenI_or (x : Int) : lenI x = 0 ∨ lenI x = 1 ∨ lenI x = 2 ∨ lenI x = 3 ∨ lenI x = 4 := by
  unfold lenI; (repeat' split) <;> omega

/-- WHAT Get GIVES, of octets that read as a list. -/
theorem get_any (A : Option Addr) (len cap : Nat) (l : List Int) (w : World) (hr : RowI .u8 w A len l) (hby : ∀ c ∈ l, 0 ≤ c ∧ c < 256) (hcap : len ≤ cap) (hcm : cap ≤ maxLen) (hlen : (len : Int) ≤ 4611686018427387904) :
    Calls Tryd.prog 13 #[.slice A len cap] w fun e w' => e = .returned (.tuple #[.int .i64 (getI l).1, .int .i64 (getI l).2]) ∧ ∃ q, w' = w.drewN q := by
  obtain ⟨hl, hc⟩ := hr
  rcases l with _ | ⟨x, t⟩
  · obtain rfl : len = 0 := hl.symm
    exact get_nil A cap w
  · obtain rfl : len = t.length + 1 := by simpa using hl.symm
    obtain ⟨b, o, rfl, _, hcell⟩ := hc (by omega)
    have hx := hby x (by simp)
    have hc0 : w.cell? ⟨b, o, none⟩ = some (.int .u8 x) := by simpa using hcell 0 (by omega)
    have hl := fun w => length_any x w hx.1 hx.2
    have hor := lenI_or x
    have hgd : getI (x :: t) = if lenI x = 0 ∨ (t.length : Int) + 1 < lenI x then (65533, 1) else
      if (gat (headI (lenI x) x) (t.take ((lenI x).toNat - 1))).2 = true ∧ szI (gat (headI (lenI x) x) (t.take ((lenI x).toNat - 1))).1 = lenI x
      then ((gat (headI (lenI x) x) (t.take ((lenI x).toNat - 1))).1, lenI x) else (65533, 1) := rfl
    rw [hgd]
    generalize lenI x = n at *
    clear hgd
    by_cases hf : n = 0 ∨ (t.length : Int) + 1 < n
    · rw [if_pos hf]
      exact get_fail b o t.length cap x n w (by omega) hc0 hf hl
    · rw [if_neg hf]
      have hn : n = 1 ∨ n = 2 ∨ n = 3 ∨ n = 4 := by omega
      have hg : Calls Tryd.prog 22 #[.slice (some ⟨b, o, none⟩) n.toNat cap, .int .i64 n] w fun e w' =>
          e = .returned (.tuple #[.int .i64 (gat (headI n x) (t.take (n.toNat - 1))).1, .bool (gat (headI n x) (t.take (n.toNat - 1))).2]) ∧ ∃ q, w' = w.drewN q := by
        by_cases h1 : n = 1
        · subst h1
          have := gather_1 b o cap 1 x w (by omega) (by omega) hcm hx.1 hx.2 hc0
          simpa [gat] using this
        · have hnt : n.toNat = (n.toNat - 1) + 1 := by omega
          rw [hnt]
          exact gather_n b o (n.toNat - 1) cap n x (t.take (n.toNat - 1)) w hn (by simp; omega) (by omega) (by omega) (by omega) hcm hx.1 hx.2 hc0 (fun j hj => by
            have := hcell (j + 1) (by omega)
            rw [show o + 1 + j = o + (j + 1) by omega, this]
            simp [List.getD, hj]) (fun c hc => hby c (List.mem_cons_of_mem _ (List.mem_of_mem_take hc)))
      generalize gat (headI n x) (t.take (n.toNat - 1)) = g at *
      obtain ⟨r, ok⟩ := g
      cases ok
      · simp only [Bool.false_eq_true, false_and, if_false]
        exact get_bad b o t.length cap x n r w (by omega) hcap hc0 hn (by omega) hl hg
      · by_cases hz : szI r = n
        · simp only [hz, and_self, if_true]
          exact get_good b o t.length cap x n r w (by omega) hcap hc0 hn (by omega) hl hg (fun w => hz ▸ size_any r w)
        · simp only [hz, and_false, if_false]
          exact get_odd b o t.length cap x n r (szI r) w (by omega) hcap hc0 hn (by omega) hl hg (fun w => size_any r w) hz
end Go.Proofs.YtegcebgoiocakaaDoor
/- The contract of the document's own value. -/
namespace Go.Proofs.YtegcebgoiocakaaDoor
open Go Go.RowKit

/-- What of a first octet counts. -/
def vheadI (c : Int) : Int := if 240 ≤ c then c - 240 else if 224 ≤ c then c - 224 else if 192 ≤ c then c - 192 else c
/-- .. and the octets behind it. -/
def vtailI : Int → List Int → Int
  | r, [] => r
  | r, c :: t => vtailI (r * 64 + (c + 128) % 256) t
def valI : List Int → Int
  | [] => 0
  | c :: t => vtailI (vheadI c) t

def VRoom (k : Nat) (r : Int) : Prop := 0 ≤ r ∧ (k = 1 → r < 256) ∧ (k = 2 → r < 16640) ∧ (k = 3 → r < 1065216) ∧ (k = 4 → r < 68174080)
theorem VRoom.lt {k : Nat} {r : Int} (h : VRoom k r) (hk1 : 1 ≤ k) (hk : k ≤ 4) : 0 ≤ r ∧ r < 68174080 := by unfold VRoom at h; omega
theorem VRoom.next {k : Nat} {r c : Int} (h : VRoom k r) (h0 : 0 ≤ c) (h1 : c < 256) (hk1 : 1 ≤ k) (hk : k < 4) : VRoom (k + 1) (r * 64 + c) := by unfold VRoom at *; omega

theorem getD_behind {c : Int} {t : List Int} {k : Nat} (hk1 : 1 ≤ k) (h : k - 1 < t.length) : (c :: t).getD k 0 = t[k - 1] := by
  obtain ⟨j, rfl⟩ : ∃ j, k = j + 1 := ⟨k - 1, by omega⟩
  have h' : j < t.length := by omega
  simp [List.getD, h']
end Go.Proofs.YtegcebgoiocakaaDoor
/- Contracts of the document's own Put. -/
namespace Go.Proofs.YtegcebgoiocakaaDoor
open Go Go.RowKit

theorem str1 (g : Nat) (x : Int) (w : World) (hg : g = w.heap.size) : (convert 42 9 (.slice (some ⟨g, 0, none⟩) 1 1)).run Tryd.prog (w.alloc (.cells #[.int .u8 x] 5)) = .ok (.string (strOfNums [x])) (w.alloc (.cells #[.int .u8 x] 5)) := by
  subst hg
  exact run_convert_bytes_arg (P := Tryd.prog) _ 42 5 Tryd.underlying42 Tryd.underlying5 w.heap.size 0 1 1 [x] rfl (fun i hi => by
    obtain rfl : i = 0 := by omega
    simp) 9 Tryd.underlying9







end Go.Proofs.YtegcebgoiocakaaDoor
