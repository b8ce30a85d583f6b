/- Texts. -/
import Derived.Test.YtaapbmdojkjphaaGreatZ01
import Derived.Test.YtaapbmdojkjphaaGreatZ02
import Derived.Test.YtaapbmdojkjphaaGreatZ09
import Derived.Deep.RegionHeld
import Derived.WalkSpells
import Derived.Deep.QuietTactic
import Derived.BigQuiet
namespace Go.Proofs.YtaapbmdojkjphaaGreat
open Go Go.RowKit
def getI : List Int → Int × Int
  | [] => (65533, 0)
  | x :: t => if lenI x = 0 ∨ (t.length : Int) + 1 < lenI x then (65533, 1) else
    if (gat (headI (lenI x) x) (t.take ((lenI x).toNat - 1))).2 = true ∧ szI (gat (headI (lenI x) x) (t.take ((lenI x).toNat - 1))).1 = lenI x
      then ((gat (headI (lenI x) x) (t.take ((lenI x).toNat - 1))).1, lenI x) else (65533, 1)
theorem get_nil (A : Option Addr) (cap : Nat) (w : World) : Calls Tryz.prog 27 #[.slice A 0 cap] w fun e w' => e = .returned (.tuple #[.int .i64 65533, .int .i64 0]) ∧ ∃ q, w' = w.drewN q := by
  go_enter Tryz.func27, Tryz.ntmps27
  go_wp2
  go_ret2
  exact ⟨rfl, 0, rfl⟩
theorem get_fail (b o m cap : Nat) (x n : Int) (w : World) (hm : (m : Int) ≤ 4611686018427387904) (hc : w.cell? ⟨b, o, none⟩ = some (.int .u8 x)) (hn : n = 0 ∨ (m : Int) + 1 < n)
    (hl : ∀ w, Calls Tryz.prog 52 #[.int .u8 x] w fun e w' => e = .returned (.int .i64 n) ∧ w = w') :
    Calls Tryz.prog 27 #[.slice (some ⟨b, o, none⟩) ((m + 1 : Nat) : Nat) cap] w fun e w' => e = .returned (.tuple #[.int .i64 65533, .int .i64 1]) ∧ ∃ q, w' = w.drewN q := by
  have HL := Lib.hid hl; clear hl
  have hz : (((m + 1 : Nat) : Int) == 0) = false := by simp; omega
  by_cases h0 : n = 0
  · subst h0
    go_enter Tryz.func27, Tryz.ntmps27
    go_wp2_with fail
    refine (HL.out _).mono ?_; rintro e w' ⟨rfl, rfl⟩
    go_wp2_with fail
    go_ret2
    exact ⟨rfl, 0, rfl⟩
  · have hb : (n == 0) = false := by simp; omega
    have hg : (m : Int) + 1 < n := by omega
    clear h0 hn
    go_enter Tryz.func27, Tryz.ntmps27
    go_wp2_with fail
    refine (HL.out _).mono ?_; rintro e w' ⟨rfl, rfl⟩
    go_wp2_with fail
    go_ret2
    exact ⟨rfl, 0, rfl⟩
theorem get_bad (b o m cap : Nat) (x n r : Int) (w : World) (hm : (m : Int) ≤ 4611686018427387904) (hcap : m + 1 ≤ cap) (hc : w.cell? ⟨b, o, none⟩ = some (.int .u8 x)) (hn : n = 1 ∨ n = 2 ∨ n = 3 ∨ n = 4) (hnm : n ≤ (m : Int) + 1)
    (hl : ∀ w, Calls Tryz.prog 52 #[.int .u8 x] w fun e w' => e = .returned (.int .i64 n) ∧ w = w')
    (hg : Calls Tryz.prog 53 #[.slice (some ⟨b, o, none⟩) n.toNat cap, .int .i64 n] w fun e w' => e = .returned (.tuple #[.int .i64 r, .bool false]) ∧ ∃ q, w' = w.drewN q) :
    Calls Tryz.prog 27 #[.slice (some ⟨b, o, none⟩) ((m + 1 : Nat) : Nat) cap] w fun e w' => e = .returned (.tuple #[.int .i64 65533, .int .i64 1]) ∧ ∃ q, w' = w.drewN q := by
  have HL := Lib.hid hl; clear hl
  have HG := Lib.hid hg; clear hg
  have hz : (((m + 1 : Nat) : Int) == 0) = false := by simp; omega
  have hnb : decide ((m : Int) + 1 < n) = false := by simp; omega
  rcases hn with rfl | rfl | rfl | rfl
  all_goals
    go_enter Tryz.func27, Tryz.ntmps27
    go_wp2_with fail
    refine (HL.out _).mono ?_; rintro e w' ⟨rfl, rfl⟩
    go_wp2_with fail
    refine HG.out.mono ?_; rintro e w' ⟨rfl, q, rfl⟩
    go_wp2_with fail
    go_ret2
    exact ⟨rfl, q, rfl⟩
theorem get_odd (b o m cap : Nat) (x n r : Int) (z : Int) (w : World) (hm : (m : Int) ≤ 4611686018427387904) (hcap : m + 1 ≤ cap) (hc : w.cell? ⟨b, o, none⟩ = some (.int .u8 x)) (hn : n = 1 ∨ n = 2 ∨ n = 3 ∨ n = 4) (hnm : n ≤ (m : Int) + 1)
    (hl : ∀ w, Calls Tryz.prog 52 #[.int .u8 x] w fun e w' => e = .returned (.int .i64 n) ∧ w = w')
    (hg : Calls Tryz.prog 53 #[.slice (some ⟨b, o, none⟩) n.toNat cap, .int .i64 n] w fun e w' => e = .returned (.tuple #[.int .i64 r, .bool true]) ∧ ∃ q, w' = w.drewN q)
    (hs : ∀ w, Calls Tryz.prog 28 #[.int .i64 r] w fun e w' => e = .returned (.int .i64 z) ∧ w = w') (hzn : ¬ z = n) :
    Calls Tryz.prog 27 #[.slice (some ⟨b, o, none⟩) ((m + 1 : Nat) : Nat) cap] w fun e w' => e = .returned (.tuple #[.int .i64 65533, .int .i64 1]) ∧ ∃ q, w' = w.drewN q := by
  have HL := Lib.hid hl; clear hl
  have HG := Lib.hid hg; clear hg
  have hz : (((m + 1 : Nat) : Int) == 0) = false := by simp; omega
  have hnb : decide ((m : Int) + 1 < n) = false := by simp; omega
  have HS := Lib.hid hs; clear hs
  have hzz : (z != n) = true := by simpa using hzn
  clear hzn
  rcases hn with rfl | rfl | rfl | rfl
  all_goals
    go_enter Tryz.func27, Tryz.ntmps27
    go_wp2_with fail
    refine (HL.out _).mono ?_; rintro e w' ⟨rfl, rfl⟩
    go_wp2_with fail
    refine HG.out.mono ?_; rintro e w' ⟨rfl, q, rfl⟩
    go_wp2_with fail
    refine (HS.out _).mono ?_; rintro e w' ⟨rfl, rfl⟩
    go_wp2_with fail
    go_ret2
    exact ⟨rfl, q, rfl⟩
theorem get_good (b o m cap : Nat) (x n r : Int) (w : World) (hm : (m : Int) ≤ 4611686018427387904) (hcap : m + 1 ≤ cap) (hc : w.cell? ⟨b, o, none⟩ = some (.int .u8 x)) (hn : n = 1 ∨ n = 2 ∨ n = 3 ∨ n = 4) (hnm : n ≤ (m : Int) + 1)
    (hl : ∀ w, Calls Tryz.prog 52 #[.int .u8 x] w fun e w' => e = .returned (.int .i64 n) ∧ w = w')
    (hg : Calls Tryz.prog 53 #[.slice (some ⟨b, o, none⟩) n.toNat cap, .int .i64 n] w fun e w' => e = .returned (.tuple #[.int .i64 r, .bool true]) ∧ ∃ q, w' = w.drewN q)
    (hs : ∀ w, Calls Tryz.prog 28 #[.int .i64 r] w fun e w' => e = .returned (.int .i64 n) ∧ w = w') :
    Calls Tryz.prog 27 #[.slice (some ⟨b, o, none⟩) ((m + 1 : Nat) : Nat) cap] w fun e w' => e = .returned (.tuple #[.int .i64 r, .int .i64 n]) ∧ ∃ q, w' = w.drewN q := by
  have HL := Lib.hid hl; clear hl
  have HG := Lib.hid hg; clear hg
  have hz : (((m + 1 : Nat) : Int) == 0) = false := by simp; omega
  have hnb : decide ((m : Int) + 1 < n) = false := by simp; omega
  have HS := Lib.hid hs; clear hs
  have hzz : (n != n) = false := by simp
  rcases hn with rfl | rfl | rfl | rfl
  all_goals
    go_enter Tryz.func27, Tryz.ntmps27
    go_wp2_with fail
    refine (HL.out _).mono ?_; rintro e w' ⟨rfl, rfl⟩
    go_wp2_with fail
    refine HG.out.mono ?_; rintro e w' ⟨rfl, q, rfl⟩
    go_wp2_with fail
    refine (HS.out _).mono ?_; rintro e w' ⟨rfl, rfl⟩
    go_wp2_with fail
    go_ret2
    exact ⟨rfl, q, rfl⟩
theorem lenI_or (x : Int) : lenI x = 0 ∨ lenI x = 1 ∨ lenI x = 2 ∨ lenI x = 3 ∨ lenI x = 4 := by
  unfold lenI; (repeat' split) <;> omega
theorem get_any (A : Option Addr) (len cap : Nat) (l : List Int) (w : World) (hr : RowI .u8 w A len l) (hby : ∀ c ∈ l, 0 ≤ c ∧ c < 256) (hcap : len ≤ cap) (hcm : cap ≤ maxLen) (hlen : (len : Int) ≤ 4611686018427387904) :
    Calls Tryz.prog 27 #[.slice A len cap] w fun e w' => e = .returned (.tuple #[.int .i64 (getI l).1, .int .i64 (getI l).2]) ∧ ∃ q, w' = w.drewN q := by
  obtain ⟨hl, hc⟩ := hr
  rcases l with _ | ⟨x, t⟩
  · obtain rfl : len = 0 := hl.symm
    exact get_nil A cap w
  · obtain rfl : len = t.length + 1 := by simpa using hl.symm
    obtain ⟨b, o, rfl, _, hcell⟩ := hc (by omega)
    have hx := hby x (by simp)
    have hc0 : w.cell? ⟨b, o, none⟩ = some (.int .u8 x) := by simpa using hcell 0 (by omega)
    have hl := fun w => length_any x w hx.1 hx.2
    have hor := lenI_or x
    have hgd : getI (x :: t) = if lenI x = 0 ∨ (t.length : Int) + 1 < lenI x then (65533, 1) else
      if (gat (headI (lenI x) x) (t.take ((lenI x).toNat - 1))).2 = true ∧ szI (gat (headI (lenI x) x) (t.take ((lenI x).toNat - 1))).1 = lenI x
      then ((gat (headI (lenI x) x) (t.take ((lenI x).toNat - 1))).1, lenI x) else (65533, 1) := rfl
    rw [hgd]
    generalize lenI x = n at *
    clear hgd
    by_cases hf : n = 0 ∨ (t.length : Int) + 1 < n
    · rw [if_pos hf]
      exact get_fail b o t.length cap x n w (by omega) hc0 hf hl
    · rw [if_neg hf]
      have hn : n = 1 ∨ n = 2 ∨ n = 3 ∨ n = 4 := by omega
      have hg : Calls Tryz.prog 53 #[.slice (some ⟨b, o, none⟩) n.toNat cap, .int .i64 n] w fun e w' =>
          e = .returned (.tuple #[.int .i64 (gat (headI n x) (t.take (n.toNat - 1))).1, .bool (gat (headI n x) (t.take (n.toNat - 1))).2]) ∧ ∃ q, w' = w.drewN q := by
        by_cases h1 : n = 1
        · subst h1
          have := gather_1 b o cap 1 x w (by omega) (by omega) hcm hx.1 hx.2 hc0
          simpa [gat] using this
        · have hnt : n.toNat = (n.toNat - 1) + 1 := by omega
          rw [hnt]
          exact gather_n b o (n.toNat - 1) cap n x (t.take (n.toNat - 1)) w hn (by simp; omega) (by omega) (by omega) (by omega) hcm hx.1 hx.2 hc0 (fun j hj => by
            have := hcell (j + 1) (by omega)
            rw [show o + 1 + j = o + (j + 1) by omega, this]
            simp [List.getD, hj]) (fun c hc => hby c (List.mem_cons_of_mem _ (List.mem_of_mem_take hc)))
      generalize gat (headI n x) (t.take (n.toNat - 1)) = g at *
      obtain ⟨r, ok⟩ := g
      cases ok
      · simp only [Bool.false_eq_true, false_and, if_false]
        exact get_bad b o t.length cap x n r w (by omega) hcap hc0 hn (by omega) hl hg
      · by_cases hz : szI r = n
        · simp only [hz, and_self, if_true]
          exact get_good b o t.length cap x n r w (by omega) hcap hc0 hn (by omega) hl hg (fun w => hz ▸ size_any r w)
        · simp only [hz, and_false, if_false]
          exact get_odd b o t.length cap x n r (szI r) w (by omega) hcap hc0 hn (by omega) hl hg (fun w => size_any r w) hz
end Go.Proofs.YtaapbmdojkjphaaGreat
namespace Go.Proofs.YtaapbmdojkjphaaGreat
open Go Go.RowKit
def vheadI (c : Int) : Int := if 240 ≤ c then c - 240 else if 224 ≤ c then c - 224 else if 192 ≤ c then c - 192 else c
def vtailI : Int → List Int → Int
  | r, [] => r
  | r, c :: t => vtailI (r * 64 + (c + 128) % 256) t
def valI : List Int → Int
  | [] => 0
  | c :: t => vtailI (vheadI c) t
def VRoom (k : Nat) (r : Int) : Prop := 0 ≤ r ∧ (k = 1 → r < 256) ∧ (k = 2 → r < 16640) ∧ (k = 3 → r < 1065216) ∧ (k = 4 → r < 68174080)
theorem VRoom.lt {k : Nat} {r : Int} (h : VRoom k r) (hk1 : 1 ≤ k) (hk : k ≤ 4) : 0 ≤ r ∧ r < 68174080 := by unfold VRoom at h; omega
theorem VRoom.next {k : Nat} {r c : Int} (h : VRoom k r) (h0 : 0 ≤ c) (h1 : c < 256) (hk1 : 1 ≤ k) (hk : k < 4) : VRoom (k + 1) (r * 64 + c) := by unfold VRoom at *; omega
theorem getD_behind {c : Int} {t : List Int} {k : Nat} (hk1 : 1 ≤ k) (h : k - 1 < t.length) : (c :: t).getD k 0 = t[k - 1] := by
  obtain ⟨j, rfl⟩ : ∃ j, k = j + 1 := ⟨k - 1, by omega⟩
  have h' : j < t.length := by omega
  simp [List.getD, h']
set_option maxHeartbeats 1000000 in
theorem value_any (s : ByteArray) (w : World) (h1 : 1 ≤ s.size) (h4 : s.size ≤ 4) :
    Calls Tryz.prog 29 #[.string s] w fun e w' => e = .returned (.int .i64 (valI (nums s))) ∧ w = w' := by
  have hnl := nums_length s
  have hby := nums_byte s
  obtain ⟨c, t, hct⟩ : ∃ c t, nums s = c :: t := by
    cases hq : nums s with
    | nil => rw [hq] at hnl; simp at hnl; omega
    | cons c t => exact ⟨c, t, rfl⟩
  rw [hct] at hnl hby ⊢
  have hcb := hby c (by simp)
  obtain ⟨hc0, hcl⟩ := hcb
  have hidx : ∀ k : Nat, k < s.size → ∀ w, (Instr.index 9 (.string s) (.int .i64 (k : Int))).run Tryz.prog w = .ok (.int .u8 ((c :: t).getD k 0)) w := fun k hk w => by rw [idx_at s k hk w, hct]
  have hi0 := hidx 0 (by omega)
  simp at hi0
  have HI := Lib.hid hidx; clear hidx
  have HB := Lib.hid hby; clear hby
  have HN := Lib.hid hnl; clear hnl
  clear hct
  rw [show valI (c :: t) = vtailI (vheadI c) t from rfl]
  have hroom : VRoom 1 (vheadI c) := by unfold VRoom vheadI; (repeat' split) <;> omega
  have HR := Lib.hid hroom; clear hroom
  obtain ⟨h, hh'⟩ : ∃ h, h = vheadI c := ⟨_, rfl⟩
  rw [← hh'] at HR ⊢
  have HH := Lib.hid hh'; clear hh'
  rcases (show c < 192 ∨ (192 ≤ c ∧ c < 224) ∨ (224 ≤ c ∧ c < 240) ∨ 240 ≤ c by omega) with hh | ⟨hh, hh2⟩ | ⟨hh, hh2⟩ | hh
  all_goals
    go_enter Tryz.func29, Tryz.ntmps29
    go_wp2
    go_loop [4, 5] (fun vr vi => ∃ (k : Nat) (r : Int), 1 ≤ k ∧ k ≤ s.size ∧ vi = .int .i64 k ∧ vr = .int .i64 r ∧ Hid (VRoom k r) ∧ Hid (vtailI r (t.drop (k - 1)) = vtailI h t)) (fun _ vi => s.size - (intOf vi).toNat)
    case atStart => exact ⟨1, h, by omega, h1, rfl, by rw [HH.out]; unfold vheadI; (repeat' split) <;> first | rfl | omega, HR, Lib.hid (by simp)⟩
    case round =>
      obtain ⟨k, r, hk1, hk, rfl, rfl, HK, HG⟩ := hrel
      by_cases hlt : k < s.size
      · have hk' : k - 1 < t.length := by have := HN.out; simp at this; omega
        obtain ⟨x, hx⟩ : ∃ x, x = t[k - 1] := ⟨_, rfl⟩
        have hcr := HB.out x (by rw [hx]; exact List.mem_cons_of_mem _ (List.getElem_mem hk'))
        have hd : t.drop (k - 1) = x :: t.drop (k + 1 - 1) := by
          rw [List.drop_eq_getElem_cons hk', hx, show k - 1 + 1 = k + 1 - 1 by omega]
        have c1 : ∀ w, (Instr.index 9 (.string s) (.int .i64 (k : Int))).run Tryz.prog w = .ok (.int .u8 x) w := by
          intro w
          have hgx : (c :: t).getD k 0 = x := by rw [hx]; exact getD_behind hk1 hk'
          rw [HI.out k hlt w, hgx]
        obtain ⟨hx0, hx1⟩ := hcr
        obtain ⟨hr0, hr1⟩ := HK.out.lt hk1 (by omega)
        have HD := Lib.hid hd
        clear hd hx hk'
        have hxm0 : 0 ≤ (x + 128) % 256 := by omega
        have hxm1 : (x + 128) % 256 < 256 := by omega
        have HM := Lib.hid (HK.out.next hxm0 hxm1 hk1 (by omega))
        go_wp2
        go_round
        case rel =>
          refine ⟨k + 1, r * 64 + (x + 128) % 256, by omega, by omega, by go_num, rfl, HM, Lib.hid ?_⟩
          rw [← HG.out, HD.out, vtailI]
        case measure => simp [intOf]; omega
      · go_wp2
        go_ret
        refine ⟨?_, rfl⟩
        rw [← HG.out, List.drop_eq_nil_of_le (by have := HN.out; simp at this; omega)]
        rfl
end Go.Proofs.YtaapbmdojkjphaaGreat
namespace Go.Proofs.YtaapbmdojkjphaaGreat
open Go Go.RowKit
theorem str1 (g : Nat) (x : Int) (w : World) (hg : g = w.heap.size) : (convert 41 9 (.slice (some ⟨g, 0, none⟩) 1 1)).run Tryz.prog (w.alloc (.cells #[.int .u8 x] 5)) = .ok (.string (strOfNums [x])) (w.alloc (.cells #[.int .u8 x] 5)) := by
  subst hg
  exact run_convert_bytes_arg (P := Tryz.prog) _ 41 5 Tryz.underlying41 Tryz.underlying5 w.heap.size 0 1 1 [x] rfl (fun i hi => by
    obtain rfl : i = 0 := by omega
    simp) 9 Tryz.underlying9
theorem refPut1 (r : Int) (w : World) (h0 : 0 ≤ r) (h1 : r < 128)
    (hc : ∀ w, Calls Tryz.prog 30 #[.int .i64 r] w fun e w' => e = .returned (.bool true) ∧ w = w')
    (hz : ∀ w, Calls Tryz.prog 31 #[.int .i64 r] w fun e w' => e = .returned (.int .i64 1) ∧ w = w') :
    Calls Tryz.prog 15 #[.int .i64 r] w fun e w' => e = .returned (.string (strOfNums [r])) ∧ Below w.heap.size w w' := by
  have HC := Lib.hid hc; clear hc
  have HZ := Lib.hid hz; clear hz
  have hst := str1
  go_enter Tryz.func15, Tryz.ntmps15
  go_wp2_with fail
  refine (HC.out _).mono ?_; rintro e w' ⟨rfl, rfl⟩
  go_wp2_with fail
  refine (HZ.out _).mono ?_; rintro e w' ⟨rfl, rfl⟩
  go_wp2_with fail
  go_ret
  exact ⟨rfl, by go_grown⟩
theorem refPut2 (r : Int) (w : World) (h0 : 128 ≤ r) (h1 : r < 2048)
    (hc : ∀ w, Calls Tryz.prog 30 #[.int .i64 r] w fun e w' => e = .returned (.bool true) ∧ w = w')
    (hz : ∀ w, Calls Tryz.prog 31 #[.int .i64 r] w fun e w' => e = .returned (.int .i64 2) ∧ w = w') :
    Calls Tryz.prog 15 #[.int .i64 r] w fun e w' => e = .returned (.string (strOfNums [192 + r / 64, 128 + r % 64])) ∧ Below w.heap.size w w' := by
  have HC := Lib.hid hc; clear hc
  have HZ := Lib.hid hz; clear hz
  have hst := str1
  go_enter Tryz.func15, Tryz.ntmps15
  go_wp2_with fail
  refine (HC.out _).mono ?_; rintro e w' ⟨rfl, rfl⟩
  go_wp2_with fail
  refine (HZ.out _).mono ?_; rintro e w' ⟨rfl, rfl⟩
  go_wp2_with fail
  go_rounds 3
  go_ret
  exact ⟨rfl, by go_grown⟩
theorem refPut3 (r : Int) (w : World) (h0 : 2048 ≤ r) (h1 : r < 65536)
    (hc : ∀ w, Calls Tryz.prog 30 #[.int .i64 r] w fun e w' => e = .returned (.bool true) ∧ w = w')
    (hz : ∀ w, Calls Tryz.prog 31 #[.int .i64 r] w fun e w' => e = .returned (.int .i64 3) ∧ w = w') :
    Calls Tryz.prog 15 #[.int .i64 r] w fun e w' => e = .returned (.string (strOfNums [224 + r / 4096, 128 + r / 64 % 64, 128 + r % 64])) ∧ Below w.heap.size w w' := by
  have HC := Lib.hid hc; clear hc
  have HZ := Lib.hid hz; clear hz
  have hst := str1
  go_enter Tryz.func15, Tryz.ntmps15
  go_wp2_with fail
  refine (HC.out _).mono ?_; rintro e w' ⟨rfl, rfl⟩
  go_wp2_with fail
  refine (HZ.out _).mono ?_; rintro e w' ⟨rfl, rfl⟩
  go_wp2_with fail
  go_rounds 4
  go_ret
  exact ⟨by rw [show r / 4096 = r / 64 / 64 by omega]; rfl, by go_grown⟩
theorem refPut4 (r : Int) (w : World) (h0 : 65536 ≤ r) (h1 : r ≤ 1114111)
    (hc : ∀ w, Calls Tryz.prog 30 #[.int .i64 r] w fun e w' => e = .returned (.bool true) ∧ w = w')
    (hz : ∀ w, Calls Tryz.prog 31 #[.int .i64 r] w fun e w' => e = .returned (.int .i64 4) ∧ w = w') :
    Calls Tryz.prog 15 #[.int .i64 r] w fun e w' => e = .returned (.string (strOfNums [240 + r / 262144, 128 + r / 4096 % 64, 128 + r / 64 % 64, 128 + r % 64])) ∧ Below w.heap.size w w' := by
  have HC := Lib.hid hc; clear hc
  have HZ := Lib.hid hz; clear hz
  have hst := str1
  go_enter Tryz.func15, Tryz.ntmps15
  go_wp2_with fail
  refine (HC.out _).mono ?_; rintro e w' ⟨rfl, rfl⟩
  go_wp2_with fail
  refine (HZ.out _).mono ?_; rintro e w' ⟨rfl, rfl⟩
  go_wp2_with fail
  go_rounds 5
  go_ret
  exact ⟨by rw [show r / 262144 = r / 64 / 64 / 64 by omega, show r / 4096 = r / 64 / 64 by omega]; rfl, by go_grown⟩
theorem refPut_is (r : Int) (w : World) (hs : isI r = true) : Calls Tryz.prog 15 #[.int .i64 r] w fun e w' => e = .returned (.string (strOfNums (putI r))) ∧ Below w.heap.size w w' := by
  have hc := fun w => refIs_any r w
  have hz := fun w => refSize_any r w
  rw [hs] at hc
  have h0 := isI_cases hs
  rcases (show r < 128 ∨ (128 ≤ r ∧ r < 2048) ∨ (2048 ≤ r ∧ r < 65536) ∨ 65536 ≤ r by omega) with h1 | ⟨h1, h2⟩ | ⟨h1, h2⟩ | h1
  · have ez : szI r = 1 := by simp [szI, hs]; omega
    have e : putI r = [r] := by unfold putI; rw [if_pos h1]
    rw [ez] at hz; rw [e]
    exact refPut1 r w h0.1 h1 hc hz
  · have ez : szI r = 2 := by simp [szI, hs]; omega
    have e : putI r = [192 + r / 64, 128 + r % 64] := by unfold putI; rw [if_neg (by omega), if_pos h2]
    rw [ez] at hz; rw [e]
    exact refPut2 r w h1 h2 hc hz
  · have ez : szI r = 3 := by simp [szI, hs]; omega
    have e : putI r = [224 + r / 4096, 128 + r / 64 % 64, 128 + r % 64] := by unfold putI; rw [if_neg (by omega), if_neg (by omega), if_pos h2]
    rw [ez] at hz; rw [e]
    exact refPut3 r w h1 h2 hc hz
  · have ez : szI r = 4 := by simp [szI, hs]; omega
    have e : putI r = [240 + r / 262144, 128 + r / 4096 % 64, 128 + r / 64 % 64, 128 + r % 64] := by unfold putI; rw [if_neg (by omega), if_neg (by omega), if_neg (by omega)]
    rw [ez] at hz; rw [e]
    exact refPut4 r w h1 h0.2 hc hz
end Go.Proofs.YtaapbmdojkjphaaGreat
namespace Go.Proofs.YtaapbmdojkjphaaGreat
open Go Go.RowKit
def okI (l : List Int) (n : Nat) : Bool := decide (n ≤ l.length) && isI (valI (l.take n)) && decide (putI (valI (l.take n)) = l.take n)
def rgetF (l : List Int) : Nat → Nat → Int × Int
  | 0, _ => (65533, 1)
  | f + 1, n => if okI l n = true then (valI (l.take n), n) else rgetF l f (n + 1)
theorem rgetF_end (l : List Int) : ∀ (f n : Nat), l.length < n → rgetF l f n = (65533, 1)
  | 0, _, _ => rfl
  | f + 1, n, h => by
    unfold rgetF
    have : okI l n = false := by unfold okI; rw [decide_eq_false (by omega)]; rfl
    rw [this]
    simp only [Bool.false_eq_true, if_false]
    exact rgetF_end l f (n + 1) (by omega)
theorem nums_extract (s : ByteArray) (k : Nat) : nums (s.extract 0 k) = (nums s).take k := by
  unfold nums
  rw [← List.map_take]
  congr 1
  simp [ByteArray.data_extract]
theorem putI_byte (r : Int) (h : isI r = true) : ∀ c ∈ putI r, 0 ≤ c ∧ c < 256 := by
  have h0 := isI_cases h
  intro c hc
  unfold putI at hc
  (repeat' split at hc) <;> simp at hc <;> omega
theorem str_cmp (x : List Int) (s : ByteArray) (hx : ∀ c ∈ x, 0 ≤ c ∧ c < 256) {y : List Int} (hs : nums s = y) : ((strOfNums x).toList == s.toList) = decide (x = y) := by
  subst hs
  rw [Bool.eq_iff_iff, beq_iff_eq, decide_eq_true_iff, ByteArray.toList_eq, ByteArray.toList_eq]
  constructor
  · intro h
    have e : strOfNums x = s := ByteArray.ext (Array.toList_inj.1 h)
    rw [← e, nums_strOfNums x hx]
  · intro h
    rw [h, strOfNums_nums]
theorem refGet_nil (s : ByteArray) (w : World) (h : s.size = 0) : Calls Tryz.prog 14 #[.string s] w fun e w' => e = .returned (.tuple #[.int .i64 65533, .int .i64 0]) ∧ Below w.heap.size w w' := by
  go_enter Tryz.func14, Tryz.ntmps14
  go_wp2
  go_ret2
  exact ⟨rfl, Below.refl _ _⟩
set_option maxHeartbeats 1000000 in
theorem refGet_some (s : ByteArray) (w : World) (h1 : 1 ≤ s.size) (hm : s.size ≤ maxLen) :
    Calls Tryz.prog 14 #[.string s] w fun e w' => e = .returned (.tuple #[.int .i64 (rgetF (nums s) 4 1).1, .int .i64 (rgetF (nums s) 4 1).2]) ∧ Below w.heap.size w w' := by
  unfold maxLen at hm
  have hz : ((s.size : Int) == 0) = false := by rw [beq_eq_false_iff_ne]; omega
  obtain ⟨G, hG⟩ : ∃ G, G = rgetF (nums s) 4 1 := ⟨_, rfl⟩
  rw [← hG]
  have HG := Lib.hid hG; clear hG
  go_enter Tryz.func14, Tryz.ntmps14
  go_wp2
  go_loopw [4] (fun vi wr => ∃ (k : Nat), 1 ≤ k ∧ k ≤ 5 ∧ vi = .int .i64 k ∧ Hid (rgetF (nums s) (5 - k) k = G) ∧ Below w.heap.size w wr) (fun vi _ => 5 - (intOf vi).toNat)
  case atStart => exact ⟨1, by omega, by omega, rfl, Lib.hid HG.out.symm, Below.refl _ _⟩
  case round =>
    obtain ⟨k, hk1, hk5, rfl, HK, hbel⟩ := hrel
    by_cases hk : k ≤ 4
    · by_cases hks : k ≤ s.size
      · have hsz : (s.extract 0 k).size = k := by rw [ByteArray.size_extract]; omega
        have hv := value_any (s.extract 0 k)
        rw [nums_extract] at hv
        have hok : okI (nums s) k = (isI (valI ((nums s).take k)) && decide (putI (valI ((nums s).take k)) = (nums s).take k)) := by
          unfold okI; rw [nums_length, decide_eq_true hks, Bool.true_and]
        have hstep : rgetF (nums s) (5 - k) k = if okI (nums s) k = true then (valI ((nums s).take k), (k : Int)) else rgetF (nums s) (5 - (k + 1)) (k + 1) := by
          rw [show 5 - k = (5 - (k + 1)) + 1 by omega]; rfl
        rw [HK.out, hok] at hstep
        clear hok
        have hcmp : ∀ x : List Int, (∀ c ∈ x, 0 ≤ c ∧ c < 256) → ((strOfNums x).toList == (s.extract 0 k).toList) = decide (x = (nums s).take k) := fun x hx => str_cmp x _ hx (nums_extract s k)
        obtain ⟨v, hv'⟩ : ∃ v, v = valI ((nums s).take k) := ⟨_, rfl⟩
        rw [← hv'] at hv hstep
        have HSZ := Lib.hid hsz; clear hsz
        have HV := Lib.hid hv; clear hv
        have HST := Lib.hid hstep; clear hstep
        have HCM := Lib.hid hcmp; clear hcmp
        clear hv'
        rcases hi : isI v with _ | _
        · have ia := fun w => (refIs_any v w)
          rw [hi] at ia
          have HI := Lib.hid hi; clear hi
          have HIA := Lib.hid ia; clear ia
          go_wp2_with fail
          refine (HV.out _ (by rw [HSZ.out]; omega) (by rw [HSZ.out]; omega)).mono ?_; rintro e w' ⟨rfl, rfl⟩
          go_wp2_with fail
          go_quiet ((go_at_call 30; exact Calls.quiet_of_same ((HIA.out _).mono fun e w' ⟨he, hw⟩ => ⟨he, hw.symm⟩)))
          go_wp2
          refine ⟨⟨k + 1, by omega, by omega, by go_num, Lib.hid ?_, below_drewN hbel nq⟩, by simp [intOf]; omega⟩
          have := HST.out
          rw [HI.out] at this
          simp only [Bool.false_and, Bool.false_eq_true, if_false] at this
          exact this.symm
        · have ia := fun w => (refIs_any v w)
          rw [hi] at ia
          have hp := fun w => refPut_is v w hi
          have hcm := HCM.out (putI v) (putI_byte v hi)
          have HI := Lib.hid hi; clear hi
          have HIA := Lib.hid ia; clear ia
          have HP := Lib.hid hp; clear hp
          by_cases heq : putI v = (nums s).take k
          · rw [decide_eq_true heq] at hcm
            have HGG : Hid (G = (v, (k : Int))) := by
              have := HST.out
              rw [HI.out, decide_eq_true heq] at this
              simp only [Bool.true_and, if_true] at this
              exact this
            clear heq
            go_wp2_with fail
            refine (HV.out _ (by rw [HSZ.out]; omega) (by rw [HSZ.out]; omega)).mono ?_; rintro e w' ⟨rfl, rfl⟩
            go_wp2_with fail
            go_region_held (fun _ => True) (trivial) (first
              | (go_at_call 30; refine (HIA.out _).mono ?_; rintro e w' ⟨rfl, rfl⟩)
              | (go_at_call 15; refine (HP.out _).mono ?_; rintro e w2 ⟨rfl, hb2⟩))
            all_goals
              go_wp2
              go_ret2
              exact ⟨by rw [HGG.out]; rfl, hbel.trans (Below.mono (((Below.refl wr.heap.size wr).drew).trans hb2) hbel.size)⟩
          · rw [decide_eq_false heq] at hcm
            have HGG : Hid (G = rgetF (nums s) (5 - (k + 1)) (k + 1)) := by
              have := HST.out
              rw [HI.out, decide_eq_false heq] at this
              simp only [Bool.true_and, Bool.false_eq_true, if_false] at this
              exact this
            clear heq
            go_wp2_with fail
            refine (HV.out _ (by rw [HSZ.out]; omega) (by rw [HSZ.out]; omega)).mono ?_; rintro e w' ⟨rfl, rfl⟩
            go_wp2_with fail
            go_region_held (fun _ => True) (trivial) (first
              | (go_at_call 30; refine (HIA.out _).mono ?_; rintro e w' ⟨rfl, rfl⟩)
              | (go_at_call 15; refine (HP.out _).mono ?_; rintro e w2 ⟨rfl, hb2⟩))
            all_goals
              go_wp2
              refine ⟨⟨k + 1, by omega, by omega, by go_num, Lib.hid HGG.out.symm, hbel.trans (Below.mono (((Below.refl wr.heap.size wr).drew).trans hb2) hbel.size)⟩, by simp [intOf]; omega⟩
      · have HE : Hid (G = (65533, 1)) := Lib.hid (by rw [← HK.out]; exact rgetF_end _ _ _ (by rw [nums_length]; omega))
        go_wp2
        go_ret2
        exact ⟨by rw [HE.out]; rfl, hbel⟩
    · obtain rfl : k = 5 := by omega
      have HE : Hid (G = (65533, 1)) := Lib.hid (by rw [← HK.out]; rfl)
      go_wp2
      go_ret2
      exact ⟨by rw [HE.out]; rfl, hbel⟩
end Go.Proofs.YtaapbmdojkjphaaGreat
namespace Go.Proofs.YtaapbmdojkjphaaGreat
open Go Go.RowKit
theorem szI_len {r : Int} (h : isI r = true) : szI r = (putI r).length := by
  unfold szI putI
  rw [h]
  simp only [Bool.true_eq_false, if_false]
  (repeat' split) <;> rfl
theorem putI_form {r : Int} (h : isI r = true) {x : Int} {t : List Int} (e : putI r = x :: t) : lenI x = (t.length : Int) + 1 ∧ ∀ c ∈ t, 128 ≤ c ∧ c < 192 := by
  have h0 := isI_cases h
  unfold putI at e
  (repeat' split at e) <;> injection e with e1 e2 <;> subst e1 <;> subst e2 <;> (refine ⟨?_, ?_⟩)
  · unfold lenI; simp; omega
  · simp
  · unfold lenI; simp; omega
  · intro c hc; simp at hc; omega
  · unfold lenI; simp; omega
  · intro c hc; simp at hc; omega
  · unfold lenI; simp; omega
  · intro c hc; simp at hc; omega
theorem okI_len {x : Int} {t : List Int} {n : Nat} (h : okI (x :: t) n = true) (hn : 1 ≤ n) : lenI x = n := by
  unfold okI at h
  simp only [Bool.and_eq_true, decide_eq_true_eq] at h
  obtain ⟨⟨h1, h2⟩, h3⟩ := h
  obtain ⟨m, rfl⟩ : ∃ m, n = m + 1 := ⟨n - 1, by omega⟩
  rw [List.take_succ_cons] at h2 h3
  have := (putI_form h2 h3).1
  simp at h1
  rw [List.length_take] at this
  omega
theorem rgetF_one {x : Int} {t : List Int} : rgetF (x :: t) 4 1 = if okI (x :: t) (lenI x).toNat = true ∧ 1 ≤ lenI x then (valI ((x :: t).take (lenI x).toNat), lenI x) else (65533, 1) := by
  have no : ∀ n : Nat, 1 ≤ n → lenI x ≠ n → okI (x :: t) n = false := fun n hn h => by
    cases hq : okI (x :: t) n with
    | false => rfl
    | true => exact absurd (okI_len hq hn) h
  unfold rgetF rgetF rgetF rgetF rgetF
  simp only [Nat.reduceAdd]
  rcases lenI_or x with h | h | h | h | h
  · rw [no 1 (by omega) (by omega), no 2 (by omega) (by omega), no 3 (by omega) (by omega), no 4 (by omega) (by omega), if_neg (show ¬ (okI (x :: t) (lenI x).toNat = true ∧ 1 ≤ lenI x) by omega)]
    rfl
  · rw [no 2 (by omega) (by omega), no 3 (by omega) (by omega), no 4 (by omega) (by omega), h]
    cases hq : okI (x :: t) 1 <;> simp [hq]
  · rw [no 1 (by omega) (by omega), no 3 (by omega) (by omega), no 4 (by omega) (by omega), h]
    cases hq : okI (x :: t) 2 <;> simp [hq]
  · rw [no 1 (by omega) (by omega), no 2 (by omega) (by omega), no 4 (by omega) (by omega), h]
    cases hq : okI (x :: t) 3 <;> simp [hq]
  · rw [no 1 (by omega) (by omega), no 2 (by omega) (by omega), no 3 (by omega) (by omega), h]
    cases hq : okI (x :: t) 4 <;> simp [hq]
theorem gat_conts : ∀ (r : Int) (t : List Int), (∀ c ∈ t, 128 ≤ c ∧ c < 192) → gat r t = (vtailI r t, true)
  | _, [], _ => rfl
  | r, c :: t, h => by
    have hc := h c (by simp)
    unfold gat vtailI
    rw [if_pos hc, show (c + 128) % 256 = c - 128 by omega]
    exact gat_conts _ t fun d hd => h d (List.mem_cons_of_mem _ hd)
theorem gat_not : ∀ (r : Int) (t : List Int), ¬ (∀ c ∈ t, 128 ≤ c ∧ c < 192) → (gat r t).2 = false
  | _, [], h => absurd (by simp) h
  | r, c :: t, h => by
    unfold gat
    split
    · rename_i hc
      exact gat_not _ t fun hh => h fun d hd => by
        rcases List.mem_cons.1 hd with rfl | hd
        · exact hc
        · exact hh d hd
    · rfl
theorem head_v {x : Int} (h0 : 0 ≤ x) (h : 1 ≤ lenI x) : headI (lenI x) x = vheadI x := by
  unfold lenI at h
  unfold headI vheadI lenI
  (repeat' split at h) <;> (repeat' split) <;> omega
theorem back2 {x b : Int} (hb : 128 ≤ b ∧ b < 192) (hs : szI ((x - 192) * 64 + (b - 128)) = 2) : putI ((x - 192) * 64 + (b - 128)) = [x, b] := by
  unfold szI at hs
  unfold putI
  (repeat' split at hs) <;> first | omega | skip
  rw [if_neg (by omega), if_pos (by omega)]
  congr 1
  · omega
  · congr 1; omega
theorem back3 {x b c : Int} (hb : 128 ≤ b ∧ b < 192) (hc : 128 ≤ c ∧ c < 192) (hs : szI (((x - 224) * 64 + (b - 128)) * 64 + (c - 128)) = 3) : putI (((x - 224) * 64 + (b - 128)) * 64 + (c - 128)) = [x, b, c] := by
  unfold szI at hs
  unfold putI
  (repeat' split at hs) <;> first | omega | skip
  rw [if_neg (by omega), if_neg (by omega), if_pos (by omega)]
  congr 1
  · omega
  · congr 1
    · omega
    · congr 1; omega
theorem back4 {x b c d : Int} (hb : 128 ≤ b ∧ b < 192) (hc : 128 ≤ c ∧ c < 192) (hd : 128 ≤ d ∧ d < 192) (hs : szI ((((x - 240) * 64 + (b - 128)) * 64 + (c - 128)) * 64 + (d - 128)) = 4) : putI ((((x - 240) * 64 + (b - 128)) * 64 + (c - 128)) * 64 + (d - 128)) = [x, b, c, d] := by
  unfold szI at hs
  unfold putI
  (repeat' split at hs) <;> first | omega | skip
  rw [if_neg (by omega), if_neg (by omega), if_neg (by omega)]
  congr 1
  · omega
  · congr 1
    · omega
    · congr 1
      · omega
      · congr 1; omega
theorem lenI_range (x : Int) : (lenI x = 2 → 192 ≤ x ∧ x < 224) ∧ (lenI x = 3 → 224 ≤ x ∧ x < 240) ∧ (lenI x = 4 → 240 ≤ x ∧ x < 248) ∧ (lenI x = 1 → x < 128) := by
  unfold lenI; (repeat' split) <;> omega
theorem szI_pos_is {r n : Int} (h : szI r = n) (hn : 1 ≤ n) : isI r = true := by
  cases hq : isI r with
  | true => rfl
  | false => unfold szI at h; rw [hq] at h; simp at h; omega
theorem get_same (x : Int) (t : List Int) (hx : 0 ≤ x) : getI (x :: t) = rgetF (x :: t) 4 1 := by
  rw [rgetF_one]
  have hr := lenI_range x
  simp only [getI]
  by_cases hf : lenI x = 0 ∨ (t.length : Int) + 1 < lenI x
  · rw [if_pos hf, if_neg]
    rintro ⟨h1, h2⟩
    unfold okI at h1
    simp only [Bool.and_eq_true, decide_eq_true_eq, List.length_cons] at h1
    omega
  rw [if_neg hf]
  obtain ⟨N, hN⟩ : ∃ N : Nat, lenI x = ((N + 1 : Nat) : Int) := ⟨(lenI x).toNat - 1, by have := lenI_or x; omega⟩
  have hh := head_v hx (by omega)
  rw [hN] at hf hh ⊢
  rw [hh, Int.toNat_natCast, Nat.add_sub_cancel, List.take_succ_cons]
  have hlen : (t.take N).length = N := by rw [List.length_take]; omega
  have hok : okI (x :: t) (N + 1) = (isI (valI (x :: t.take N)) && decide (putI (valI (x :: t.take N)) = x :: t.take N)) := by
    unfold okI
    rw [decide_eq_true (by simp; omega), Bool.true_and, List.take_succ_cons]
  rw [hok]
  generalize t.take N = u at *
  have hval : valI (x :: u) = vtailI (vheadI x) u := rfl
  rw [hval]
  by_cases hc : ∀ c ∈ u, 128 ≤ c ∧ c < 192
  · rw [gat_conts _ _ hc]
    simp only [true_and]
    obtain ⟨v, hv⟩ : ∃ v, v = vtailI (vheadI x) u := ⟨_, rfl⟩
    rw [← hv]
    have key : szI v = ((N + 1 : Nat) : Int) ↔ ((isI v && decide (putI v = x :: u)) = true ∧ 1 ≤ ((N + 1 : Nat) : Int)) := by
      constructor
      · intro hs
        refine ⟨?_, by omega⟩
        have hi := szI_pos_is hs (by omega)
        rw [hi, Bool.true_and, decide_eq_true_iff]
        have hor := lenI_or x
        rcases u with _ | ⟨b, _ | ⟨c, _ | ⟨d, _ | ⟨e, u⟩⟩⟩⟩
        · have hx1 := hr.2.2.2 (by simp at hlen; omega)
          have : v = x := by rw [hv]; unfold vtailI vheadI; (repeat' split) <;> omega
          rw [this]; unfold putI; rw [if_pos hx1]
        · have hx2 := hr.1 (by simp at hlen; omega)
          have hb := hc b (by simp)
          have : v = (x - 192) * 64 + (b - 128) := by rw [hv]; simp only [vtailI]; unfold vheadI; (repeat' split) <;> omega
          subst this
          exact back2 hb (by simp at hlen; omega)
        · have hx2 := hr.2.1 (by simp at hlen; omega)
          have hb := hc b (by simp)
          have hc' := hc c (by simp)
          have : v = ((x - 224) * 64 + (b - 128)) * 64 + (c - 128) := by rw [hv]; simp only [vtailI]; unfold vheadI; (repeat' split) <;> omega
          subst this
          exact back3 hb hc' (by simp at hlen; omega)
        · have hx2 := hr.2.2.1 (by simp at hlen; omega)
          have hb := hc b (by simp)
          have hc' := hc c (by simp)
          have hd := hc d (by simp)
          have : v = (((x - 240) * 64 + (b - 128)) * 64 + (c - 128)) * 64 + (d - 128) := by rw [hv]; simp only [vtailI]; unfold vheadI; (repeat' split) <;> omega
          subst this
          exact back4 hb hc' hd (by simp at hlen; omega)
        · simp at hlen; omega
      · rintro ⟨h, _⟩
        simp only [Bool.and_eq_true, decide_eq_true_eq] at h
        rw [szI_len h.1, h.2, List.length_cons, hlen]
    by_cases hs : szI v = ((N + 1 : Nat) : Int)
    · rw [if_pos hs, if_pos (key.1 hs)]
    · rw [if_neg hs, if_neg (fun h => hs (key.2 h))]
  · rw [gat_not _ _ hc, if_neg (by simp), if_neg]
    rintro ⟨h, _⟩
    simp only [Bool.and_eq_true, decide_eq_true_eq] at h
    exact hc (putI_form h.1 h.2).2
end Go.Proofs.YtaapbmdojkjphaaGreat
namespace Go.Proofs.YtaapbmdojkjphaaGreat
open Go Go.RowKit
set_option linter.unusedVariables false
theorem valI_put {s : Int} (h : isI s = true) : valI (putI s) = s := by
  have h0 := isI_cases h
  unfold putI
  (repeat' split) <;> simp only [valI, vtailI] <;> unfold vheadI <;> (repeat' split) <;> omega
theorem get_put {s : Int} (h : isI s = true) (rest : List Int) : getI (putI s ++ rest) = (s, ((putI s).length : Int)) := by
  cases hp : putI s with
  | nil => unfold putI at hp; (repeat' split at hp) <;> cases hp
  | cons x t =>
    have hf := putI_form h hp
    rw [List.cons_append, get_same x _ (putI_byte s h x (by rw [hp]; simp)).1, rgetF_one, hf.1]
    have ht : (x :: (t ++ rest)).take ((t.length : Int) + 1).toNat = putI s := by
      rw [hp, show ((t.length : Int) + 1).toNat = t.length + 1 by omega, List.take_succ_cons, List.take_left]
    have hok : okI (x :: (t ++ rest)) ((t.length : Int) + 1).toNat = true := by
      unfold okI
      rw [ht, valI_put h, h, decide_eq_true rfl, decide_eq_true (by simp)]
      rfl
    rw [if_pos ⟨hok, by omega⟩, ht, valI_put h]
    simp
theorem putI_len (r : Int) : 1 ≤ (putI r).length ∧ (putI r).length ≤ 4 := by unfold putI; (repeat' split) <;> simp
theorem getI_bounds {l : List Int} (h : l ≠ []) : 1 ≤ (getI l).2 ∧ (getI l).2 ≤ l.length := by
  cases l with
  | nil => exact absurd rfl h
  | cons x t =>
    simp only [getI, List.length_cons]
    have := lenI_or x
    (repeat' split) <;> simp <;> omega
theorem getI_is (l : List Int) : isI (getI l).1 = true := by
  cases l with
  | nil => decide
  | cons x t =>
    simp only [getI]
    split
    · decide
    · split
      · rename_i h1 h2
        exact szI_pos_is h2.2 (by have := lenI_or x; omega)
      · decide
def putAll : List Int → List Int
  | [] => []
  | c :: cs => putI c ++ putAll cs
theorem putAll_snoc : ∀ (cs : List Int) (c : Int), putAll (cs ++ [c]) = putAll cs ++ putI c
  | [], c => by simp [putAll]
  | d :: cs, c => by simp only [List.cons_append, putAll, putAll_snoc cs c, List.append_assoc]
theorem putAll_append : ∀ (ds bs : List Int), putAll (ds ++ bs) = putAll ds ++ putAll bs
  | [], _ => rfl
  | d :: ds, bs => by simp only [List.cons_append, putAll, putAll_append ds bs, List.append_assoc]
theorem putAll_len : ∀ cs : List Int, cs.length ≤ (putAll cs).length ∧ (putAll cs).length ≤ 4 * cs.length
  | [] => by simp [putAll]
  | c :: cs => by
    have h := putI_len c
    have h2 := putAll_len cs
    simp only [putAll, List.length_append, List.length_cons]
    omega
theorem putAll_byte : ∀ cs : List Int, (∀ c ∈ cs, isI c = true) → ∀ x ∈ putAll cs, 0 ≤ x ∧ x < 256
  | [], _, x, hx => by simp [putAll] at hx
  | c :: cs, h, x, hx => by
    rw [putAll, List.mem_append] at hx
    rcases hx with hx | hx
    · exact putI_byte c (h c (by simp)) x hx
    · exact putAll_byte cs (fun d hd => h d (List.mem_cons_of_mem _ hd)) x hx
end Go.Proofs.YtaapbmdojkjphaaGreat
