/- The contract of Get of package code. -/
import Derived.Test.YtoojfjealncddaaDoorGather
namespace Go.Proofs.YtoojfjealncddaaDoor
open Go Go.RowKit

/-- What Get gives, of octets as numbers. -/
def getI : List Int → Int × Int
  | [] => (65533, 0)
  | x :: t => if lenI x = 0 ∨ (t.length : Int) + 1 < lenI x then (65533, 1) else
    if (gat (headI (lenI x) x) (t.take ((lenI x).toNat - 1))).2 = true ∧ szI (gat (headI (lenI x) x) (t.take ((lenI x).toNat - 1))).1 = lenI x
      then ((gat (headI (lenI x) x) (t.take ((lenI x).toNat - 1))).1, lenI x) else (65533, 1)

theorem get_nil (A : Option Addr) (cap : Nat) (w : World) : Calls Tryd.prog 38 #[.slice A 0 cap] w fun e w' => e = .returned (.tuple #[.int .i64 65533, .int .i64 0]) ∧ ∃ q, w' = w.drewN q := by
  go_enter Tryd.func38, Tryd.ntmps38
  go_wp2
  go_ret2
  exact ⟨rfl, 0, rfl⟩

theorem get_fail (b o m cap : Nat) (x n : Int) (w : World) (hm : (m : Int) ≤ 4611686018427387904) (hc : w.cell? ⟨b, o, none⟩ = some (.int .u8 x)) (hn : n = 0 ∨ (m : Int) + 1 < n)
    (hl : ∀ w, Calls Tryd.prog 49 #[.int .u8 x] w fun e w' => e = .returned (.int .i64 n) ∧ w = w') :
    Calls Tryd.prog 38 #[.slice (some ⟨b, o, none⟩) ((m + 1 : Nat) : Nat) cap] w fun e w' => e = .returned (.tuple #[.int .i64 65533, .int .i64 1]) ∧ ∃ q, w' = w.drewN q := by
  have HL := Lib.hid hl; clear hl
  have hz : (((m + 1 : Nat) : Int) == 0) = false := by simp; omega
  by_cases h0 : n = 0
  · subst h0
    go_enter Tryd.func38, Tryd.ntmps38
    go_wp2_with fail
    refine (HL.out _).mono ?_; rintro e w' ⟨rfl, rfl⟩
    go_wp2_with fail
    go_ret2
    exact ⟨rfl, 0, rfl⟩
  · have hb : (n == 0) = false := by simp; omega
    have hg : (m : Int) + 1 < n := by omega
    clear h0 hn
    go_enter Tryd.func38, Tryd.ntmps38
    go_wp2_with fail
    refine (HL.out _).mono ?_; rintro e w' ⟨rfl, rfl⟩
    go_wp2_with fail
    go_ret2
    exact ⟨rfl, 0, rfl⟩

theorem get_bad (b o m cap : Nat) (x n r : Int) (w : World) (hm : (m : Int) ≤ 4611686018427387904) (hcap : m + 1 ≤ cap) (hc : w.cell? ⟨b, o, none⟩ = some (.int .u8 x)) (hn : n = 1 ∨ n = 2 ∨ n = 3 ∨ n = 4) (hnm : n ≤ (m : Int) + 1)
    (hl : ∀ w, Calls Tryd.prog 49 #[.int .u8 x] w fun e w' => e = .returned (.int .i64 n) ∧ w = w')
    (hg : Calls Tryd.prog 50 #[.slice (some ⟨b, o, none⟩) n.toNat cap, .int .i64 n] w fun e w' => e = .returned (.tuple #[.int .i64 r, .bool false]) ∧ ∃ q, w' = w.drewN q) :
    Calls Tryd.prog 38 #[.slice (some ⟨b, o, none⟩) ((m + 1 : Nat) : Nat) cap] w fun e w' => e = .returned (.tuple #[.int .i64 65533, .int .i64 1]) ∧ ∃ q, w' = w.drewN q := by
  have HL := Lib.hid hl; clear hl
  have HG := Lib.hid hg; clear hg
  have hz : (((m + 1 : Nat) : Int) == 0) = false := by simp; omega
  have hnb : decide ((m : Int) + 1 < n) = false := by simp; omega
  rcases hn with rfl | rfl | rfl | rfl
  all_goals
    go_enter Tryd.func38, Tryd.ntmps38
    go_wp2_with fail
    refine (HL.out _).mono ?_; rintro e w' ⟨rfl, rfl⟩
    go_wp2_with fail
    refine HG.out.mono ?_; rintro e w' ⟨rfl, q, rfl⟩
    go_wp2_with fail
    go_ret2
    exact ⟨rfl, q, rfl⟩

theorem get_odd (b o m cap : Nat) (x n r : Int) (z : Int) (w : World) (hm : (m : Int) ≤ 4611686018427387904) (hcap : m + 1 ≤ cap) (hc : w.cell? ⟨b, o, none⟩ = some (.int .u8 x)) (hn : n = 1 ∨ n = 2 ∨ n = 3 ∨ n = 4) (hnm : n ≤ (m : Int) + 1)
    (hl : ∀ w, Calls Tryd.prog 49 #[.int .u8 x] w fun e w' => e = .returned (.int .i64 n) ∧ w = w')
    (hg : Calls Tryd.prog 50 #[.slice (some ⟨b, o, none⟩) n.toNat cap, .int .i64 n] w fun e w' => e = .returned (.tuple #[.int .i64 r, .bool true]) ∧ ∃ q, w' = w.drewN q)
    (hs : ∀ w, Calls Tryd.prog 40 #[.int .i64 r] w fun e w' => e = .returned (.int .i64 z) ∧ w = w') (hzn : ¬ z = n) :
    Calls Tryd.prog 38 #[.slice (some ⟨b, o, none⟩) ((m + 1 : Nat) : Nat) cap] w fun e w' => e = .returned (.tuple #[.int .i64 65533, .int .i64 1]) ∧ ∃ q, w' = w.drewN q := by
  have HL := Lib.hid hl; clear hl
  have HG := Lib.hid hg; clear hg
  have hz : (((m + 1 : Nat) : Int) == 0) = false := by simp; omega
  have hnb : decide ((m : Int) + 1 < n) = false := by simp; omega
  have HS := Lib.hid hs; clear hs
  have hzz : (z != n) = true := by simpa using hzn
  clear hzn
  rcases hn with rfl | rfl | rfl | rfl
  all_goals
    go_enter Tryd.func38, Tryd.ntmps38
    go_wp2_with fail
    refine (HL.out _).mono ?_; rintro e w' ⟨rfl, rfl⟩
    go_wp2_with fail
    refine HG.out.mono ?_; rintro e w' ⟨rfl, q, rfl⟩
    go_wp2_with fail
    refine (HS.out _).mono ?_; rintro e w' ⟨rfl, rfl⟩
    go_wp2_with fail
    go_ret2
    exact ⟨rfl, q, rfl⟩

theorem get_good (b o m cap : Nat) (x n r : Int) (w : World) (hm : (m : Int) ≤ 4611686018427387904) (hcap : m + 1 ≤ cap) (hc : w.cell? ⟨b, o, none⟩ = some (.int .u8 x)) (hn : n = 1 ∨ n = 2 ∨ n = 3 ∨ n = 4) (hnm : n ≤ (m : Int) + 1)
    (hl : ∀ w, Calls Tryd.prog 49 #[.int .u8 x] w fun e w' => e = .returned (.int .i64 n) ∧ w = w')
    (hg : Calls Tryd.prog 50 #[.slice (some ⟨b, o, none⟩) n.toNat cap, .int .i64 n] w fun e w' => e = .returned (.tuple #[.int .i64 r, .bool true]) ∧ ∃ q, w' = w.drewN q)
    (hs : ∀ w, Calls Tryd.prog 40 #[.int .i64 r] w fun e w' => e = .returned (.int .i64 n) ∧ w = w') :
    Calls Tryd.prog 38 #[.slice (some ⟨b, o, none⟩) ((m + 1 : Nat) : Nat) cap] w fun e w' => e = .returned (.tuple #[.int .i64 r, .int .i64 n]) ∧ ∃ q, w' = w.drewN q := by
  have HL := Lib.hid hl; clear hl
  have HG := Lib.hid hg; clear hg
  have hz : (((m + 1 : Nat) : Int) == 0) = false := by simp; omega
  have hnb : decide ((m : Int) + 1 < n) = false := by simp; omega
  have HS := Lib.hid hs; clear hs
  have hzz : (n != n) = false := by simp
  rcases hn with rfl | rfl | rfl | rfl
  all_goals
    go_enter Tryd.func38, Tryd.ntmps38
    go_wp2_with fail
    refine (HL.out _).mono ?_; rintro e w' ⟨rfl, rfl⟩
    go_wp2_with fail
    refine HG.out.mono ?_; rintro e w' ⟨rfl, q, rfl⟩
    go_wp2_with fail
    refine (HS.out _).mono ?_; rintro e w' ⟨rfl, rfl⟩
    go_wp2_with fail
    go_ret2
    exact ⟨rfl, q, rfl⟩

theorem lenI_or (x : Int) : lenI x = 0 ∨ lenI x = 1 ∨ lenI x = 2 ∨ lenI x = 3 ∨ lenI x = 4 := by
  unfold lenI; (repeat' split) <;> omega

/-- WHAT Get GIVES, of octets that read as a list. -/
theorem get_any (A : Option Addr) (len cap : Nat) (l : List Int) (w : World) (hr : RowI .u8 w A len l) (hby : ∀ c ∈ l, 0 ≤ c ∧ c < 256) (hcap : len ≤ cap) (hcm : cap ≤ maxLen) (hlen : (len : Int) ≤ 4611686018427387904) :
    Calls Tryd.prog 38 #[.slice A len cap] w fun e w' => e = .returned (.tuple #[.int .i64 (getI l).1, .int .i64 (getI l).2]) ∧ ∃ q, w' = w.drewN q := by
  obtain ⟨hl, hc⟩ := hr
  rcases l with _ | ⟨x, t⟩
  · obtain rfl : len = 0 := hl.symm
    exact get_nil A cap w
  · obtain rfl : len = t.length + 1 := by simpa using hl.symm
    obtain ⟨b, o, rfl, _, hcell⟩ := hc (by omega)
    have hx := hby x (by simp)
    have hc0 : w.cell? ⟨b, o, none⟩ = some (.int .u8 x) := by simpa using hcell 0 (by omega)
    have hl := fun w => length_any x w hx.1 hx.2
    have hor := lenI_or x
    have hgd : getI (x :: t) = if lenI x = 0 ∨ (t.length : Int) + 1 < lenI x then (65533, 1) else
      if (gat (headI (lenI x) x) (t.take ((lenI x).toNat - 1))).2 = true ∧ szI (gat (headI (lenI x) x) (t.take ((lenI x).toNat - 1))).1 = lenI x
      then ((gat (headI (lenI x) x) (t.take ((lenI x).toNat - 1))).1, lenI x) else (65533, 1) := rfl
    rw [hgd]
    generalize lenI x = n at *
    clear hgd
    by_cases hf : n = 0 ∨ (t.length : Int) + 1 < n
    · rw [if_pos hf]
      exact get_fail b o t.length cap x n w (by omega) hc0 hf hl
    · rw [if_neg hf]
      have hn : n = 1 ∨ n = 2 ∨ n = 3 ∨ n = 4 := by omega
      have hg : Calls Tryd.prog 50 #[.slice (some ⟨b, o, none⟩) n.toNat cap, .int .i64 n] w fun e w' =>
          e = .returned (.tuple #[.int .i64 (gat (headI n x) (t.take (n.toNat - 1))).1, .bool (gat (headI n x) (t.take (n.toNat - 1))).2]) ∧ ∃ q, w' = w.drewN q := by
        by_cases h1 : n = 1
        · subst h1
          have := gather_1 b o cap 1 x w (by omega) (by omega) hcm hx.1 hx.2 hc0
          simpa [gat] using this
        · have hnt : n.toNat = (n.toNat - 1) + 1 := by omega
          rw [hnt]
          exact gather_n b o (n.toNat - 1) cap n x (t.take (n.toNat - 1)) w hn (by simp; omega) (by omega) (by omega) (by omega) hcm hx.1 hx.2 hc0 (fun j hj => by
            have := hcell (j + 1) (by omega)
            rw [show o + 1 + j = o + (j + 1) by omega, this]
            simp [List.getD, hj]) (fun c hc => hby c (List.mem_cons_of_mem _ (List.mem_of_mem_take hc)))
      generalize gat (headI n x) (t.take (n.toNat - 1)) = g at *
      obtain ⟨r, ok⟩ := g
      cases ok
      · simp only [Bool.false_eq_true, false_and, if_false]
        exact get_bad b o t.length cap x n r w (by omega) hcap hc0 hn (by omega) hl hg
      · by_cases hz : szI r = n
        · simp only [hz, and_self, if_true]
          exact get_good b o t.length cap x n r w (by omega) hcap hc0 hn (by omega) hl hg (fun w => hz ▸ size_any r w)
        · simp only [hz, and_false, if_false]
          exact get_odd b o t.length cap x n r (szI r) w (by omega) hcap hc0 hn (by omega) hl hg (fun w => size_any r w) hz
end Go.Proofs.YtoojfjealncddaaDoor
