/- What Open of package code gives. -/
import Derived.Test.YtoojfjealncddaaDoorOpen
namespace Go.Proofs.YtoojfjealncddaaDoor
open Go Go.RowKit

/-- What Open gives, of octets as numbers. -/
def openI : List Int → Bool
  | [] => true
  | x :: t => if lenI x ≤ (t.length : Int) + 1 then false else
    if (gat (headI (lenI x) x) t).2 = false then false else
      decide (szI ((gat (headI (lenI x) x) t).1 * 64 ^ (lenI x - (t.length + 1)).toNat) = lenI x) ||
      decide (szI ((gat (headI (lenI x) x) t).1 * 64 ^ (lenI x - (t.length + 1)).toNat + (64 ^ (lenI x - (t.length + 1)).toNat - 1)) = lenI x)

theorem gat_room : ∀ (t : List Int) (k : Nat) (r : Int), Room k r → k + t.length ≤ 3 → 0 ≤ (gat r t).1 ∧ (gat r t).1 < 33554432
  | [], k, r, h, hk => h.lt (by simpa using hk)
  | c :: t, k, r, h, hk => by
    simp at hk
    unfold gat
    split
    · rename_i hc
      exact gat_room t (k + 1) _ (h.next (by omega) (by omega) (by omega)) (by omega)
    · exact ⟨by simp, by simp⟩
theorem gat_append : ∀ (r : Int) (t u : List Int), gat r (t ++ u) = if (gat r t).2 = true then gat (gat r t).1 u else (0, false)
  | r, [], u => by simp [gat]
  | r, c :: t, u => by
    simp only [List.cons_append, gat]
    split
    · exact gat_append _ t u
    · simp

theorem getI_snd (x : Int) (t : List Int) : (getI (x :: t)).2 = 1 ∨ (getI (x :: t)).2 = lenI x := by
  simp only [getI]
  (repeat' split) <;> simp

/-- WHAT Open GIVES, of octets that read as a list. -/
theorem copen_any (A : Option Addr) (len cap : Nat) (l : List Int) (w : World) (hr : RowI .u8 w A len l) (hby : ∀ c ∈ l, 0 ≤ c ∧ c < 256) (hcap : len ≤ cap) (hcm : cap ≤ maxLen) (hlen : (len : Int) ≤ 4611686018427387904) :
    Calls Tryd.prog 37 #[.slice A len cap] w fun e w' => e = .returned (.bool (openI l)) ∧ ∃ q, w' = w.drewN q := by
  obtain ⟨hl, hc⟩ := hr
  rcases l with _ | ⟨x, t⟩
  · obtain rfl : len = 0 := hl.symm
    exact copen_nil A cap w
  · obtain rfl : len = t.length + 1 := by simpa using hl.symm
    obtain ⟨b, o, rfl, _, hcell⟩ := hc (by omega)
    have hx := hby x (by simp)
    have hc0 : w.cell? ⟨b, o, none⟩ = some (.int .u8 x) := by simpa using hcell 0 (by omega)
    have hl := fun w => length_any x w hx.1 hx.2
    have hor := lenI_or x
    simp only [openI]
    by_cases hf : lenI x ≤ (t.length : Int) + 1
    · rw [if_pos hf]
      exact copen_whole b o t.length cap x (lenI x) w (by omega) hc0 hf hl
    · rw [if_neg hf]
      have hn : lenI x = 1 ∨ lenI x = 2 ∨ lenI x = 3 ∨ lenI x = 4 := by omega
      have hg : Calls Tryd.prog 50 #[.slice (some ⟨b, o, none⟩) ((t.length + 1 : Nat) : Nat) cap, .int .i64 (lenI x)] w fun e w' =>
          e = .returned (.tuple #[.int .i64 (gat (headI (lenI x) x) t).1, .bool (gat (headI (lenI x) x) t).2]) ∧ ∃ q, w' = w.drewN q := by
        rcases t with _ | ⟨y, t⟩
        · exact gather_1 b o cap (lenI x) x w hn (by simpa using hcap) hcm hx.1 hx.2 hc0
        · exact gather_n b o (y :: t).length cap (lenI x) x (y :: t) w hn rfl (by simp) (by omega) hcap hcm hx.1 hx.2 hc0 (fun j hj => by
            have := hcell (j + 1) (by omega)
            rw [show o + 1 + j = o + (j + 1) by omega, this]
            simp [List.getD]) (fun c hc => hby c (List.mem_cons_of_mem _ hc))
      have hroom := gat_room t 0 (headI (lenI x) x) (headI_room _ _) (by omega)
      have hgd : ∀ g : Int × Bool, g = gat (headI (lenI x) x) t → g = gat (headI (lenI x) x) t := fun _ h => h
      generalize gat (headI (lenI x) x) t = g at *
      obtain ⟨r, ok⟩ := g
      clear hgd
      cases ok
      · simp only [if_true]
        exact copen_bad b o t.length cap x (lenI x) r w (by omega) hc0 hf hl hg
      · simp only [Bool.true_eq_false, if_false]
        generalize lenI x = n at *
        refine copen_in b o t.length cap x n r (64 ^ (n - (t.length + 1)).toNat) w hc0 hroom.1 hroom.2 ?_ hl hg
        have hm : t.length = 0 ∨ t.length = 1 ∨ t.length = 2 := by omega
        rcases hm with h | h | h <;> rw [h] <;> rcases hn with h2 | h2 | h2 | h2 <;> subst h2 <;> simp <;> omega

end Go.Proofs.YtoojfjealncddaaDoor
