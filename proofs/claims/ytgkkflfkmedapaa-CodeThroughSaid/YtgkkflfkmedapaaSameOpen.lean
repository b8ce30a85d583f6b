/- What Open of package code gives is what the document's Open gives. -/
import Derived.Test.YtgkkflfkmedapaaOpen
import Derived.Test.YtgkkflfkmedapaaRefOpenB
namespace Go.Proofs.Ytgkkflfkmedapaa
open Go Go.RowKit

/-- What Open gives, of octets as numbers. -/
def openI : List Int → Bool
  | [] => true
  | x :: t => if lenI x ≤ (t.length : Int) + 1 then false else
    if (gat (headI (lenI x) x) t).2 = false then false else
      decide (szI ((gat (headI (lenI x) x) t).1 * 64 ^ (lenI x - (t.length + 1)).toNat) = lenI x) ||
      decide (szI ((gat (headI (lenI x) x) t).1 * 64 ^ (lenI x - (t.length + 1)).toNat + (64 ^ (lenI x - (t.length + 1)).toNat - 1)) = lenI x)

theorem gat_room : ∀ (t : List Int) (k : Nat) (r : Int), Room k r → k + t.length ≤ 3 → 0 ≤ (gat r t).1 ∧ (gat r t).1 < 33554432
  | [], k, r, h, hk => h.lt (by simpa using hk)
  | c :: t, k, r, h, hk => by
    simp at hk
    unfold gat
    split
    · rename_i hc
      exact gat_room t (k + 1) _ (h.next (by omega) (by omega) (by omega)) (by omega)
    · exact ⟨by simp, by simp⟩
theorem gat_append : ∀ (r : Int) (t u : List Int), gat r (t ++ u) = if (gat r t).2 = true then gat (gat r t).1 u else (0, false)
  | r, [], u => by simp [gat]
  | r, c :: t, u => by
    simp only [List.cons_append, gat]
    split
    · exact gat_append _ t u
    · simp

theorem getI_snd (x : Int) (t : List Int) : (getI (x :: t)).2 = 1 ∨ (getI (x :: t)).2 = lenI x := by
  simp only [getI]
  (repeat' split) <;> simp

theorem tries_false (l : List Int) (h : ∀ k : Nat, 1 ≤ k → tailOk l k 128 = false ∧ tailOk l k 191 = false) : ∀ (f k : Nat), 1 ≤ k → tries l f k = false
  | 0, _, _ => rfl
  | f + 1, k, hk => by
    rw [tries, (h k hk).1, (h k hk).2, tries_false l h f (k + 1) (by omega)]
    rfl
theorem tries_one (l : List Int) (m : Nat) (h : ∀ k : Nat, 1 ≤ k → k ≠ m → tailOk l k 128 = false ∧ tailOk l k 191 = false) : ∀ (f k : Nat), 1 ≤ k → k ≤ m → m < k + f → tries l f k = (tailOk l m 128 || tailOk l m 191)
  | 0, k, _, h1, h2 => by omega
  | f + 1, k, hk, h1, h2 => by
    by_cases e : k = m
    · subst e
      have hrest : tries l f (k + 1) = false := by
        clear h2
        have : ∀ (f j : Nat), k < j → tries l f j = false := by
          intro f
          induction f with
          | zero => intros; rfl
          | succ f ih =>
            intro j hj
            rw [tries, (h j (by omega) (by omega)).1, (h j (by omega) (by omega)).2, ih (j + 1) (by omega)]
            rfl
        exact this f (k + 1) (by omega)
      rw [tries, hrest, Bool.or_false]
    · rw [tries, (h k hk e).1, (h k hk e).2, tries_one l m h f (k + 1) (by omega) (by omega) (by omega)]
      rfl

theorem tailOk_no {x : Int} {t : List Int} {k : Nat} {c : Int} (hk : 1 ≤ k) (h : lenI x ≠ (t.length : Int) + 1 + k) : tailOk (x :: t) k c = false := by
  unfold tailOk
  have := getI_snd x (t ++ List.replicate k c)
  rw [List.cons_append, decide_eq_false]
  · rfl
  · simp only [List.length_cons]
    omega

theorem tailOk_at {x : Int} {t : List Int} {m : Nat} {c : Int} (hm : 1 ≤ m) (h : lenI x = (t.length : Int) + 1 + m) (hc : 128 ≤ c ∧ c < 192) :
    tailOk (x :: t) m c = ((gat (headI (lenI x) x) t).2 && decide (szI (vtailI (gat (headI (lenI x) x) t).1 (List.replicate m c)) = lenI x)) := by
  have hrep : ∀ d ∈ List.replicate m c, 128 ≤ d ∧ d < 192 := fun d hd => by rw [(List.mem_replicate.1 hd).2]; exact hc
  have hg : (getI (x :: (t ++ List.replicate m c))).2 = if (gat (headI (lenI x) x) t).2 = true ∧ szI (vtailI (gat (headI (lenI x) x) t).1 (List.replicate m c)) = lenI x then lenI x else 1 := by
    simp only [getI]
    rw [if_neg (by simp; omega), List.take_of_length_le (by simp; omega), gat_append]
    cases hg2 : (gat (headI (lenI x) x) t).2
    · simp
    · simp only [if_true]
      rw [gat_conts _ _ hrep]
      simp only [true_and]
      split <;> rfl
  unfold tailOk
  rw [List.cons_append, hg, List.length_cons]
  by_cases hh : (gat (headI (lenI x) x) t).2 = true ∧ szI (vtailI (gat (headI (lenI x) x) t).1 (List.replicate m c)) = lenI x
  · rw [if_pos hh, hh.1, decide_eq_true hh.2, decide_eq_true (by omega), decide_eq_true (by omega)]
  · rw [if_neg hh, decide_eq_false (show ¬ (1 : Int) = ((t.length + 1 : Nat) : Int) + m by omega), Bool.false_and]
    cases hg2 : (gat (headI (lenI x) x) t).2
    · rfl
    · rw [hg2] at hh
      simp at hh
      rw [decide_eq_false hh]
      rfl

theorem open_same (x : Int) (t : List Int) : openI (x :: t) = ropenI (x :: t) := by
  have hor := lenI_or x
  have hlen1 := (lenI_range x).2.2.2
  simp only [openI, ropenI, List.length_cons]
  by_cases hn : lenI x ≤ (t.length : Int) + 1
  · rw [if_pos hn]
    by_cases hcond : 1 < (getI (x :: t)).2 ∨ 3 < t.length + 1 ∨ x < 128
    · rw [if_pos hcond]
    · rw [if_neg hcond]
      exact (tries_false _ (fun k hk => ⟨tailOk_no hk (by omega), tailOk_no hk (by omega)⟩) _ _ (by omega)).symm
  · rw [if_neg hn]
    have hlt : ¬ x < 128 := by
      intro h
      have : lenI x = 1 := by unfold lenI; rw [if_pos h]
      omega
    have hg1 : (getI (x :: t)).2 = 1 := by simp only [getI]; rw [if_pos (by omega)]
    rw [if_neg (show ¬ (1 < (getI (x :: t)).2 ∨ 3 < t.length + 1 ∨ x < 128) by rw [hg1]; omega)]
    obtain ⟨m, hm⟩ : ∃ m : Nat, lenI x = (t.length : Int) + 1 + m := ⟨(lenI x - (t.length + 1)).toNat, by omega⟩
    rw [tries_one (x :: t) m (fun k hk hne => ⟨tailOk_no hk (by omega), tailOk_no hk (by omega)⟩) _ _ (by omega) (by omega) (by omega)]
    rw [tailOk_at (by omega) hm (by omega), tailOk_at (by omega) hm (by omega), show (lenI x - (t.length + 1)).toNat = m by omega]
    generalize gat (headI (lenI x) x) t = g
    obtain ⟨g, ok⟩ := g
    cases ok
    · rfl
    · simp only [Bool.true_eq_false, if_false, Bool.true_and]
      have hm3 : m = 1 ∨ m = 2 ∨ m = 3 := by omega
      have e1 : g * 64 ^ m = vtailI g (List.replicate m 128) := by
        rcases hm3 with rfl | rfl | rfl <;> simp [List.replicate, vtailI] <;> omega
      have e2 : g * 64 ^ m + (64 ^ m - 1) = vtailI g (List.replicate m 191) := by
        rcases hm3 with rfl | rfl | rfl <;> simp [List.replicate, vtailI] <;> omega
      rw [← e1, ← e2]

/-- WHAT Open GIVES, of octets that read as a list. -/
theorem copen_any (A : Option Addr) (len cap : Nat) (l : List Int) (w : World) (hr : RowI .u8 w A len l) (hby : ∀ c ∈ l, 0 ≤ c ∧ c < 256) (hcap : len ≤ cap) (hcm : cap ≤ maxLen) (hlen : (len : Int) ≤ 4611686018427387904) :
    Calls Try.prog 18 #[.slice A len cap] w fun e w' => e = .returned (.bool (openI l)) ∧ ∃ q, w' = w.drewN q := by
  obtain ⟨hl, hc⟩ := hr
  rcases l with _ | ⟨x, t⟩
  · obtain rfl : len = 0 := hl.symm
    exact copen_nil A cap w
  · obtain rfl : len = t.length + 1 := by simpa using hl.symm
    obtain ⟨b, o, rfl, _, hcell⟩ := hc (by omega)
    have hx := hby x (by simp)
    have hc0 : w.cell? ⟨b, o, none⟩ = some (.int .u8 x) := by simpa using hcell 0 (by omega)
    have hl := fun w => length_any x w hx.1 hx.2
    have hor := lenI_or x
    simp only [openI]
    by_cases hf : lenI x ≤ (t.length : Int) + 1
    · rw [if_pos hf]
      exact copen_whole b o t.length cap x (lenI x) w (by omega) hc0 hf hl
    · rw [if_neg hf]
      have hn : lenI x = 1 ∨ lenI x = 2 ∨ lenI x = 3 ∨ lenI x = 4 := by omega
      have hg : Calls Try.prog 29 #[.slice (some ⟨b, o, none⟩) ((t.length + 1 : Nat) : Nat) cap, .int .i64 (lenI x)] w fun e w' =>
          e = .returned (.tuple #[.int .i64 (gat (headI (lenI x) x) t).1, .bool (gat (headI (lenI x) x) t).2]) ∧ ∃ q, w' = w.drewN q := by
        rcases t with _ | ⟨y, t⟩
        · exact gather_1 b o cap (lenI x) x w hn (by simpa using hcap) hcm hx.1 hx.2 hc0
        · exact gather_n b o (y :: t).length cap (lenI x) x (y :: t) w hn rfl (by simp) (by omega) hcap hcm hx.1 hx.2 hc0 (fun j hj => by
            have := hcell (j + 1) (by omega)
            rw [show o + 1 + j = o + (j + 1) by omega, this]
            simp [List.getD]) (fun c hc => hby c (List.mem_cons_of_mem _ hc))
      have hroom := gat_room t 0 (headI (lenI x) x) (headI_room _ _) (by omega)
      have hgd : ∀ g : Int × Bool, g = gat (headI (lenI x) x) t → g = gat (headI (lenI x) x) t := fun _ h => h
      generalize gat (headI (lenI x) x) t = g at *
      obtain ⟨r, ok⟩ := g
      clear hgd
      cases ok
      · simp only [if_true]
        exact copen_bad b o t.length cap x (lenI x) r w (by omega) hc0 hf hl hg
      · simp only [Bool.true_eq_false, if_false]
        generalize lenI x = n at *
        refine copen_in b o t.length cap x n r (64 ^ (n - (t.length + 1)).toNat) w hc0 hroom.1 hroom.2 ?_ hl hg
        have hm : t.length = 0 ∨ t.length = 1 ∨ t.length = 2 := by omega
        rcases hm with h | h | h <;> rw [h] <;> rcases hn with h2 | h2 | h2 | h2 <;> subst h2 <;> simp <;> omega

/-- The document's Open, of whatever text. -/
theorem refOpen_any (s : ByteArray) (w : World) (hm : s.size ≤ maxLen) :
    Calls Try.prog 19 #[.string s] w fun e w' => e = .returned (.bool (ropenI (nums s))) ∧ Below w.heap.size w w' := by
  have hl := nums_length s
  have hby := nums_byte s
  rcases Nat.eq_zero_or_pos s.size with h0 | h0
  · have : nums s = [] := List.eq_nil_of_length_eq_zero (by omega)
    rw [this]
    exact open_nil s w h0
  · have hz : (s.toList == ([] : List UInt8)) = false := by
      rw [beq_eq_false_iff_ne, ByteArray.toList_eq]
      intro h
      have h2 := congrArg List.length h
      rw [Array.length_toList] at h2
      exact absurd (show s.size = 0 from h2) (by omega)
    have hg := fun w => refGet_any s w hm
    cases hq : nums s with
    | nil => rw [hq] at hl; exact absurd hl (by simp only [List.length_nil]; omega)
    | cons x t =>
      rw [hq] at hg
      have hx := hby x (by rw [hq]; simp)
      have hx0 : ∀ w, (Instr.index 9 (.string s) (.int .i64 0)).run Try.prog w = .ok (.int .u8 x) w := fun w => by
        have := idx_at s 0 h0 w
        rw [hq] at this
        exact this
      have hsz : (s.extract 0 1).size = 1 := by rw [ByteArray.size_extract]; omega
      have hv : ∀ w, Calls Try.prog 30 #[.string (s.extract 0 1)] w fun e w' => e = .returned (.int .i64 (vheadI x)) ∧ w = w' := fun w => by
        have := value_any (s.extract 0 1) w (by omega) (by omega)
        rw [nums_extract, hq] at this
        exact this
      have hlen : s.size = t.length + 1 := by rw [← hl, hq]; rfl
      simp only [ropenI, List.length_cons]
      by_cases hn : 1 < (getI (x :: t)).2
      · rw [if_pos (Or.inl hn)]
        exact open_out1 s _ _ w hz hn hg
      by_cases h3 : 3 < t.length + 1
      · rw [if_pos (Or.inr (Or.inl h3))]
        exact open_out2 s _ _ w hz hn (by omega) hm hg
      by_cases h128 : x < 128
      · rw [if_pos (Or.inr (Or.inr h128))]
        have e : vheadI x = x := by unfold vheadI; (repeat' split) <;> omega
        rw [e] at hv
        exact open_out3 s _ _ x w hz hn (by omega) (by omega) hx.1 h128 hx0 hv hg
      · rw [if_neg (by omega), ← hlen, ← hq]
        exact open_loop s _ _ x (vheadI x) _ w hz hn (by omega) (by omega) (by omega) hx.2 rfl hx0 hv hg
end Go.Proofs.Ytgkkflfkmedapaa
