/- Mark and Sure, of whatever octets; and that what is sure stays. -/
import Derived.Test.YtoojfjealncddaaDoorSure
namespace Go.Proofs.YtoojfjealncddaaDoor
open Go Go.RowKit
set_option linter.unusedVariables false

/-- A string's octets, told from a list that is written out. -/
theorem strEq (l : List Int) (h : ∀ c ∈ l, 0 ≤ c ∧ c < 256) (t : List UInt8) : ((strOfNums l).toList == t) = decide (l = t.map fun c => (c.toNat : Int)) := by
  have e : (strOfNums l).toList = t ↔ l = t.map fun c => (c.toNat : Int) := by
    rw [ByteArray.toList_eq]
    constructor
    · intro h1
      rw [← nums_strOfNums l h, nums, h1]
    · intro h1
      rw [← nums_strOfNums l h, nums] at h1
      exact (List.map_inj_right (fun x y hxy => UInt8.toNat_inj.1 (Int.ofNat_inj.1 hxy))).1 h1
  by_cases h1 : l = t.map fun c => (c.toNat : Int)
  · rw [decide_eq_true h1, e.2 h1]; simp
  · rw [decide_eq_false h1, beq_eq_false_iff_ne]
    exact fun h2 => h1 (e.1 h2)

/-- Which mark stands at the beginning. -/
def markI (l : List Int) : Int × Int :=
  if l.take 3 = [239, 187, 191] then (1, 3) else if l.take 2 = [255, 254] then (2, 2) else if l.take 2 = [254, 255] then (3, 2) else (0, 0)
/-- Is that sure? -/
def sureI (l : List Int) : Bool := !(decide (l = []) || decide (l = [239]) || decide (l = [239, 187]) || decide (l = [255]) || decide (l = [254]))

theorem cut0 {k : IntKind} {w : World} {b o n : Nat} {l : List Int} (h : RowI k w (some ⟨b, o, none⟩) n l) (m : Nat) (hm : m ≤ n) : RowI k w (some ⟨b, o, none⟩) m (l.take m) := by
  have := h.cut (i := 0) (j := m) (by omega) hm
  simpa using this

theorem mark_any (A : Option Addr) (n c : Nat) (l : List Int) (w : World) (hm : Marks w) (hr : RowI .u8 w A n l) (hby : ∀ c ∈ l, 0 ≤ c ∧ c < 256) (hc : n ≤ c) (hcm : c ≤ 9223372036854775807) :
    Calls Tryd.prog 33 #[.slice A n c] w fun e w' => e = .returned (.tuple #[.int .i64 (markI l).1, .int .i64 (markI l).2]) ∧ Below w.heap.size w w' := by
  have hl := hr.1
  have hbt : ∀ m, ∀ c ∈ l.take m, 0 ≤ c ∧ c < 256 := fun m c hc => hby c (List.mem_of_mem_take hc)
  rcases Nat.lt_or_ge n 2 with h2 | h2
  · have e : markI l = (0, 0) := by
      unfold markI
      rw [if_neg (fun h => by have := congrArg List.length h; simp at this; omega), if_neg (fun h => by have := congrArg List.length h; simp at this; omega), if_neg (fun h => by have := congrArg List.length h; simp at this; omega)]
    rw [e]
    exact markGGG A n c w hm hc hcm h2
  · obtain ⟨b, o, rfl, _, _⟩ := hr.2 (by omega)
    have hcv : ∀ m, m ≤ n → ∀ w', Below w.heap.size w w' → (convert 22 9 (.slice (some ⟨b, o, none⟩) m c)).run Tryd.prog w' = .ok (.string (strOfNums (l.take m))) w' :=
      fun m hm w' hb => strRow w' _ m c _ ((cut0 hr m hm).below hb (Nat.le_refl _))
    have q3 := strEq (l.take 3) (hbt 3) [239, 187, 191]
    have q2 := strEq (l.take 2) (hbt 2) [255, 254]
    have q4 := strEq (l.take 2) (hbt 2) [254, 255]
    rw [show ([239, 187, 191] : List UInt8).map (fun c => (c.toNat : Int)) = [239, 187, 191] by decide] at q3
    rw [show ([255, 254] : List UInt8).map (fun c => (c.toNat : Int)) = [255, 254] by decide] at q2
    rw [show ([254, 255] : List UInt8).map (fun c => (c.toNat : Int)) = [254, 255] by decide] at q4
    rcases Nat.lt_or_ge n 3 with h3 | h3
    · have hn : n = 2 := by omega
      have hne : ¬ l.take 3 = [239, 187, 191] := fun h => by have := congrArg List.length h; simp at this; omega
      by_cases c2 : l.take 2 = [255, 254]
      · rw [decide_eq_true c2] at q2
        have e : markI l = (2, 2) := by unfold markI; rw [if_neg hne, if_pos c2]
        rw [e]
        exact markGT b o n c w hm hc hcm hn _ (hcv 2 (by omega)) q2
      · rw [decide_eq_false c2] at q2
        by_cases c4 : l.take 2 = [254, 255]
        · rw [decide_eq_true c4] at q4
          have e : markI l = (3, 2) := by unfold markI; rw [if_neg hne, if_neg c2, if_pos c4]
          rw [e]
          exact markGFT b o n c w hm hc hcm hn _ (hcv 2 (by omega)) q2 q4
        · rw [decide_eq_false c4] at q4
          have e : markI l = (0, 0) := by unfold markI; rw [if_neg hne, if_neg c2, if_neg c4]
          rw [e]
          exact markGFF b o n c w hm hc hcm hn _ (hcv 2 (by omega)) q2 q4
    · by_cases c3 : l.take 3 = [239, 187, 191]
      · rw [decide_eq_true c3] at q3
        have e : markI l = (1, 3) := by unfold markI; rw [if_pos c3]
        rw [e]
        exact markT b o n c w hm hc hcm h3 _ (hcv 3 (by omega)) q3
      · rw [decide_eq_false c3] at q3
        by_cases c2 : l.take 2 = [255, 254]
        · rw [decide_eq_true c2] at q2
          have e : markI l = (2, 2) := by unfold markI; rw [if_neg c3, if_pos c2]
          rw [e]
          exact markFT b o n c w hm hc hcm h3 _ (hcv 3 (by omega)) q3 _ (hcv 2 (by omega)) q2
        · rw [decide_eq_false c2] at q2
          by_cases c4 : l.take 2 = [254, 255]
          · rw [decide_eq_true c4] at q4
            have e : markI l = (3, 2) := by unfold markI; rw [if_neg c3, if_neg c2, if_pos c4]
            rw [e]
            exact markFFT b o n c w hm hc hcm h3 _ (hcv 3 (by omega)) q3 _ (hcv 2 (by omega)) q2 q4
          · rw [decide_eq_false c4] at q4
            have e : markI l = (0, 0) := by unfold markI; rw [if_neg c3, if_neg c2, if_neg c4]
            rw [e]
            exact markFFF b o n c w hm hc hcm h3 _ (hcv 3 (by omega)) q3 _ (hcv 2 (by omega)) q2 q4

theorem sure_any (A : Option Addr) (n c : Nat) (l : List Int) (w : World) (hm : Marks w) (hr : RowI .u8 w A n l) (hby : ∀ c ∈ l, 0 ≤ c ∧ c < 256) (hc : n ≤ c) (hcm : c ≤ 9223372036854775807) :
    Calls Tryd.prog 32 #[.slice A n c] w fun e w' => e = .returned (.bool (sureI l)) ∧ Below w.heap.size w w' := by
  have hl := hr.1
  have hcv : ∀ w', Below w.heap.size w w' → (convert 22 9 (.slice A n c)).run Tryd.prog w' = .ok (.string (strOfNums l)) w' :=
    fun w' hb => strRow w' _ n c _ (hr.below hb (Nat.le_refl _))
  have qq := strEq l hby
  match l, hl, hby, qq, hcv with
  | [], hl, hby, qq, hcv =>
    obtain rfl : n = 0 := by simpa using hl.symm
    exact sure0T A c w hm _ hcv (by rw [ByteArray.toList_eq]; decide)
  | [x], hl, hby, qq, hcv =>
    obtain rfl : n = 1 := by simpa using hl.symm
    have q1 := qq (ByteArray.extract ⟨#[239, 187, 191]⟩ 0 1).toList
    have q2 := qq (ByteArray.extract ⟨#[255, 254]⟩ 0 1).toList
    have q3 := qq (ByteArray.extract ⟨#[254, 255]⟩ 0 1).toList
    rw [show (ByteArray.extract ⟨#[239, 187, 191]⟩ 0 1).toList.map (fun c => (c.toNat : Int)) = [239] by rw [ByteArray.toList_eq]; decide] at q1
    rw [show (ByteArray.extract ⟨#[255, 254]⟩ 0 1).toList.map (fun c => (c.toNat : Int)) = [255] by rw [ByteArray.toList_eq]; decide] at q2
    rw [show (ByteArray.extract ⟨#[254, 255]⟩ 0 1).toList.map (fun c => (c.toNat : Int)) = [254] by rw [ByteArray.toList_eq]; decide] at q3
    by_cases c1 : [x] = [239]
    · rw [decide_eq_true c1] at q1
      rw [show sureI [x] = false by rw [c1]; decide]
      exact sure1T A c w hm _ hcv q1
    · rw [decide_eq_false c1] at q1
      by_cases c2 : [x] = [255]
      · rw [decide_eq_true c2] at q2
        rw [show sureI [x] = false by rw [c2]; decide]
        exact sure1FT A c w hm _ hcv q1 q2
      · rw [decide_eq_false c2] at q2
        by_cases c3 : [x] = [254]
        · rw [decide_eq_true c3] at q3
          rw [show sureI [x] = false by rw [c3]; decide]
          exact sure1FFT A c w hm _ hcv q1 q2 q3
        · rw [decide_eq_false c3] at q3
          rw [show sureI [x] = true by unfold sureI; rw [decide_eq_false c1, decide_eq_false c2, decide_eq_false c3]; simp]
          exact sure1FFF A c w hm _ hcv q1 q2 q3
  | [x, y], hl, hby, qq, hcv =>
    obtain rfl : n = 2 := by simpa using hl.symm
    have q1 := qq (ByteArray.extract ⟨#[239, 187, 191]⟩ 0 2).toList
    rw [show (ByteArray.extract ⟨#[239, 187, 191]⟩ 0 2).toList.map (fun c => (c.toNat : Int)) = [239, 187] by rw [ByteArray.toList_eq]; decide] at q1
    by_cases c1 : [x, y] = [239, 187]
    · rw [decide_eq_true c1] at q1
      rw [show sureI [x, y] = false by rw [c1]; decide]
      exact sure2T A c w hm _ hcv q1
    · rw [decide_eq_false c1] at q1
      rw [show sureI [x, y] = true by unfold sureI; rw [decide_eq_false c1]; simp]
      exact sure2FGG A c w hm _ hcv q1
  | x :: y :: z :: t, hl, hby, qq, hcv =>
    rw [show sureI (x :: y :: z :: t) = true by unfold sureI; simp]
    exact sure3GGG A c w hm n (by simp at hl; omega) (by omega)

/-- What is sure stays, whatever comes behind. -/
theorem mark_stays (l r : List Int) (h : sureI l = true) : markI (l ++ r) = markI l := by
  match l, h with
  | [], h => exact absurd h (by decide)
  | [x], h =>
    have h1 : x ≠ 239 := by rintro rfl; exact absurd h (by decide)
    have h2 : x ≠ 255 := by rintro rfl; exact absurd h (by decide)
    have h3 : x ≠ 254 := by rintro rfl; exact absurd h (by decide)
    simp [markI, h1, h2, h3]
  | [x, y], h =>
    by_cases h1 : x = 239
    · subst h1
      have h2 : y ≠ 187 := by rintro rfl; exact absurd h (by decide)
      simp [markI, h2]
    · simp [markI, h1]
  | x :: y :: z :: t, h => simp [markI]
end Go.Proofs.YtoojfjealncddaaDoor
