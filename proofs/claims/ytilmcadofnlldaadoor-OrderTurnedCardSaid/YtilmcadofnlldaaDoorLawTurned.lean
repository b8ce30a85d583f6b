/- OrderTurned: octets that are turned about, two by two, have the units of the other order: the walk. -/
import Derived.Test.YtilmcadofnlldaaDoorAwake2
import Derived.Test.YtilmcadofnlldaaDoorInts
import Derived.BigRegion
namespace Go.Proofs.YtilmcadofnlldaaDoor
open Go Go.RowKit
set_option linter.unusedVariables false

/-- The first j pairs turned about. -/
def turn (l : List Int) : Nat → List Int
  | 0 => l
  | j + 1 => ((turn l j).set (2 * j) (l.getD (2 * j + 1) 0)).set (2 * j + 1) (l.getD (2 * j) 0)
theorem turn_length (l : List Int) : ∀ j, (turn l j).length = l.length
  | 0 => rfl
  | j + 1 => by simp [turn, turn_length l j]
theorem getD_byte {l : List Int} (h : ∀ c ∈ l, 0 ≤ c ∧ c < 256) (k : Nat) : 0 ≤ l.getD k 0 ∧ l.getD k 0 < 256 := by
  rcases Nat.lt_or_ge k l.length with hk | hk
  · exact h _ (getD_mem hk)
  · simp [List.getD, List.getElem?_eq_none hk]
theorem turn_byte {l : List Int} (h : ∀ c ∈ l, 0 ≤ c ∧ c < 256) : ∀ j, ∀ c ∈ turn l j, 0 ≤ c ∧ c < 256
  | 0, c, hc => h c hc
  | j + 1, c, hc => by
    unfold turn at hc
    rcases List.mem_or_eq_of_mem_set hc with hc | rfl
    · rcases List.mem_or_eq_of_mem_set hc with hc | rfl
      · exact turn_byte h j c hc
      · exact getD_byte h _
    · exact getD_byte h _
theorem getD_set (l : List Int) (i k : Nat) (x : Int) : (l.set i x).getD k 0 = if i = k ∧ k < l.length then x else l.getD k 0 := by
  simp only [List.getD, List.getElem?_set]
  by_cases h : i = k
  · subst h
    by_cases h2 : i < l.length
    · simp [h2]
    · simp [h2]
  · simp [h]
theorem turn_get (l : List Int) : ∀ j, 2 * j ≤ l.length → (∀ i, i < j → (turn l j).getD (2 * i) 0 = l.getD (2 * i + 1) 0 ∧ (turn l j).getD (2 * i + 1) 0 = l.getD (2 * i) 0) ∧ ∀ k, 2 * j ≤ k → (turn l j).getD k 0 = l.getD k 0
  | 0, _ => ⟨fun i h => absurd h (by omega), fun k _ => rfl⟩
  | j + 1, hj => by
    obtain ⟨h1, h2⟩ := turn_get l j (by omega)
    have hl := turn_length l j
    refine ⟨fun i hi => ?_, fun k hk => ?_⟩
    · unfold turn
      simp only [getD_set, List.length_set, hl]
      rcases Nat.lt_or_ge i j with h | h
      · obtain ⟨e1, e2⟩ := h1 i h
        rw [if_neg (by omega), if_neg (by omega), if_neg (by omega), if_neg (by omega)]
        exact ⟨e1, e2⟩
      · obtain rfl : i = j := by omega
        rw [if_neg (by omega), if_pos (by omega), if_pos (by omega)]
        exact ⟨rfl, rfl⟩
    · unfold turn
      simp only [getD_set, List.length_set, hl]
      rw [if_neg (by omega), if_neg (by omega)]
      exact h2 k (by omega)
theorem turn_units (l : List Int) : unitsL 3 (turn l (l.length / 2)) = unitsL 2 l := by
  rw [unitsL_is (.inr rfl), unitsL_is (.inl rfl), turn_length]
  have h := (turn_get l (l.length / 2) (by omega)).1
  unfold unitsAt
  apply List.map_congr_left
  intro i hi
  obtain ⟨e1, e2⟩ := h i (by simpa using hi)
  rw [e1, e2]
  simp [unit2]

theorem lawTurned_long (A : Option Addr) (len cap : Nat) (w : World) (hM : Marks w) (hl : 200 < len) (hm : len ≤ maxLen) :
    Calls Tryd.prog 6 #[.slice A len cap] w fun e w' => e = .returned (.bool true) ∧ Below w.heap.size w w' := by
  unfold maxLen at hm
  have hd : decide ((200 : Int) < (len : Int)) = true := by simp; omega
  go_enter Tryd.func6, Tryd.ntmps6
  go_wp2_with fail
  refine (awake2_any _ hM).mono ?_; rintro e w1 ⟨rfl, hbel⟩
  have hM1 := hM.below hbel (Nat.le_refl _)
  go_wp2_with fail
  refine (awake2_any _ hM1).mono ?_; rintro e w2 ⟨rfl, hbel2⟩
  go_wp2_with fail
  go_ret
  exact ⟨rfl, hbel.trans (Below.mono hbel2 hbel.size)⟩

set_option maxHeartbeats 4000000 in
theorem lawTurned_short (A : Option Addr) (len cap : Nat) (l : List Int) (W : World) (hM : Marks W) (hl : len ≤ 200)
    (hr : RowI .u8 W A len l) (hnil : A = none → len = 0 ∧ cap = 0) (hby : ∀ c ∈ l, 0 ≤ c ∧ c < 256) :
    Calls Tryd.prog 6 #[.slice A len cap] W fun e w' => e = .returned (.bool true) ∧ Below W.heap.size W w' := by
  have hd : decide ((200 : Int) < (len : Int)) = false := by simp; omega
  have hll := hr.1
  have HR := Lib.hid hr; clear hr
  have HN := Lib.hid hnil; clear hnil
  have HB := Lib.hid hby; clear hby
  have HM := Lib.hid hM; clear hM
  have HLL := Lib.hid hll; clear hll
  go_enter Tryd.func6, Tryd.ntmps6
  go_wp2_with fail
  refine (awake2_any _ HM.out).mono ?_; rintro e w1 ⟨rfl, hbel⟩
  have hr1 := HR.out.below hbel (Nat.le_refl _)
  obtain ⟨v, w2, happ, hown, hgrow⟩ := app_run .u8 22 5 1 Tryd.underlying22 info_u8 (w1.alloc (.cells #[] 5)) w1.heap.size (.slice (some ⟨w1.heap.size, 0, none⟩) 0 0) 0 [] (World.ownsRow_made w1 #[] 0 (Nat.le_refl _) (Nat.zero_le _) rfl)
    A len cap l (hr1.alloc _) HN.out (by omega) (by unfold maxLen; omega) (by simp)
  have hb2 : Below w1.heap.size w1 w2 := ((Below.refl _ _).alloc (Nat.le_refl _) _).grown hgrow (by simp) (by intro k hk; simp [Value.ownBlock] at hk; omega)
  have hW2 : Below W.heap.size W w2 := hbel.trans (Below.mono hb2 hbel.size)
  rw [Nat.zero_add, List.nil_append] at hown
  obtain ⟨A', cap', rfl, _, hcap', hcm'⟩ := row_of_own hown
  have hbase := hbel.size
  have HBASE := Lib.hid hbase; clear hbase
  have HAPP := Lib.hid happ; clear happ
  have HCM := Lib.hid hcm'; clear hcm'
  clear hr1 hgrow hb2 hbel
  go_wp2_with (at_builtin; refine wpList_append_run rfl _ _ 22 rfl rfl _ _ _ _ rfl rfl HAPP.out ?_)
  go_loopw [4] (fun vi wr => ∃ (q j : Nat), q ≤ len ∧ Hid (q = 2 * j) ∧ vi = .int .i64 (q : Int) ∧ wr.ownsRow w1.heap.size 5 1 (.slice A' len cap') len ((turn l j).map (Value.int .u8)) ∧ Below W.heap.size W wr) (fun vi _ => len - (intOf vi).toNat)
  case atStart => exact ⟨0, 0, by omega, Lib.hid rfl, rfl, hown, hW2⟩
  case round =>
    obtain ⟨q, j, hq, HQ, rfl, hown, hb⟩ := hrel
    by_cases hlt : q + 1 < len
    · obtain ⟨g, cap2, hv, hg0, hg1⟩ := hown.form (by omega)
      simp at hv
      obtain ⟨rfl, rfl⟩ := hv
      have hl2 := turn_length l j
      obtain ⟨x, hx⟩ : ∃ x, x = l.getD q 0 := ⟨_, rfl⟩
      obtain ⟨y, hy⟩ : ∃ y, y = l.getD (q + 1) 0 := ⟨_, rfl⟩
      have hg := (turn_get l j (by have := HQ.out; have := HLL.out; omega)).2
      have c0 : wr.cell? ⟨g, q, none⟩ = some (.int .u8 x) := by
        rw [hown.cellAt q (by omega), hx, ← hg q (by have := HQ.out; omega)]
        simp [List.getD, show q < (turn l j).length by have := HLL.out; omega]
      have c1 : wr.cell? ⟨g, q + 1, none⟩ = some (.int .u8 y) := by
        rw [hown.cellAt (q + 1) (by omega), hy, ← hg (q + 1) (by have := HQ.out; omega)]
        simp [List.getD, show q + 1 < (turn l j).length by have := HLL.out; omega]
      have f0 := hown.frozenAt q
      have f1 := hown.frozenAt (q + 1)
      have k1 : (q : Int) < (len : Int) := by omega
      have k2 : (q : Int) + 1 < (len : Int) := by omega
      have k3 : (0 : Int) ≤ (q : Int) + 1 := by omega
      have k4 : (0 : Int) ≤ (q : Int) := by omega
      have k5 : IntKind.i64.wrap ((q : Int) + 1) = (q : Int) + 1 := by rw [IntKind.wrap_i64]; omega
      obtain ⟨s1, _⟩ := hown.stored q (.int .u8 y)
      obtain ⟨s2, _⟩ := s1.stored (q + 1) (.int .u8 x)
      have hb2 : Below W.heap.size W ((wr.setCell ⟨g, q, none⟩ (.int .u8 y)).setCell ⟨g, q + 1, none⟩ (.int .u8 x)) := (hb.setCell (by have := HBASE.out; show W.heap.size ≤ g; omega) _).setCell (by have := HBASE.out; show W.heap.size ≤ g; omega) _
      have HX := Lib.hid hx; clear hx
      have HY := Lib.hid hy; clear hy
      have HOWN := Lib.hid s2
      clear hg s1 s2 hown
      go_wp2_with fail
      go_region
      go_wp2
      refine ⟨⟨q + 2, j + 1, by omega, Lib.hid (by have := HQ.out; omega), by go_num, ?_, hb2.drew⟩, by simp [intOf]; omega⟩
      have e := HOWN.out.drew
      unfold turn
      rw [List.map_set, List.map_set, ← HQ.out, ← HX.out, ← HY.out]
      exact e
    · have ej : j = l.length / 2 := by have := HQ.out; have := HLL.out; omega
      have htu := turn_units l
      have htb := turn_byte HB.out j
      obtain ⟨A2, c2, hv2, hrx, _, _⟩ := row_of_own hown
      simp at hv2
      obtain ⟨rfl, rfl⟩ := hv2
      rw [← ej] at htu
      have hrb := HR.out.below hb (Nat.le_refl _)
      have hu2 := fun w (h : RowI .u8 w A len l) => ounits_any 2 A len cap l w h HB.out (by omega)
      have hu3 := fun w (h : RowI .u8 w A' len (turn l j)) => ounits_any 3 A' len cap' (turn l j) w h htb (by omega)
      rw [htu] at hu3
      have hm : (unitsL 2 l).length = len / 2 := by rw [unitsL_length (.inl rfl), HLL.out]
      obtain ⟨us, hus⟩ : ∃ us, us = unitsL 2 l := ⟨_, rfl⟩
      rw [← hus] at hu2 hu3 hm
      obtain ⟨m, hme⟩ : ∃ m, m = us.length := ⟨_, rfl⟩
      rw [← hme] at hu2 hu3 hm
      have HU2 := Lib.hid hu2; clear hu2
      have HU3 := Lib.hid hu3; clear hu3
      have HRX := Lib.hid hrx; clear hrx
      have HRB := Lib.hid hrb; clear hrb
      have eq1 : ((m : Int) == (len : Int) / 2) = true := by simp; omega
      have HMM := Lib.hid hm; clear hm
      clear hus hme htu htb hown ej
      go_wp2_with fail
      refine (HU2.out _ HRB.out).mono ?_; rintro e w3 ⟨A3, c3, rfl, r3, b3⟩
      go_wp2_with fail
      refine (HU3.out _ (HRX.out.below b3 (Nat.le_refl _))).mono ?_; rintro e w4 ⟨A4, c4, rfl, r4, b4⟩
      have hi := ints_row A3 A4 m c3 c4 us us w4 (r3.below b4 (Nat.le_refl _)) r4 (by have := HMM.out; omega)
      rw [decide_eq_true rfl] at hi
      have HI := Lib.hid hi; clear hi
      have hW4 : Below W.heap.size W w4 := (hb.trans (Below.mono b3 hb.size)).trans (Below.mono b4 (Nat.le_trans hb.size b3.size))
      clear r3 b3 r4 b4
      go_wp2_with fail
      with_reducible refine HI.out.mono ?_
      rintro e w' ⟨rfl, q5, rfl⟩
      have hW5 := below_drewN hW4 q5
      have hr5 := HR.out.below hW5 (Nat.le_refl _)
      have HR5 := Lib.hid hr5; clear hr5
      go_wp2_with fail
      refine (HU2.out _ HR5.out).mono ?_; rintro e w6 ⟨A6, c6, rfl, r6, b6⟩
      have hW6 := hW5.trans (Below.mono b6 hW5.size)
      clear r6 b6
      go_wp2_with fail
      go_ret
      exact ⟨by simp, hW6⟩

theorem lawTurned (A : Option Addr) (len cap : Nat) (zs : List Int) (W : World) (hM : Marks W)
    (h : (A = none ∧ len = 0 ∧ cap = 0 ∧ zs = []) ∨
      ∃ x, A = some x ∧ len ≤ cap ∧ cap ≤ maxLen ∧ zs.length = cap ∧ (∀ i, i < zs.length → W.cell? (x.add i) = some (.int .u8 (zs.getD i 0))) ∧ ∀ n ∈ zs, (Lit.int .u8 n).wf = true) :
    Calls Tryd.prog 6 #[.slice A len cap] W fun e w' => e = .returned (.bool true) ∧ Below W.heap.size W w' := by
  obtain ⟨hr, hcap, hcm, hnil, hwf⟩ := rowI_of_row h
  rcases Nat.lt_or_ge 200 len with hl | hl
  · exact lawTurned_long A len cap W hM hl (Nat.le_trans hcap hcm)
  · exact lawTurned_short A len cap _ W hM hl hr hnil (fun c hc => byte_of_wf (hwf c hc))
end Go.Proofs.YtilmcadofnlldaaDoor
