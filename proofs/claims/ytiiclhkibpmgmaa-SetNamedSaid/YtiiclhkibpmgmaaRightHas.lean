/- The program's Right and Has. -/
import Derived.Test.YtiiclhkibpmgmaaSetK
namespace Go.Proofs.Ytiiclhkibpmgmaa
open Go Go.RowKit
set_option linter.unusedVariables false

set_option maxHeartbeats 1000000 in
theorem right_any (s : List (Int × Int)) (A : Option Addr) (n c : Nat) (W : World) (hin : RowG W A n s) (hn : n ≤ 2000000) :
    Calls Try.prog 11 #[.slice A n c] W fun e w' => e = .returned (.bool (canonB 0 s)) ∧ Below W.heap.size W w' := by
  have HR := Lib.hid hin; clear hin
  go_enter Try.func11, Try.ntmps11
  go_wp2
  go_loopw [3, 8] (fun vl vi wr => ∃ (k : Nat) (L : Int), vl = .int .i64 L ∧ vi = .int .i64 (k : Int) ∧ k ≤ n ∧ 0 ≤ L ∧ L ≤ 1114113 ∧ Hid (canonB 0 s = canonB L (s.drop k) ∧ Below W.heap.size W wr)) (fun _ vi _ => n - (intOf vi).toNat)
  case atStart => exact ⟨0, 0, rfl, rfl, Nat.zero_le _, Int.le_refl _, (by decide : (0 : Int) ≤ 1114113), Lib.hid ⟨rfl, Below.refl _ _⟩⟩
  case round =>
    obtain ⟨k, L, rfl, rfl, hk, hL0, hL1, HO⟩ := hrel
    by_cases hlt : k < n
    · obtain ⟨b, o, rfl, hbw, hc⟩ := HR.out.2 (by omega)
      obtain ⟨c0, c1⟩ := hc k hlt
      have d0 := (HO.out.2.cell (p := ⟨b, o + k * 2, none⟩) hbw).trans c0
      have d1 := (HO.out.2.cell (p := ⟨b, o + k * 2 + 1, none⟩) hbw).trans c1
      have hd : s.drop k = s.getD k (0, 0) :: s.drop (k + 1) := by
        rw [List.drop_eq_getElem_cons (by have := HR.out.1; omega)]
        simp [List.getD, List.getElem?_eq_getElem (show k < s.length by have := HR.out.1; omega)]
      have h1 := HO.out.1
      rw [hd, canonB_cons] at h1
      obtain ⟨p, hp⟩ : ∃ p, p = s.getD k (0, 0) := ⟨_, rfl⟩
      rw [← hp] at d0 d1 h1
      obtain ⟨x, y⟩ := p
      clear hc c0 c1 hp hd
      dsimp only at d0 d1 h1
      have HB := Lib.hid (HO.out.2.trans (((Below.refl wr.heap.size wr).alloc (Nat.le_refl _) (.cells #[.int .i64 x, .int .i64 y] 39)).mono HO.out.2.size))
      have H1 := Lib.hid h1
      clear h1
      by_cases t1 : x < L
      · have HF : Hid (canonB 0 s = false) := Lib.hid (by rw [H1.out, decide_eq_false (by omega), Bool.false_and])
        go_wp2
        go_ret
        rw [HF.out]
        exact ⟨rfl, HB.out⟩
      · by_cases t2 : x > y
        · have HF : Hid (canonB 0 s = false) := Lib.hid (by rw [H1.out, decide_eq_false (show ¬ x ≤ y by omega), Bool.false_and, Bool.and_false])
          go_wp2
          go_ret
          rw [HF.out]
          exact ⟨rfl, HB.out⟩
        · by_cases t3 : y > 1114111
          · have HF : Hid (canonB 0 s = false) := Lib.hid (by rw [H1.out, decide_eq_false (show ¬ y ≤ 1114111 by omega), Bool.false_and, Bool.and_false, Bool.and_false])
            go_wp2
            go_ret
            rw [HF.out]
            exact ⟨rfl, HB.out⟩
          · have H2 := Lib.hid (And.intro (show canonB 0 s = canonB (y + 2) (s.drop (k + 1)) by rw [H1.out, decide_eq_true (by omega), decide_eq_true (by omega), decide_eq_true (by omega), Bool.true_and, Bool.true_and, Bool.true_and]) HB.out)
            go_wp2
            exact ⟨⟨k + 1, y + 2, by go_num, by go_num, by omega, by omega, by omega, H2⟩, by simp [intOf]; omega⟩
    · have hkn : k = n := by omega
      subst hkn
      have HF : Hid (canonB 0 s = true) := Lib.hid (by rw [HO.out.1, List.drop_of_length_le (by have := HR.out.1; omega)]; rfl)
      go_wp2
      go_ret
      rw [HF.out]
      exact ⟨rfl, HO.out.2⟩

/-- Has's look at one range. -/
theorem look_any (x y r : Int) (g : Nat) (W : World) (hg : W.cell? ⟨g, 0, none⟩ = some (.int .i64 r)) (hlt : g < W.heap.size) :
    Calls Try.prog 28 #[.agg #[.int .i64 x, .int .i64 y], .pointer (some ⟨g, 0, none⟩)] W fun e w' => e = .returned (.bool (decide (x ≤ r ∧ r ≤ y))) ∧ Below W.heap.size W w' := by
  have hg2 := ((Below.refl W.heap.size W).alloc (Nat.le_refl _) (.cells #[.int .i64 x, .int .i64 y] 39)).cell (p := ⟨g, 0, none⟩) hlt
  rw [hg] at hg2
  have HB := Lib.hid ((Below.refl W.heap.size W).alloc (Nat.le_refl _) (.cells #[.int .i64 x, .int .i64 y] 39))
  clear hg
  generalize hB : decide (x ≤ r ∧ r ≤ y) = B
  go_enter Try.func28, Try.ntmps28
  by_cases h1 : x ≤ r
  · by_cases h2 : r ≤ y
    · have HF : Hid (B = true) := Lib.hid (hB ▸ decide_eq_true ⟨h1, h2⟩)
      clear hB
      go_wp2
      go_ret
      rw [HF.out]
      exact ⟨rfl, HB.out⟩
    · have HF : Hid (B = false) := Lib.hid (hB ▸ decide_eq_false (by omega))
      clear hB
      go_wp2
      go_ret
      rw [HF.out]
      exact ⟨rfl, HB.out⟩
  · have HF : Hid (B = false) := Lib.hid (hB ▸ decide_eq_false (by omega))
    clear hB
    go_wp2
    go_ret
    rw [HF.out]
    exact ⟨rfl, HB.out⟩

set_option maxHeartbeats 1000000 in
theorem index_any (s : List (Int × Int)) (A : Option Addr) (n c : Nat) (r : Int) (g : Nat) (W : World) (hin : RowG W A n s) (hn : n ≤ 2000000) (hg : W.cell? ⟨g, 0, none⟩ = some (.int .i64 r)) (hlt : g < W.heap.size) :
    Calls Try.prog 33 #[.slice A n c, .func (.func 28) #[] #[.pointer (some ⟨g, 0, none⟩)]] W fun e w' => ∃ i : Int, e = .returned (.int .i64 i) ∧ decide (0 ≤ i) = (s.any fun p => decide (p.1 ≤ r ∧ r ≤ p.2)) ∧ Below W.heap.size W w' := by
  have HR := Lib.hid hin; clear hin
  have HG := Lib.hid (And.intro hg hlt); clear hg hlt
  go_enter Try.func33, Try.ntmps33
  go_wp2
  go_loopw [8] (fun vi wr => ∃ (k : Nat), vi = .int .i64 (k : Int) ∧ k ≤ n ∧ Hid (((s.take k).any fun p => decide (p.1 ≤ r ∧ r ≤ p.2)) = false ∧ Below W.heap.size W wr)) (fun vi _ => n - (intOf vi).toNat)
  case atStart => exact ⟨0, rfl, Nat.zero_le _, Lib.hid ⟨rfl, Below.refl _ _⟩⟩
  case round =>
    obtain ⟨k, rfl, hk, HO⟩ := hrel
    by_cases hl : k < n
    · obtain ⟨b, o, rfl, hbw, hc⟩ := HR.out.2 (by omega)
      obtain ⟨c0, c1⟩ := hc k hl
      have d0 := (HO.out.2.cell (p := ⟨b, o + k * 2, none⟩) hbw).trans c0
      have d1 := (HO.out.2.cell (p := ⟨b, o + k * 2 + 1, none⟩) hbw).trans c1
      have hts := take_snoc (t := s) (k := k) (by have := HR.out.1; omega)
      have hm : s.getD k (0, 0) ∈ s := by rw [getD_in k (by have := HR.out.1; omega)]; exact List.getElem_mem _
      obtain ⟨p, hp⟩ : ∃ p, p = s.getD k (0, 0) := ⟨_, rfl⟩
      rw [← hp] at d0 d1 hts hm
      obtain ⟨x, y⟩ := p
      have HT := Lib.hid (And.intro hts hm)
      clear hc c0 c1 hp hts hm
      dsimp only at d0 d1
      have HC := Lib.hid (look_any x y r g wr ((HO.out.2.cell (p := ⟨g, 0, none⟩) HG.out.2).trans HG.out.1) (Nat.lt_of_lt_of_le HG.out.2 HO.out.2.size))
      by_cases hxy : x ≤ r ∧ r ≤ y
      · go_wp2_with (go_at_call 28; refine HC.out.mono ?_; rintro e w1 ⟨rfl, hb1⟩; rw [decide_eq_true hxy]; have HB1 := Lib.hid (HO.out.2.trans (hb1.mono HO.out.2.size)); clear hb1)
        go_ret
        refine ⟨k, rfl, ?_, HB1.out⟩
        rw [decide_eq_true (by omega)]
        exact (List.any_eq_true.2 ⟨(x, y), HT.out.2, decide_eq_true hxy⟩).symm
      · go_wp2_with (go_at_call 28; refine HC.out.mono ?_; rintro e w1 ⟨rfl, hb1⟩; rw [decide_eq_false hxy]; have HB1 := Lib.hid (And.intro (show ((s.take (k + 1)).any fun p => decide (p.1 ≤ r ∧ r ≤ p.2)) = false by rw [HT.out.1, List.any_append, HO.out.1]; simp only [List.any_cons, List.any_nil, Bool.or_false, Bool.false_or]; exact decide_eq_false hxy) (HO.out.2.trans (hb1.mono HO.out.2.size))); clear hb1)
        exact ⟨⟨k + 1, by go_num, by omega, HB1⟩, by simp [intOf]; omega⟩
    · have hkn : k = n := by omega
      subst hkn
      have HF : Hid ((s.any fun p => decide (p.1 ≤ r ∧ r ≤ p.2)) = false) := Lib.hid (by
        have := HO.out.1
        rwa [List.take_of_length_le (by have := HR.out.1; omega)] at this)
      go_wp2
      go_ret
      exact ⟨-1, rfl, by rw [HF.out]; rfl, HO.out.2⟩

set_option maxHeartbeats 1000000 in
theorem has_any (s : List (Int × Int)) (A : Option Addr) (n c : Nat) (r : Int) (W : World) (hin : RowG W A n s) (hn : n ≤ 2000000) :
    Calls Try.prog 15 #[.slice A n c, .int .i64 r] W fun e w' => e = .returned (.bool (hasL s r)) ∧ Below W.heap.size W w' := by
  have hb : Below W.heap.size W (W.alloc (.cells #[.int .i64 r] 3)) := (Below.refl _ _).alloc (Nat.le_refl _) _
  have HC := Lib.hid (index_any s A n c r W.heap.size _ (hin.below hb (Nat.le_refl _)) hn (by rw [cell_of_row _ W.heap.size 0 _ _ (0, 0) (heap_alloc_new W _)]; rfl) (by simp))
  have HB := Lib.hid hb
  clear hb hin
  go_enter Try.func15, Try.ntmps15
  by_cases h0 : r < 0
  · have HF : Hid (hasL s r = false) := Lib.hid (by
      cases hx : hasL s r with
      | false => rfl
      | true => have := hasL_in hx; omega)
    go_wp2
    go_ret
    rw [HF.out]
    exact ⟨rfl, HB.out⟩
  · by_cases h1 : r > 1114111
    · have HF : Hid (hasL s r = false) := Lib.hid (by
        cases hx : hasL s r with
        | false => rfl
        | true => have := hasL_in hx; omega)
      go_wp2
      go_ret
      rw [HF.out]
      exact ⟨rfl, HB.out⟩
    · have HF : Hid (hasL s r = (s.any fun p => decide (p.1 ≤ r ∧ r ≤ p.2))) := Lib.hid (by
        unfold hasL
        congr 1
        funext p
        apply decide_eq_decide.2
        omega)
      go_wp2_with (first
        | (go_at_call 27; go_in)
        | (go_at_call 33; refine HC.out.mono ?_; rintro e w1 ⟨i, rfl, hi, hb1⟩; have HI := Lib.hid (And.intro hi (then_ HB.out hb1)); clear hi hb1))
      go_ret
      rw [HF.out, ← HI.out.1]
      exact ⟨rfl, HI.out.2⟩
end Go.Proofs.Ytiiclhkibpmgmaa
