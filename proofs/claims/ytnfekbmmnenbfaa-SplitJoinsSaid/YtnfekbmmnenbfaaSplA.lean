/- A splitter: All; what the document answers, in terms of the reading. -/
import Derived.Test.YtnfekbmmnenbfaaSplW
namespace Go.Proofs.Ytnfekbmmnenbfaa
open Go Go.RowKit
set_option linter.unusedVariables false

theorem sc_all (m : Nat) (xs : List Int) : ∀ i, i ≤ xs.length → (scanR m (xs.take i) scan0).over = true ∨ Sc m xs i (scanR m (xs.take i) scan0)
  | 0, _ => .inr (Sc.zero m xs)
  | i + 1, hi => by
    have hi' : i < xs.length := by omega
    rcases sc_all m xs i (by omega) with h | h
    · left
      rw [take_snoc xs i hi', scanR_append, scanR_over m _ _ h]
      exact h
    · by_cases hc : xs.getD i 0 = 10
      · rcases Nat.lt_or_ge m (toR xs (scanR m (xs.take i) scan0).pos i - (scanR m (xs.take i) scan0).pos) with hm | hm
        · left
          have hcl := h.chop_length
          rw [take_snoc xs i hi', scanR_append, hc, scan_long m [] _ h.2.1 (by omega)]
        · have h2 := h.line hi' hc hm
          rw [h2.1] at h2
          exact .inr h2
      · have h2 := h.other hi' hc
        rw [h2.1] at h2
        exact .inr h2
theorem sc_whole (m : Nat) (xs : List Int) (h : (scanR m xs scan0).over = false) : Sc m xs xs.length (scanR m xs scan0) := by
  have := sc_all m xs xs.length (Nat.le_refl _)
  rw [List.take_length, h] at this
  rcases this with h1 | h1
  · cases h1
  · exact h1

section
variable {m : Nat} {xs : List Int}
theorem allR_good (h : Good m (scanR m xs scan0)) : allR m xs false = ((scanR m xs scan0).recs, 0, (scanR m xs scan0).cur.length) := by
  have hs := sc_whole m xs h.1
  have hge := chop_ge (scanR m xs scan0).cur
  have h2 := h.2
  unfold allR
  simp only [h.1]
  rw [if_neg (by decide), if_neg (by simp), if_neg]
  rintro (h3 | ⟨h3, h4⟩)
  · omega
  · have hcl := hs.cur_length
    have hl := hs.last (by omega)
    rw [chop_not _ (by rw [hl]; simpa using h4)] at h2
    omega
theorem allR_end (h : Good m (scanR m xs scan0)) : allR m xs true = ((scanR m xs scan0).recs ++ (if 0 < (scanR m xs scan0).cur.length ∧ (scanR m xs scan0).cur.length ≤ m then [⟨(scanR m xs scan0).recs.length, (scanR m xs scan0).pos, (scanR m xs scan0).cur⟩] else []), (if m < (scanR m xs scan0).cur.length then 10 else 0), 0) := by
  unfold allR
  simp only [h.1]
  rw [if_neg (by decide)]
  by_cases h0 : 0 < (scanR m xs scan0).cur.length
  · rw [if_pos (by simpa using h0)]
    by_cases hm : m < (scanR m xs scan0).cur.length
    · rw [if_pos hm, if_neg (by omega), if_pos hm, List.append_nil]
    · rw [if_neg hm, if_pos (by omega), if_neg hm]
  · have h00 : (scanR m xs scan0).cur.length = 0 := by omega
    rw [if_neg (by omega), if_neg (by omega), if_neg (by omega), if_neg (by omega), List.append_nil, h00]
theorem allR_bad (h : ¬ Good m (scanR m xs scan0)) (fin : Bool) : allR m xs fin = ((scanR m xs scan0).recs, 10, 0) := by
  unfold allR
  by_cases ho : (scanR m xs scan0).over = true
  · simp only [ho]
    rw [if_pos trivial]
  · have ho : (scanR m xs scan0).over = false := by simpa using ho
    have hs := sc_whole m xs ho
    have hle := chop_le (scanR m xs scan0).cur
    have h2 : m < (chop (scanR m xs scan0).cur).length := by
      rcases Nat.lt_or_ge m (chop (scanR m xs scan0).cur).length with q | q
      · exact q
      · exact absurd ⟨ho, q⟩ h
    simp only [ho]
    rw [if_neg (by decide)]
    cases fin with
    | true => rw [if_pos (by simp; omega), if_pos (by omega)]
    | false =>
      rw [if_neg (by simp), if_pos]
      rcases Nat.lt_or_ge (m + 1) (scanR m xs scan0).cur.length with q | q
      · exact .inl q
      · have hcl := hs.cur_length
        refine .inr ⟨by omega, fun e => ?_⟩
        have hl := hs.last (by omega)
        rw [e] at hl
        rw [chop_take _ hl, List.length_take] at h2
        omega
end

/-- append of a row of records to a row of the call's own. -/
theorem rows_append {w : World} {B B2 : Nat} {P P2 : Option Addr} {q pc q2 pc2 : Nat} {rs rs2 : List RecL} (h : w.ownsRow B 40 3 (.slice P q pc) q (cellsR rs)) (h2 : w.ownsRow B2 40 3 (.slice P2 q2 pc2) q2 (cellsR rs2)) (hq : q ≤ 1000000) (hq2 : q2 ≤ 1000000) (hB : B ≤ w.heap.size) :
    ∃ P' pc' w', (Builtin.append_ #[23, 23] 23 #[.slice P q pc, .slice P2 q2 pc2]).run Try.prog w = .ok (.slice P' (q + q2) pc') w' ∧
      w'.ownsRow B 40 3 (.slice P' (q + q2) pc') (q + q2) (cellsR (rs ++ rs2)) ∧ w.grownBy w' (Value.slice P q pc).ownBlock := by
  obtain ⟨i0, hi, hz0, hz1, hz2⟩ := info_parts info_rec
  rw [cellsR_append]
  rcases h2.2 with ⟨e1, e2⟩ | ⟨g2, cap2, cu2, e1, hb2, hg2, hn2, hm2, hc2, ht2⟩
  · injection e1 with e3 e4 e5
    subst e3; subst e4; subst e5
    have e6 : cellsR rs2 = [] := List.eq_nil_of_length_eq_zero (by simpa using h2.1)
    rw [e6, List.append_nil]
    exact ⟨P, pc, w, run_append_owned_none (P := Try.prog) w B 23 23 40 i0 3 Try.underlying23 hi _ q _ h, h, World.grownBy.refl w _⟩
  · injection e1 with e3 e4 e5
    subst e3
    obtain ⟨V', w', r1, r2, r3, _⟩ := run_append_own (P := Try.prog) w B 23 23 40 i0 _ 3 32 Try.underlying23 hi hz0 hz1 hz2 rfl (by decide) _ q _ h ⟨g2, 0, none⟩ q2 pc2 (cellsR rs2) h2.1
      (h2.cells (g := g2) rfl)
      (by
        intro u hu
        obtain ⟨r, _, hr⟩ := List.mem_flatMap.1 hu
        simp [RecL.cells] at hr
        rcases hr with rfl | rfl | rfl <;> rfl) (by unfold maxLen; omega) (by omega) hB
    rcases r2.2 with ⟨rfl, h0⟩ | ⟨b, cap, cu, rfl, _⟩
    · rw [h0] at r2 ⊢
      exact ⟨none, 0, w', r1, r2, r3⟩
    · exact ⟨_, _, w', r1, r2, r3⟩

theorem all_bad (m : Int) (T : ByteArray) (w : World) (h : m < 1 ∨ 4096 < m) :
    Calls Try.prog 8 #[.int .i64 m, .string T] w fun e w' => e = .returned (.tuple #[.slice none 0 0, .int .i64 2]) ∧ w = w' := by
  have HN := Lib.hid (new_bad m w h)
  clear h
  go_enter Try.func8, Try.ntmps8
  go_wp2_with (go_at_call 11; refine HN.out.mono ?_; rintro e w' ⟨rfl, rfl⟩)
  go_ret2
  exact ⟨rfl, rfl⟩

set_option maxHeartbeats 2000000 in
/-- All: what the document answers. -/
theorem all_any (m : Nat) (T : ByteArray) (w : World) (h1 : 1 ≤ m) (h2 : m ≤ 4096) (hT : T.size ≤ 100000) :
    Calls Try.prog 8 #[.int .i64 (m : Int), .string T] w fun e w' => ∃ A c, e = .returned (.tuple #[.slice A (allR m (nums T) true).1.length c, .int .i64 (allR m (nums T) true).2.1]) ∧ w'.ownsRow w.heap.size 40 3 (.slice A (allR m (nums T) true).1.length c) (allR m (nums T) true).1.length (cellsR (allR m (nums T) true).1) ∧ Below w.heap.size w w' := by
  have HN := Lib.hid (new_any m w h1 h2)
  by_cases hg : Good m (scanR m (nums T) scan0)
  · rw [allR_end hg]
    have HG := Lib.hid hg
    have hcl : (scanR m (nums T) scan0).cur.length ≤ 1000000 := by have := chop_ge (scanR m (nums T) scan0).cur; have := hg.2; omega
    have hrl : (scanR m (nums T) scan0).recs.length ≤ 100000 := by have := (sc_whole m (nums T) hg.1).2.2.2.2.2; rw [nums_length] at this; omega
    obtain ⟨L, hL⟩ : ∃ L, L = (scanR m (nums T) scan0).cur.length := ⟨_, rfl⟩
    obtain ⟨K, hK⟩ : ∃ K, K = (if 0 < L ∧ L ≤ m then 1 else 0) := ⟨_, rfl⟩
    obtain ⟨LS, hLS⟩ : ∃ LS : List RecL, LS = (if 0 < L ∧ L ≤ m then [⟨(scanR m (nums T) scan0).recs.length, (scanR m (nums T) scan0).pos, (scanR m (nums T) scan0).cur⟩] else []) := ⟨_, rfl⟩
    obtain ⟨E, hE⟩ : ∃ E : Int, E = (if m < L then 10 else 0) := ⟨_, rfl⟩
    have hK1 : K ≤ 1000000 := by rw [hK]; split <;> omega
    have hKL : LS.length = K := by rw [hLS, hK]; split <;> rfl
    rw [← hL, ← hLS, ← hE]
    have HD := Lib.hid (And.intro hL (And.intro hK (And.intro hLS hE)))
    clear hK hLS hE hL hg
    go_enter Try.func8, Try.ntmps8
    go_wp2_with (first
      | (go_at_call 11; refine HN.out.mono ?_; rintro e w1 ⟨rfl, hs1, hb1⟩)
      | (go_at_call 12; refine (write_any scan0 hs1 (good0 m) h2 T hT (by decide) (by decide)).mono ?_; rintro e w2 ⟨A, k, c, news, err, V2, rfl, hown, hk, hrec, ht, hcase⟩; obtain ⟨_, rfl, hs2⟩ := hcase.resolve_right (fun q => q.1 HG.out); have HOWN := Lib.hid (row_base (B' := w.heap.size) hown (fun k hk => Nat.le_trans hb1.size (row_lt hown hk).1)); have HB := Lib.hid (And.intro hb1 ht.low); have HR := Lib.hid (And.intro hk hrec); have hkb : k ≤ 1000000 := (by have h9 : (scanR m (nums T) scan0).recs = news := hrec; rw [h9, hk] at hrl; omega); have HKB := Lib.hid hkb; clear hkb hs1 hb1 hown hk hrec ht hcase)
      | (go_at_call 14; refine (close_any hs2 hcl).mono ?_; rw [← HD.out.1, ← HD.out.2.1, ← HD.out.2.2.1, ← HD.out.2.2.2]; rintro e w3 ⟨A3, c3, rfl, hown3, hs3, ht3⟩; have hro := row_touch (e := 40) HOWN.out ht3 (row_ne_blk HOWN.out hs2.blk (by decide)) (by decide); obtain ⟨P', pc', w4, happ, hown4, hgr⟩ := rows_append hro hown3 HKB.out hK1 (Nat.le_trans HB.out.1.size (Nat.le_trans HB.out.2.size ht3.low.size)); have HA := Lib.hid happ; have HO4 := Lib.hid hown4; have HB4 := Lib.hid (((HB.out.1.trans HB.out.2).trans ht3.low).grown hgr (Nat.le_trans HB.out.1.size (Nat.le_trans HB.out.2.size ht3.low.size)) (fun k hk => (row_lt hro hk).1)); clear happ hown4 hgr hro hown3 hs3 ht3 hs2)
      | (at_builtin; refine wpList_append_run rfl _ _ 23 rfl rfl _ _ _ _ rfl rfl HA.out ?_))
    go_ret2
    have hrs : (scanR m (nums T) scan0).recs = news := HR.out.2
    rw [hrs, List.length_append, HR.out.1, hKL]
    exact ⟨P', pc', rfl, HO4.out, HB4.out⟩
  · rw [allR_bad hg]
    have HG := Lib.hid hg
    clear hg
    go_enter Try.func8, Try.ntmps8
    go_wp2_with (first
      | (go_at_call 11; refine HN.out.mono ?_; rintro e w1 ⟨rfl, hs1, hb1⟩)
      | (go_at_call 12; refine (write_any scan0 hs1 (good0 m) h2 T hT (by decide) (by decide)).mono ?_; rintro e w2 ⟨A, k, c, news, err, V2, rfl, hown, hk, hrec, ht, hcase⟩; obtain ⟨_, rfl, _⟩ := hcase.resolve_left (fun q => HG.out q.1); have HOWN := Lib.hid (row_base (B' := w.heap.size) hown (fun k hk => Nat.le_trans hb1.size (row_lt hown hk).1)); have HB := Lib.hid (hb1.trans ht.low); have HR := Lib.hid (And.intro hk hrec); clear hs1 hb1 hown hk hrec ht hcase))
    go_ret2
    have hrs : (scanR m (nums T) scan0).recs = news := HR.out.2
    rw [hrs, HR.out.1]
    exact ⟨A, c, rfl, HOWN.out, HB.out⟩
end Go.Proofs.Ytnfekbmmnenbfaa
