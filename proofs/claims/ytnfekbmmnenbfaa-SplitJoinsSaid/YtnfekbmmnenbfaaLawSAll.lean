/- All: the document's records. -/
import Derived.Test.YtnfekbmmnenbfaaAwake7
namespace Go.Proofs.Ytnfekbmmnenbfaa
open Go Go.RowKit
set_option linter.unusedVariables false

theorem then_ {a b c : World} (h : Below a.heap.size a b) (k : Below b.heap.size b c) : Below a.heap.size a c := h.trans (Below.mono k h.size)
theorem allR_err (m : Nat) (xs : List Int) (fin : Bool) : (allR m xs fin).2.1 = 0 ∨ (allR m xs fin).2.1 = 10 := by
  unfold allR
  dsimp only
  split
  · exact .inr rfl
  · split
    · split
      · exact .inr rfl
      · exact .inl rfl
    · split
      · exact .inr rfl
      · exact .inl rfl
theorem scan_len (m : Nat) (xs : List Int) : ∀ i, i ≤ xs.length → (scanR m (xs.take i) scan0).recs.length ≤ i
  | 0, _ => Nat.le_refl _
  | i + 1, hi => by
    have h := scan_len m xs i (by omega)
    rw [take_snoc xs i (by omega), scanR_append]
    show (stepR m _ _).recs.length ≤ i + 1
    unfold stepR
    split
    · omega
    · split
      · split
        · show (_ ++ [_]).length ≤ _
          rw [List.length_append]
          show _ + 1 ≤ _
          omega
        · show (scanR m (xs.take i) scan0).recs.length ≤ _
          omega
      · show (scanR m (xs.take i) scan0).recs.length ≤ _
        omega
theorem allR_len (m : Nat) (xs : List Int) (fin : Bool) : (allR m xs fin).1.length ≤ xs.length + 1 := by
  have h := scan_len m xs xs.length (Nat.le_refl _)
  rw [List.take_length] at h
  unfold allR
  dsimp only
  split
  · show (scanR m xs scan0).recs.length ≤ xs.length + 1; omega
  · split
    · split
      · show (scanR m xs scan0).recs.length ≤ xs.length + 1; omega
      · show (_ ++ [_]).length ≤ _
        rw [List.length_append]
        show _ + 1 ≤ _
        omega
    · split
      · show (scanR m xs scan0).recs.length ≤ xs.length + 1; omega
      · show (scanR m xs scan0).recs.length ≤ xs.length + 1; omega

/-- Rows of the call's own that read as the same records are the same. -/
theorem same_own {w : World} {B B' : Nat} {A D : Option Addr} {n c d : Nat} {rs : List RecL} (ha : w.ownsRow B 40 3 (.slice A n c) n (cellsR rs)) (hb : w.ownsRow B' 40 3 (.slice D n d) n (cellsR rs)) (hl : rs.length = n) (hn : n ≤ 1000000) :
    Calls Try.prog 10 #[.slice A n c, .slice D n d] w fun e w' => e = .returned (.bool true) ∧ ∃ q, w' = w.drewN q := by
  obtain ⟨A', c', e1, h1⟩ := rowR_of_own ha hl
  obtain ⟨D', d', e2, h2⟩ := rowR_of_own hb hl
  injection e1 with e3 _ _
  injection e2 with e4 _ _
  subst e3; subst e4
  exact rsame_any rs A D n c d w h1 h2 hn

set_option maxHeartbeats 2000000 in
theorem splitAll_any (a0 : Int) (S : ByteArray) (w : World) :
    Calls Try.prog 3 #[.int .i64 a0, .string S] w fun e w' => e = .returned (.bool true) ∧ Below w.heap.size w w' := by
  have HAW := Lib.hid (fun w => awake_any w)
  rcases Nat.lt_or_ge 1000 S.size with hbig | hsm
  · have hd : decide ((1000 : Int) < (S.size : Int)) = true := by simp; omega
    go_enter Try.func3, Try.ntmps3
    go_wp2_with (go_at_call 7; refine (HAW.out _).mono ?_; rintro e w1 ⟨rfl, hb⟩; have HB : Hid (Below w.heap.size w w1) := Lib.hid (by first | exact hb | exact then_ HB.out hb); clear hb)
    go_ret
    exact ⟨rfl, HB.out⟩
  · have hd : decide ((1000 : Int) < (S.size : Int)) = false := by simp; omega
    by_cases hr : 1 ≤ a0 ∧ a0 ≤ 4096
    · obtain ⟨m, rfl⟩ : ∃ m : Nat, a0 = (m : Int) := ⟨a0.toNat, by omega⟩
      have d1 : decide ((m : Int) < 1) = false := by simp; omega
      have d2 : decide ((4096 : Int) < (m : Int)) = false := by simp; omega
      have HALL := Lib.hid (fun w => all_any m S w (by omega) (by omega) (by omega))
      have HREF := Lib.hid (fun w => rall_any m S true w (by omega) (by omega))
      have hlen := allR_len m (nums S) true
      rw [nums_length] at hlen
      obtain ⟨rs, n, er, hrs, hn, her⟩ : ∃ (rs : List RecL) (n : Nat) (er : Int), rs = (allR m (nums S) true).1 ∧ n = rs.length ∧ er = (allR m (nums S) true).2.1 := ⟨_, _, _, rfl, rfl, rfl⟩
      rw [← hrs, ← her, ← hn] at HALL HREF
      rw [← hrs, ← hn] at hlen
      have HN := Lib.hid hn
      clear hr hrs her hn
      go_enter Try.func3, Try.ntmps3
      go_wp2_with (first
        | (go_at_call 7; refine (HAW.out _).mono ?_; rintro e w1 ⟨rfl, hb1⟩)
        | (go_at_call 8; refine (HALL.out _).mono ?_; rintro e w2 ⟨A, c, rfl, ho2, hb2⟩; have HO2 := Lib.hid ho2; clear ho2)
        | (go_at_call 9; refine (HREF.out _).mono ?_; rintro e w3 ⟨V, rfl, ho3, hb3⟩; obtain ⟨D, d, rfl, _⟩ := rowR_of_own ho3 HN.out.symm; have HO3 := Lib.hid ho3; clear ho3)
        | (go_at_call 10; refine (same_own (row_keep HO2.out fun k hk _ => hb3.block k hk) HO3.out HN.out.symm (by omega)).mono ?_; rintro e w4 ⟨rfl, q, rfl⟩))
      go_ret
      exact ⟨rfl, below_drewN (then_ (then_ hb1 hb2) hb3) q⟩
    · have HBAD := Lib.hid (fun w => all_bad a0 S w (by omega))
      have hd2 : (decide (a0 < 1) || decide (4096 < a0)) = true := by simp; omega
      by_cases hl : a0 < 1
      · have d1 : decide (a0 < 1) = true := by simpa using hl
        clear hr hd2 hl
        go_enter Try.func3, Try.ntmps3
        go_wp2_with (first
          | (go_at_call 7; refine (HAW.out _).mono ?_; rintro e w1 ⟨rfl, hb1⟩)
          | (go_at_call 8; refine (HBAD.out _).mono ?_; rintro e w2 ⟨rfl, rfl⟩))
        go_ret
        exact ⟨rfl, hb1⟩
      · have d1 : decide (a0 < 1) = false := by simpa using hl
        have d2 : decide (4096 < a0) = true := by simp; omega
        clear hr hd2 hl
        go_enter Try.func3, Try.ntmps3
        go_wp2_with (first
          | (go_at_call 7; refine (HAW.out _).mono ?_; rintro e w1 ⟨rfl, hb1⟩)
          | (go_at_call 8; refine (HBAD.out _).mono ?_; rintro e w2 ⟨rfl, rfl⟩))
        go_ret
        exact ⟨rfl, hb1⟩
end Go.Proofs.Ytnfekbmmnenbfaa
