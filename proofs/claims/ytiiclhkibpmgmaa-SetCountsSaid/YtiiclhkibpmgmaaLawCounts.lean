/- SetCounts: out of what set's calls are to answer. -/
import Derived.Test.YtiiclhkibpmgmaaAwake8
import Derived.Test.YtiiclhkibpmgmaaCanonX
import Derived.Test.YtiiclhkibpmgmaaOwnR
namespace Go.Proofs.Ytiiclhkibpmgmaa
open Go Go.RowKit
set_option linter.unusedVariables false

theorem CanonF.take : ∀ {s : List (Int × Int)} {lo : Int} (k : Nat), CanonF lo s → CanonF lo (s.take k)
  | [], _, k, _ => by rw [List.take_nil]; trivial
  | p :: s, lo, 0, h => trivial
  | p :: s, lo, k + 1, ⟨h1, h2, h3, h4⟩ => ⟨h1, h2, h3, CanonF.take k h4⟩
theorem countL_more : ∀ a b : List (Int × Int), countL (a ++ b) = countL a + countL b
  | [], b => by
    show countL b = 0 + countL b
    omega
  | p :: a, b => by
    show countL (p :: (a ++ b)) = _
    rw [countL_cons, countL_cons, countL_more a b]; omega
theorem countL_step (s : List (Int × Int)) (k : Nat) (h : k < s.length) : countL (s.take (k + 1)) = countL (s.take k) + ((s.getD k (0, 0)).2 - (s.getD k (0, 0)).1 + 1) := by
  have e : s.take (k + 1) = s.take k ++ [s.getD k (0, 0)] := by
    rw [List.take_succ_eq_append_getElem h]
    simp [List.getD, List.getElem?_eq_getElem h]
  rw [e, countL_more]
  show _ + ((s.getD k (0, 0)).2 - (s.getD k (0, 0)).1 + 1 + 0) = _
  omega

set_option maxHeartbeats 4000000 in
set_option maxRecDepth 10000 in
theorem setCounts_any (F : Faces) (A0 : Option Addr) (n0 c0 : Nat) (s : List (Int × Int)) (w : World) (hs : InG w A0 n0 c0 s) :
    Calls Try.prog 6 #[.slice A0 n0 c0] w fun e w' => e = .returned (.bool true) ∧ Below w.heap.size w w' := by
  rcases Nat.lt_or_ge 20 n0 with h0 | h0
  · have d0 : 20 < n0 := h0
    go_enter Try.func6, Try.ntmps6
    go_wp2_with (go_at_call 8; refine (awake_any F _).mono ?_; rintro e w1 ⟨rfl, hb⟩; have HB : Hid (Below w.heap.size w w1) := Lib.hid (by first | exact hb | exact then_ HB.out hb); clear hb)
    go_ret
    exact ⟨rfl, HB.out⟩
  · have d0 : ¬ 20 < n0 := by omega
    have hn : n0 ≤ 1000000 := by omega
    go_enter Try.func6, Try.ntmps6
    go_wp2_with (first
      | (go_at_call 8; refine (awake_any F _).mono ?_; rintro e w1 ⟨rfl, hb1⟩; have is1 := hs.below hb1)
      | (go_at_call 9; (with_reducible refine (F.of w1 _ _ _ _ is1 hn).mono ?_); rintro e w2 ⟨V, lt, rfl, ho, ct, hm⟩; obtain ⟨At, pt, rfl, it, bt⟩ := canon_out ho ct; have hb2 := ho.2; have HM := Lib.hid hm; clear ho hm))
    obtain ⟨N, hN⟩ : ∃ N, N = lt.length := ⟨_, rfl⟩
    have it' := it
    rw [← hN] at it' ⊢
    have IT := Lib.hid it
    have IT' := Lib.hid it'
    have HN := Lib.hid hN
    have hN6 : N ≤ 600000 := by omega
    clear it it' hN
    go_loopw [4, 5] (fun vn vi wr => ∃ k q : Nat, vi = .int .i64 (k : Int) ∧ k ≤ N ∧ vn = .int .i64 (countL (lt.take k)) ∧ wr = w2.drewN q) (fun _ vi _ => N - (intOf vi).toNat)
    case atStart => exact ⟨0, 0, rfl, Nat.zero_le _, rfl, rfl⟩
    case round =>
      obtain ⟨k, q, rfl, hk, rfl, rfl⟩ := hrel
      by_cases hkn : k < N
      · obtain ⟨b, o, rfl, _, hc⟩ := IT'.out.1.2 (by omega)
        obtain ⟨e0, e1⟩ := hc k hkn
        have hst := countL_step lt k (by have := HN.out; omega)
        have hwf := CanonF.wf (Int.le_refl _) ct (lt.getD k (0, 0)) (by rw [List.getD, List.getElem?_eq_getElem (by have := HN.out; omega)]; exact List.getElem_mem _)
        have hc1 := count_small (show Canon (lt.take k) from CanonF.take k ct)
        obtain ⟨x, y, hxy⟩ : ∃ x y, (x, y) = lt.getD k (0, 0) := ⟨_, _, rfl⟩
        rw [← hxy] at e0 e1 hst hwf
        dsimp only at e0 e1 hst hwf
        obtain ⟨K, hK⟩ : ∃ K, K = countL (lt.take k) := ⟨_, rfl⟩
        rw [← hK] at hst hc1 ⊢
        have w1' : IntKind.i64.wrap (y - x) = y - x := by rw [IntKind.wrap_i64]; omega
        have w2' : IntKind.i64.wrap (y - x + 1) = y - x + 1 := by rw [IntKind.wrap_i64]; omega
        have w3' : IntKind.i64.wrap (K + (y - x + 1)) = K + (y - x + 1) := by rw [IntKind.wrap_i64]; omega
        have HST := Lib.hid hst
        clear hc hxy hK hst hwf hc1
        go_wp2
        go_quiet (fail)
        go_wp2
        exact ⟨⟨k + 1, q + nq, by go_num, by omega, by rw [HST.out], rfl⟩, by simp [intOf]; omega⟩
      · have hkN : k = N := by omega
        subst hkN
        have htk : lt.take k = lt := List.take_of_length_le (by have := HN.out; omega)
        rw [htk]
        obtain ⟨w3, hw3⟩ : ∃ w3, w3 = w2.drewN q := ⟨_, rfl⟩
        rw [← hw3]
        have hb3 : Below w2.heap.size w2 w3 := by rw [hw3]; exact below_drewN (Below.refl _ _) q
        have is3 := (is1.below hb2).below hb3
        clear hw3 htk
        have hcl := count_small ct
        obtain ⟨K, hK⟩ : ∃ K, K = countL lt := ⟨_, rfl⟩
        rw [← hK] at hcl ⊢
        have HK := Lib.hid hK
        clear hK
        by_cases h1 : K = 1
        · subst h1
          have honly := fun w h => F.only w A0 n0 c0 s lt h hn ct HM.out
          rw [← HK.out, decide_eq_true rfl] at honly
          have hcount := fun w h => F.count w A0 n0 c0 s lt h hn ct HM.out
          rw [← HK.out] at hcount
          have HON := Lib.hid honly
          have HCO := Lib.hid hcount
          clear honly hcount
          go_wp2_with (first
            | (go_at_call 21; (with_reducible refine (HON.out w3 is3).mono ?_); rintro e w4 ⟨x, rfl, hx1, hx0, hb4⟩; have HX := Lib.hid (hx1 rfl); clear hx1 hx0)
            | (go_at_call 22; (with_reducible refine (HCO.out w4 (is3.below hb4)).mono ?_); rintro e w5 ⟨rfl, hb5⟩)
            | (go_at_call 22; (with_reducible refine (HCO.out w5 ((is3.below hb4).below hb5)).mono ?_); rintro e w6 ⟨rfl, hb6⟩)
            | (go_at_call 16; (with_reducible refine (F.no w6 _ _ _ _ (((is3.below hb4).below hb5).below hb6) hn).mono ?_); rintro e w7 ⟨V, ln, rfl, ho, cn, hm⟩; obtain ⟨An, pn, rfl, in7, bn⟩ := canon_out ho cn; have hb7 := ho.2; have hsum := count_not ct cn (fun r => by rw [hm r, HM.out r]; rfl); rw [← HK.out] at hsum; have hwa : IntKind.i64.wrap (1 + countL ln) = 1114112 := (by rw [IntKind.wrap_i64]; omega); clear ho hm hsum)
            | (go_at_call 22; (with_reducible refine (F.count w7 _ _ _ _ ln in7 (Nat.le_trans bn (by decide)) cn (fun _ => rfl)).mono ?_); rintro e w8 ⟨rfl, hb8⟩)
            | (go_at_call 14; have hh := rhas_any s A0 n0 c0 x w8 (((((is3.below hb4).below hb5).below hb6).below hb7).below hb8).row hn; rw [HX.out] at hh; (with_reducible refine hh.mono ?_); rintro e w9 ⟨rfl, rfl⟩; clear hh))
          go_ret
          exact ⟨rfl, then_ (then_ (then_ (then_ (then_ (then_ (then_ hb1 hb2) hb3) hb4) hb5) hb6) hb7) hb8⟩
        · have honly := fun w h => F.only w A0 n0 c0 s lt h hn ct HM.out
          rw [← HK.out, decide_eq_false h1] at honly
          have hK1 : (K == 1) = false := by simpa using h1
          have H1 := Lib.hid h1
          clear h1
          have hcount := fun w h => F.count w A0 n0 c0 s lt h hn ct HM.out
          rw [← HK.out] at hcount
          have HON := Lib.hid honly
          have HCO := Lib.hid hcount
          clear honly hcount
          go_wp2_with (first
            | (go_at_call 21; (with_reducible refine (HON.out w3 is3).mono ?_); rintro e w4 ⟨x, rfl, hx1, hx0, hb4⟩; have hx := hx0 H1.out; subst hx; clear hx1 hx0)
            | (go_at_call 22; (with_reducible refine (HCO.out w4 (is3.below hb4)).mono ?_); rintro e w5 ⟨rfl, hb5⟩)
            | (go_at_call 22; (with_reducible refine (HCO.out w5 ((is3.below hb4).below hb5)).mono ?_); rintro e w6 ⟨rfl, hb6⟩)
            | (go_at_call 16; (with_reducible refine (F.no w6 _ _ _ _ (((is3.below hb4).below hb5).below hb6) hn).mono ?_); rintro e w7 ⟨V, ln, rfl, ho, cn, hm⟩; obtain ⟨An, pn, rfl, in7, bn⟩ := canon_out ho cn; have hb7 := ho.2; have hsum := count_not ct cn (fun r => by rw [hm r, HM.out r]; rfl); rw [← HK.out] at hsum; have hwa : IntKind.i64.wrap (K + countL ln) = 1114112 := (by rw [IntKind.wrap_i64]; omega); clear ho hm hsum)
            | (go_at_call 22; (with_reducible refine (F.count w7 _ _ _ _ ln in7 (Nat.le_trans bn (by decide)) cn (fun _ => rfl)).mono ?_); rintro e w8 ⟨rfl, hb8⟩))
          go_ret
          exact ⟨rfl, then_ (then_ (then_ (then_ (then_ (then_ (then_ hb1 hb2) hb3) hb4) hb5) hb6) hb7) hb8⟩
end Go.Proofs.Ytiiclhkibpmgmaa
