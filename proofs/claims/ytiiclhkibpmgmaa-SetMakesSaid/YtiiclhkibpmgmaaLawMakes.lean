/- SetMakes: out of what set's calls are to answer. -/
import Derived.Test.YtiiclhkibpmgmaaAwake8
import Derived.Test.YtiiclhkibpmgmaaCanonX
import Derived.Test.YtiiclhkibpmgmaaRngI
import Derived.Deep.RegionHeldLaw
namespace Go.Proofs.Ytiiclhkibpmgmaa
open Go Go.RowKit
set_option linter.unusedVariables false

/-- append of a list of ranges that came in to a row that has none. -/
theorem app_rngs {w : World} {B : Nat} {V : Value} (h : w.ownsRow B 39 2 V 0 []) {A : Option Addr} {n c : Nat} {s : List (Int × Int)} (hin : InG w A n c s) (hn : n ≤ 1000000) (hB : B ≤ w.heap.size) :
    ∃ P pc w', (Builtin.append_ #[22, 22] 22 #[V, .slice A n c]).run Try.prog w = .ok (.slice P n pc) w' ∧ w'.ownsRow B 39 2 (.slice P n pc) n (cellsG s) ∧ w.grownBy w' V.ownBlock := by
  obtain ⟨i0, hi, hz0, hz1, hz2⟩ := info_parts info_rng
  have hl := hin.1.1
  rcases A with _ | ad
  · obtain ⟨rfl, rfl⟩ := hin.2.2.2.1 rfl
    have hs : s = [] := List.eq_nil_of_length_eq_zero hl
    subst hs
    have hr := run_append_owned_none (P := Try.prog) w B 22 22 39 i0 2 Try.underlying22 hi V 0 _ h
    rcases h.2 with ⟨rfl, _⟩ | ⟨b, cap, cu, rfl, _⟩
    · exact ⟨none, 0, w, hr, h, World.grownBy.refl w _⟩
    · exact ⟨_, _, w, hr, h, World.grownBy.refl w _⟩
  · have hcells : ∀ j u, (cellsG s)[j]? = some u → w.cell? (ad.add j) = some u := by
      intro j u hu
      have hj : j < n * 2 := by
        have := cellsG_length s
        rcases Nat.lt_or_ge j (cellsG s).length with h1 | h1
        · omega
        · rw [List.getElem?_eq_none h1] at hu; cases hu
      obtain ⟨b, o, hA, _, hc⟩ := hin.1.2 (by omega)
      injection hA with hA
      subst hA
      have hadd : (⟨b, o, none⟩ : Addr).add j = ⟨b, o + j, none⟩ := by unfold Addr.add; split <;> simp_all
      obtain ⟨e0, e1⟩ := cellsG_at s (j / 2) (by omega)
      obtain ⟨c0, c1⟩ := hc (j / 2) (by omega)
      rw [hadd]
      rcases Nat.mod_two_eq_zero_or_one j with hm | hm
      · have e : j = j / 2 * 2 := by omega
        rw [e] at hu ⊢
        rw [e0] at hu
        rw [c0, hu]
      · have e : j = j / 2 * 2 + 1 := by omega
        rw [e] at hu ⊢
        rw [e1] at hu
        rw [← Nat.add_assoc, c1, hu]
    obtain ⟨V', w', h1, h2, h3, _⟩ := run_append_own (P := Try.prog) w B 22 22 39 i0 _ 2 16 Try.underlying22 hi hz0 hz1 hz2 rfl (by decide) V 0 [] h ad n c (cellsG s) (by rw [cellsG_length, hl]) hcells
      (by intro u hu; obtain ⟨p, _, hp⟩ := List.mem_flatMap.1 hu; simp at hp; rcases hp with rfl | rfl <;> rfl) (by unfold maxLen; omega) (by omega) hB
    rw [Nat.zero_add, List.nil_append] at h2
    rcases h2.2 with ⟨rfl, h0⟩ | ⟨b, cap, cu, rfl, _⟩
    · subst h0
      exact ⟨none, 0, w', h1, h2, h3⟩
    · exact ⟨_, _, w', h1, h2, h3⟩

set_option maxHeartbeats 4000000 in
set_option maxRecDepth 10000 in
theorem setMakes_any (F : Faces) (A0 : Option Addr) (n0 c0 : Nat) (s : List (Int × Int)) (r : Int) (w : World) (hs : InG w A0 n0 c0 s) :
    Calls Try.prog 3 #[.slice A0 n0 c0, .int .i64 r] w fun e w' => e = .returned (.bool true) ∧ Below w.heap.size w w' := by
  rcases Nat.lt_or_ge 20 n0 with h0 | h0
  · have d0 : 20 < n0 := h0
    go_enter Try.func3, Try.ntmps3
    go_wp2_with (go_at_call 8; refine (awake_any F _).mono ?_; rintro e w1 ⟨rfl, hb⟩; have HB : Hid (Below w.heap.size w w1) := Lib.hid (by first | exact hb | exact then_ HB.out hb); clear hb)
    go_ret
    exact ⟨rfl, HB.out⟩
  · have d0 : ¬ 20 < n0 := by omega
    have hn0 : n0 ≤ 1000000 := by omega
    go_enter Try.func3, Try.ntmps3
    go_wp2_with (first
      | (go_at_call 8; refine (awake_any F _).mono ?_; rintro e w1 ⟨rfl, hb1⟩; have is1 := hs.below hb1; have hb2 : Below w1.heap.size w1 (w1.alloc (.cells #[] 39)) := (Below.refl _ _).alloc (Nat.le_refl _) _; have hmk : (w1.alloc (.cells #[] 39)).ownsRow w1.heap.size 39 2 (.slice (some ⟨w1.heap.size, 0, none⟩) 0 0) 0 [] := ⟨rfl, .inr ⟨w1.heap.size, 0, _, rfl, Nat.le_refl _, heap_alloc_new w1 _, Nat.le_refl _, Nat.zero_le _, rfl, rfl⟩⟩; obtain ⟨P, pc, w3, happ, ho3, hg3⟩ := app_rngs hmk (is1.below hb2) hn0 hb2.size; have hb3 : Below w1.heap.size w1 w3 := hb2.grown hg3 hb2.size (fun k hk => (row_lt hmk hk).1); have HA := Lib.hid happ; have hwf := hs.2.2.2.2; have hlen := hs.1.1; have ho3' := ho3; rw [← hlen] at ho3'; obtain ⟨P', pc', e9, i3⟩ := inG_of_own ho3' hwf; injection e9 with e91 e92 e93; subst e91; subst e93; rw [hlen] at i3; clear happ hmk hg3 hb2 ho3' hwf e92)
      | (at_builtin; refine wpList_append_run rfl (.tmp 17) (.tmp 18) 22 rfl rfl _ _ _ _ rfl rfl HA.out ?_)
      | (go_at_call 9; (with_reducible refine (F.of w3 _ _ _ _ i3 hn0).mono ?_); rintro e w4 ⟨V, t, rfl, ho, ct, hm⟩; obtain ⟨At, pt, rfl, i4, bt⟩ := canon_out ho ct; have hb4 := ho.2; have HM := Lib.hid hm; have hr1 := rright_any t At t.length pt w4 i4.row (Nat.le_trans bt (by decide)); rw [(canonB_all t).2 ct] at hr1; have HR1 := Lib.hid hr1; clear ho hm hr1)
      | (go_at_call 10; (with_reducible refine HR1.out.mono ?_); rintro e w5 ⟨rfl, hq⟩; have hb5 : Below w4.heap.size w4 w5 := (by obtain ⟨q, rfl⟩ := hq; exact below_drewN (Below.refl _ _) q); clear hq)
      | (go_at_call 11; (with_reducible refine (F.right w5 _ _ _ _ (((is1.below hb3).below hb4).below hb5) hn0).mono ?_); rintro e w6 ⟨rfl, hb6⟩)
      | (go_at_call 10; (with_reducible refine (rright_any s A0 n0 c0 w6 ((((is1.below hb3).below hb4).below hb5).below hb6).row hn0).mono ?_); rintro e w7 ⟨rfl, hq⟩; have hb7 : Below w6.heap.size w6 w7 := (by obtain ⟨q, rfl⟩ := hq; exact below_drewN (Below.refl _ _) q); clear hq)
      | (go_at_call 9; (with_reducible refine (F.of w7 _ _ _ _ (((i4.below hb5).below hb6).below hb7) (Nat.le_trans bt (by decide))).mono ?_); rintro e w8 ⟨V, t2, rfl, ho, ct2, hm⟩; have heq : t2 = t := canon_one ct2 ct hm; subst heq; obtain ⟨At2, pt2, rfl, i8, bt2⟩ := canon_out ho ct2; have hb8 := ho.2; clear ho hm)
      | (go_at_call 12; (with_reducible refine (rsameG_any _ At2 At _ pt2 pt w8 i8.row ((((i4.below hb5).below hb6).below hb7).below hb8).row (Nat.le_trans bt2 (by decide))).mono ?_); rintro e w9 ⟨rfl, hq⟩; have hb9 : Below w8.heap.size w8 w9 := (by obtain ⟨q, rfl⟩ := hq; exact below_drewN (Below.refl _ _) q); clear hq)
      | (go_at_call 12; (with_reducible refine (rsameG_any s P A0 n0 pc c0 w9 ((((((i3.below hb4).below hb5).below hb6).below hb7).below hb8).below hb9).row (((((((is1.below hb3).below hb4).below hb5).below hb6).below hb7).below hb8).below hb9).row hn0).mono ?_); rintro e w10 ⟨rfl, hq⟩; have hb10 : Below w9.heap.size w9 w10 := (by obtain ⟨q, rfl⟩ := hq; exact below_drewN (Below.refl _ _) q); clear hq)
      | (go_at_call 13; (with_reducible refine (rends_any s A0 n0 c0 w10 ((((((((is1.below hb3).below hb4).below hb5).below hb6).below hb7).below hb8).below hb9).below hb10).row (Nat.le_trans h0 (by decide))).mono ?_); rintro e w11 ⟨P2, q1, pc2, xs, rfl, ho11, hb11, hq11⟩; obtain ⟨P4, pc4, w12, happ2, ho12, hb12, _⟩ := pushI_at ho11 (by omega) hb11 r; have HA2 := Lib.hid happ2; have HF := Lib.hid (And.intro ho12 hb12); clear happ2 ho11 ho12 hb11 hb12)
      | (at_builtin; refine wpList_append_run rfl (.tmp 46) (.tmp 48) 27 rfl rfl _ _ _ _ rfl rfl HA2.out ?_))
    have hS := ((((((((is1.below hb3).below hb4).below hb5).below hb6).below hb7).below hb8).below hb9).below hb10).below HF.out.2
    have hT := (((((((i4.below hb5).below hb6).below hb7).below hb8).below hb9).below hb10)).below HF.out.2
    have hBB := then_ (then_ (then_ (then_ (then_ (then_ (then_ (then_ (then_ hb1 hb3) hb4) hb5) hb6) hb7) hb8) hb9) hb10) HF.out.2
    have HBB := Lib.hid hBB
    have HROW := Lib.hid HF.out.1
    have hQ6 : q1 + 1 ≤ 100000 := by omega
    obtain ⟨Q, hQ⟩ : ∃ Q, Q = q1 + 1 := ⟨_, rfl⟩
    rw [← hQ] at HROW hQ6 ⊢
    have hbt := Nat.le_trans bt (show 600000 ≤ 1000000 by decide)
    clear hQ HF hBB is1 i3 i4 i8 hb1 hb3 hb4 hb5 hb6 hb7 hb8 hb9 hb10 HA HA2 HR1 hq11
    go_loopw [8] (fun vi wr => ∃ i : Nat, vi = .int .i64 (i : Int) ∧ i ≤ Q ∧ Hid (Below w12.heap.size w12 wr)) (fun vi _ => Q - (intOf vi).toNat)
    case atStart => exact ⟨0, rfl, Nat.zero_le _, Lib.hid (Below.refl _ _)⟩
    case round =>
      obtain ⟨i, rfl, hiQ, HBW⟩ := hrel
      by_cases hlt : i < Q
      · obtain ⟨g, rfl, hcell⟩ := cellI HROW.out hlt
        have hgl : g < w12.heap.size := (row_lt HROW.out (k := g) rfl).2
        generalize (xs ++ [r]).getD i 0 = v at hcell
        have b1 : (0 : Int) ≤ (i : Int) := by omega
        have b2 : (i : Int) < (Q : Int) := by omega
        obtain ⟨X, hX⟩ : ∃ X, X = wr := ⟨_, rfl⟩
        rw [← hX] at HBW ⊢
        clear hX
        obtain ⟨a, ha⟩ : ∃ a, a = hasL s v := ⟨_, rfl⟩
        have hc1 : X.cell? ⟨g, i, none⟩ = some (.int .i64 v) := (HBW.out.cell (p := ⟨g, i, none⟩) hgl).trans hcell
        have hXl := HBW.out.size
        have hcX : ∀ w', Below X.heap.size X w' → w'.cell? ⟨g, i, none⟩ = some (.int .i64 v) := fun w' h => (h.cell (p := ⟨g, i, none⟩) (show g < X.heap.size by omega)).trans hc1
        have k1 : ∀ w', Below X.heap.size X w' → Calls Try.prog 14 #[.slice A0 n0 c0, .int .i64 v] w' fun e w'' => e = .returned (.bool a) ∧ Below X.heap.size X w'' := fun w' h =>
          (rhas_any s A0 n0 c0 v w' ((hS.below HBW.out).below h).row hn0).mono fun e w'' ⟨he, hw⟩ => ⟨by rw [he, ha], hw ▸ h⟩
        have k2 : ∀ w', Below X.heap.size X w' → Calls Try.prog 14 #[.slice At t2.length pt, .int .i64 v] w' fun e w'' => e = .returned (.bool a) ∧ Below X.heap.size X w'' := fun w' h =>
          (rhas_any t2 At t2.length pt v w' ((hT.below HBW.out).below h).row hbt).mono fun e w'' ⟨he, hw⟩ => ⟨by rw [he, HM.out v, ha], hw ▸ h⟩
        have k3 : ∀ w', Below X.heap.size X w' → Calls Try.prog 15 #[.slice A0 n0 c0, .int .i64 v] w' fun e w'' => e = .returned (.bool a) ∧ Below X.heap.size X w'' := fun w' h =>
          (F.has w' A0 n0 c0 s v ((hS.below HBW.out).below h) hn0).mono fun e w'' ⟨he, hw⟩ => ⟨by rw [he, ha], h.trans (Below.mono hw h.size)⟩
        have K1 := Lib.hid k1
        have K2 := Lib.hid k2
        have K3 := Lib.hid k3
        have hr0 : Below X.heap.size X X.drew := (Below.refl _ _).drew
        clear k1 k2 k3 hcell ha
        go_wp2
        go_region_held (fun w' => Below X.heap.size X w') (assumption) (first
          | (go_at_call 14; (with_reducible refine (K1.out _ (by assumption)).mono ?_); rintro e w5 ⟨rfl, hb5⟩)
          | (go_at_call 14; (with_reducible refine (K2.out _ (by assumption)).mono ?_); rintro e w5 ⟨rfl, hb5⟩)
          | (go_at_call 15; (with_reducible refine (K3.out _ (by assumption)).mono ?_); rintro e w5 ⟨rfl, hb5⟩))
        have hb9 : Below X.heap.size X w5 := by assumption
        go_wp2
        exact ⟨⟨i + 1, by go_num, by omega, Lib.hid (HBW.out.trans (Below.mono hb9 HBW.out.size))⟩, by simp [intOf]; omega⟩
      · have hiq : i = Q := by omega
        subst hiq
        go_wp2
        go_ret
        exact ⟨rfl, then_ HBB.out HBW.out⟩
end Go.Proofs.Ytiiclhkibpmgmaa
