/- How matches rise. -/
import Derived.Test.YtegcebgoiocakaaN04
import Derived.Test.YtegcebgoiocakaaN05
import Derived.Test.YtegcebgoiocakaaO02
import Derived.Test.YtegcebgoiocakaaP06
namespace Go.Proofs.Ytegcebgoiocakaa
set_option linter.unusedVariables false

/-- From this place no match is told. -/
def Skip (p : List InstL) (rs : List Int) (b : Option Nat) (j : Nat) : Prop := Long p rs j none ∨ (Long p rs j (some j) ∧ b = some j)
theorem AllR.last {p : List InstL} {rs : List Int} {k : Nat} {b : Option Nat} {l : List (Nat × Nat)} (h : AllR p rs k b l) (hl : l = []) : ∀ j, k ≤ j → j ≤ rs.length → Skip p rs b j := by
  induction h with
  | stop h => intro j h1 h2; omega
  | skip h hc _ ih =>
    intro j h1 h2
    rcases Nat.eq_or_lt_of_le h1 with rfl | h1
    · exact hc
    · exact ih hl j h1 h2
  | take => cases hl
theorem AllR.head {p : List InstL} {rs : List Int} {k : Nat} {b : Option Nat} {l : List (Nat × Nat)} (h : AllR p rs k b l) : ∀ (f e : Nat) (l' : List (Nat × Nat)), l = (f, e) :: l' → k ≤ f ∧ f ≤ rs.length ∧ Long p rs f (some e) ∧ ¬ (e = f ∧ b = some f) ∧ AllR p rs e (some e) l' ∧ ∀ j, k ≤ j → j < f → Skip p rs b j := by
  induction h with
  | stop h => intro f e l' hl; cases hl
  | skip h hc _ ih =>
    intro f e l' hl
    obtain ⟨h1, h2, h3, h4, h5, h6⟩ := ih f e l' hl
    refine ⟨by omega, h2, h3, h4, h5, fun j g1 g2 => ?_⟩
    rcases Nat.eq_or_lt_of_le g1 with rfl | g1
    · exact hc
    · exact h6 j g1 g2
  | take h hL hc hA _ =>
    intro f e l' hl
    injection hl with h1 h2
    injection h1 with h3 h4
    subst h3; subst h4; subst h2
    exact ⟨Nat.le_refl _, h, hL, hc, hA, fun j g1 g2 => by omega⟩
/-- What is known ahead of a hit. -/
structure RsI (p : List InstL) (T : List Int) (hs : List (Nat × Nat)) (i : Nat) (at_ : Int) (k : Nat) (b : Option Nat) : Prop where
  all : AllR p (rsT T) k b (hs.drop i)
  bb : b = (if i = 0 then none else (hs[i - 1]?).map Prod.snd)
  lo : (atF T k : Int) ≤ at_
  hi : at_ = (atF T k : Int) ∨ (at_ = (atF T k : Int) + 1 ∧ Long p (rsT T) k (some k) ∧ b = some k)
  kl : k ≤ (rsT T).length
  pl : ∀ e, b = some e → e ≤ (rsT T).length
section
variable {p : List InstL} {T : List Int} {hs : List (Nat × Nat)} {i k : Nat} {at_ : Int} {b : Option Nat}
theorem RsI.begin (h : AllR p (rsT T) 0 none hs) : RsI p T hs 0 0 0 none := ⟨h, rfl, Int.le_refl _, .inl rfl, Nat.zero_le _, fun e h => nomatch h⟩
/-- The next hit: where it begins and ends, and what is between. -/
theorem RsI.hit (h : RsI p T hs i at_ k b) {f e : Nat} (hi : hs[i]? = some (f, e)) :
    at_ ≤ (atF T f : Int) ∧ f ≤ (rsT T).length ∧ f ≤ e ∧ e ≤ (rsT T).length ∧ Long p (rsT T) f (some e) ∧ ¬ (e = f ∧ b = some f) ∧ RsI p T hs (i + 1) (if f = e then (atF T e : Int) + 1 else (atF T e : Int)) e (some e) ∧ ∀ j, (at_ ≤ (atF T j : Int)) → j < f → Skip p (rsT T) b j := by
  have hd : hs.drop i = (f, e) :: hs.drop (i + 1) := by
    have hlt := (List.getElem?_eq_some_iff.1 hi).1
    rw [List.drop_eq_getElem_cons hlt]
    congr 1
    exact (List.getElem?_eq_some_iff.1 hi).2
  obtain ⟨h1, h2, h3, h4, h5, h6⟩ := h.all.head f e _ hd
  have hle := h3.1.le
  have hel := h3.1.lt h2
  have hjk : ∀ j, j ≤ (rsT T).length → at_ ≤ (atF T j : Int) → k ≤ j := fun j hj ha => by
    rcases Nat.lt_or_ge j k with h7 | h7
    · have := atF_lt (T := T) h.kl h7; have := h.lo; omega
    · exact h7
  refine ⟨?_, h2, hle, hel, h3, h4, ⟨h5, by simp [hi], ?_, ?_, hel, fun x hx => by injection hx with hx; omega⟩, fun j ha hj => h6 j (hjk j (by omega) ha) hj⟩
  · rcases h.hi with h7 | ⟨h7, h8, h9⟩
    · rw [h7]; have := atF_le (T := T) h2 h1; omega
    · rcases Nat.eq_or_lt_of_le h1 with rfl | h10
      · have := h3.uniq h8
        injection this with this
        exact absurd ⟨this, h9⟩ h4
      · have := atF_lt (T := T) h2 h10; omega
  · split <;> omega
  · split
    · next h7 => subst h7; exact .inr ⟨rfl, h3, rfl⟩
    · exact .inl rfl
/-- Behind the last hit. -/
theorem RsI.over (h : RsI p T hs i at_ k b) (hi : i = hs.length) : ∀ j, j ≤ (rsT T).length → (at_ ≤ (atF T j : Int)) → Skip p (rsT T) b j := fun j hj ha => by
  refine h.all.last (by rw [hi, List.drop_length]) j ?_ hj
  rcases Nat.lt_or_ge j k with h7 | h7
  · have := atF_lt (T := T) h.kl h7; have := h.lo; omega
  · exact h7
/-- Where nothing is told the longest match is none, or an empty one right behind a match. -/
theorem skip_longV {a v : Int} {ok : Bool} (h : LongV p T a v ok) (hs' : ∀ j, j ≤ (rsT T).length → a = (atF T j : Int) → Skip p (rsT T) b j) : ok = false ∨ (ok = true ∧ v = a ∧ ∃ j, b = some j ∧ a = (atF T j : Int)) := by
  rcases h with ⟨j, o, h1, h2, h3, h4, h5⟩ | ⟨_, _, h3⟩
  · rcases hs' j h1 h2 with h6 | ⟨h6, h7⟩
    · obtain rfl := h3.uniq h6
      exact .inl h5
    · obtain rfl := h3.uniq h6
      exact .inr ⟨h5, by rw [h4, h2]; rfl, j, h7, h2⟩
  · exact .inl h3
theorem hit_longV {a v : Int} {ok : Bool} {f e : Nat} (h : LongV p T a v ok) (ha : a = (atF T f : Int)) (hf : f ≤ (rsT T).length) (hL : Long p (rsT T) f (some e)) : ok = true ∧ v = (atF T e : Int) := by
  rcases h with ⟨j, o, h1, h2, h3, h4, h5⟩ | ⟨h1, _⟩
  · obtain rfl := atF_inj hf h1 (by omega)
    obtain rfl := h3.uniq hL
    exact ⟨h5, h4⟩
  · exact absurd ⟨f, hf, ha⟩ h1
end
end Go.Proofs.Ytegcebgoiocakaa
/- MatchRises: matches rise, do not overlap, are matches, and none begins between them but where it says. -/
namespace Go.Proofs.Ytegcebgoiocakaa
open Go Go.RowKit
set_option linter.unusedVariables false
set_option maxRecDepth 20000

set_option maxHeartbeats 8000000 in
theorem rises11 (s T : ByteArray) (w : World) :
    Calls Try.prog 6 #[.string s, .string T] w fun e w' => e = .returned (.bool true) ∧ Below w.heap.size w w' := by
  have HA := Lib.hid (awake11_any w)
  have HA2 := Lib.hid fun w => awake11_any w
  have HM := Lib.hid fun w => made11_any s w
  by_cases hbig : 60 < s.size ∨ 40 < T.size
  · have hdone : ∀ w1, Below w.heap.size w w1 → ∀ w2, Below w1.heap.size w1 w2 → Below w.heap.size w w2 := fun w1 h1 w2 h2 => h1.trans (h2.mono h1.size)
    by_cases h60 : 60 < s.size
    · have h1 : (60 : Int) < (s.size : Int) := by omega
      clear hbig h60
      go_enter Try.func6, Try.ntmps6
      go_wp2_with (first
        | (go_at_call 8; (with_reducible refine HA.out.mono ?_); rintro e w1 ⟨rfl, hb⟩; have HB := Lib.hid hb; clear hb)
        | (go_at_call 8; (with_reducible refine (HA2.out _).mono ?_); rintro e w2 ⟨rfl, hb⟩; have HB2 := Lib.hid hb; clear hb))
      go_ret
      exact ⟨rfl, hdone _ HB.out _ HB2.out⟩
    · have h1 : ¬ (60 : Int) < (s.size : Int) := by omega
      have h2 : (40 : Int) < (T.size : Int) := by omega
      clear hbig h60
      go_enter Try.func6, Try.ntmps6
      go_wp2_with (first
        | (go_at_call 8; (with_reducible refine HA.out.mono ?_); rintro e w1 ⟨rfl, hb⟩; have HB := Lib.hid hb; clear hb)
        | (go_at_call 8; (with_reducible refine (HA2.out _).mono ?_); rintro e w2 ⟨rfl, hb⟩; have HB2 := Lib.hid hb; clear hb))
      go_ret
      exact ⟨rfl, hdone _ HB.out _ HB2.out⟩
  · have h1 : ¬ (60 : Int) < (s.size : Int) := by omega
    have h2 : ¬ (40 : Int) < (T.size : Int) := by omega
    have HT := Lib.hid (show T.size ≤ 40 by omega)
    clear hbig
    go_enter Try.func6, Try.ntmps6
    go_wp2_with (go_at_call 8; (with_reducible refine HA.out.mono ?_); rintro e w1 ⟨rfl, hb⟩; have HB := Lib.hid hb; clear hb)
    refine (HM.out _).mono ?_
    rintro e w2 ⟨hb, rfl | ⟨P, n, pc, l, rfl, hn0, hn, hI, hr, hset⟩⟩
    · have HB2 := Lib.hid (HB.out.trans (hb.mono HB.out.size))
      clear hb
      go_wp2
      go_ret
      exact ⟨rfl, HB2.out⟩
    · have HB2 := Lib.hid (HB.out.trans (hb.mono HB.out.size))
      have hT := HT.out
      have hIF : ∀ w', Below w2.heap.size w2 w' → InsF (fun b => b < w2.heap.size) w' P n l := fun w' hb => (hI.mono (F' := fun b => b < w2.heap.size) (fun b _ h => h)).belowB hb
      have hmn : (T.size + 1) * n ≤ 50000 := Nat.le_trans (Nat.mul_le_mul (show T.size + 1 ≤ 41 by omega) hn) (by decide)
      have C1 := Lib.hid fun (w' : World) (hb : Below w2.heap.size w2 w') => all_match P n pc l T w' (hIF w' hb) hr (by omega) (by omega)
      have C2 := Lib.hid fun (w' : World) (hb : Below w2.heap.size w2 w') (a : Int) => long_match P n pc l T a w' (hIF w' hb) hr (by omega) (by omega)
      have hn1 : ((n : Int) == 0) = false := by simp; omega
      have hn2 : ¬ (n : Int) = 0 := by omega
      clear hb hI hr hset hmn hIF hT hn hn0
      go_wp2_with (go_at_call 19; (with_reducible refine (C1.out _ (Below.refl _ _)).mono ?_); rintro e w4 ⟨P1, q1, p1, hs1, rfl, ha1, ho1, hb1⟩; have HB4 := Lib.hid hb1; have E1 := Lib.hid ha1; have R4 := Lib.hid (rowH_own ho1); clear ha1 ho1 hb1)
      obtain rfl : hs1.length = q1 := by have := R4.out.1; rw [List.length_map] at this; exact this
      have HLN := Lib.hid (show hs1.length ≤ 3000 from E1.out.len1 (by have := HT.out; omega))
      have HTT := Lib.hid (show (nums T).length = T.size ∧ T.size ≤ 40 from ⟨nums_length T, HT.out⟩)
      go_loopw [7, 8] (fun v7 v8 wr => ∃ (at_ : Int) (i : Nat), v7 = .int .i64 at_ ∧ v8 = .int .i64 (i : Int) ∧ i ≤ hs1.length + 1 ∧ 0 ≤ at_ ∧ at_ ≤ 41 ∧ Hid (Below w4.heap.size w4 wr ∧ (i ≤ hs1.length → ∃ k b, RsI (l.map fun v => v.i) (nums T) hs1 i at_ k b))) (fun _ v8 _ => hs1.length + 1 - (intOf v8).toNat)
      case atStart => exact ⟨0, 0, rfl, rfl, by omega, by omega, by omega, Lib.hid ⟨Below.refl _ _, fun _ => ⟨0, none, RsI.begin E1.out⟩⟩⟩
      case round =>
        obtain ⟨at_, i, rfl, rfl, hi, hat0, hat1, H⟩ := hrel
        have hTb : (T.size : Int) ≤ 40 := by have := HTT.out; omega
        have hib : (i : Int) ≤ 3001 := by have := HLN.out; omega
        by_cases hle : i ≤ hs1.length
        · have hI1 : (i : Int) ≤ (hs1.length : Int) := by omega
          obtain ⟨k, b, hR⟩ := H.out.2 hle
          have HR := Lib.hid hR
          clear hR
          have HBI := Lib.hid (fun j (hj : b = some j) => show ∃ z, i = z + 1 ∧ (hs1[z]?).map Prod.snd = some j from by
            have h1 := HR.out.bb
            rw [hj] at h1
            by_cases h0 : i = 0
            · rw [if_pos h0] at h1; cases h1
            · rw [if_neg h0] at h1
              exact ⟨i - 1, by omega, h1.symm⟩)
          by_cases hlt : i < hs1.length
          · obtain ⟨⟨f, e2⟩, hfe⟩ : ∃ y, hs1[i]? = some y := ⟨_, List.getElem?_eq_getElem hlt⟩
            obtain ⟨g1, g2, g3, g4, g5, g6, g7, g8⟩ := HR.out.hit hfe
            have hlI : (i : Int) < (hs1.length : Int) := by omega
            have hi00 : (0 : Int) ≤ (i : Int) := by omega
            obtain ⟨pb, rfl, hpl, hcp⟩ := (R4.out.below H.out.1).2 (by omega)
            obtain ⟨cA, cB⟩ := hcp i (hitI (nums T) (f, e2)) (by rw [List.getElem?_map, hfe]; rfl)
            obtain ⟨fv, hfv⟩ : ∃ fv : Int, fv = (atF (nums T) f : Int) := ⟨_, rfl⟩
            obtain ⟨ev, hev⟩ : ∃ ev : Int, ev = (atF (nums T) e2 : Int) := ⟨_, rfl⟩
            have cA : wr.cell? ⟨pb, i * 2, none⟩ = some (.int .i64 fv) := by rw [cA, hfv]; rfl
            have cB0 : wr.cell? ⟨pb, i * 2 + 1, none⟩ = some (.int .i64 ev) := by rw [cB, hev]; rfl
            clear cB
            rename_i cA0
            clear cA0
            have hmx := atF_max (T := nums T) g4
            have hle2 := atF_le (T := nums T) g4 g3
            have hev40 : ev ≤ (T.size : Int) := by have := HTT.out.1; omega
            have hfe2 : fv ≤ ev := by omega
            have hfat : at_ ≤ fv := by omega
            have HV := Lib.hid (And.intro hfv (And.intro hev (And.intro hfe (And.intro g2 (And.intro g4 (And.intro g5 (And.intro g6 g7)))))))
            have HSK := Lib.hid (fun j (hj : j ≤ (rsT (nums T)).length) (ha : at_ ≤ (atF (nums T) j : Int)) (hb : (atF (nums T) j : Int) < fv) => g8 j ha (by
              rcases Nat.lt_or_ge j f with h | h
              · exact h
              · have := atF_le (T := nums T) hj h; omega))
            have HTV := Lib.hid (show fv ≤ 41 by omega)
            have HBw := Lib.hid (HB4.out.trans ((H.out.1.alloc H.out.1.size (.cells #[.int .i64 fv, .int .i64 ev] 35)).mono HB4.out.size))
            have HBw4 := Lib.hid (H.out.1.alloc H.out.1.size (.cells #[.int .i64 fv, .int .i64 ev] 35))
            have HCl := Lib.hid (C2.out (wr.alloc (.cells #[.int .i64 fv, .int .i64 ev] 35)) HBw.out fv)
            have d1 : decide (fv < at_) = false := decide_eq_false (by omega)
            have d2 : decide (ev < fv) = false := decide_eq_false (by omega)
            have d3 : decide ((T.size : Int) < ev) = false := decide_eq_false (by omega)
            have d5 : (ev != ev) = false := by simp
            have HE40 := Lib.hid (And.intro hev40 (And.intro hfe2 hfat))
            clear hfe g1 g2 g3 g4 g5 g6 g7 g8 hpl hcp hfv hev hmx hle2 hfe2 hfat hev40
            by_cases hfe0 : f = e2
            · by_cases hi0i : i = 0
              · have hi1 : decide ((0 : Int) < (i : Int)) = false := decide_eq_false (by omega)
                have hi1n : decide (0 < i) = false := decide_eq_false (by omega)
                have d6 : (fv == ev) = true := beq_iff_eq.2 (by have := HV.out.1; have := HV.out.2.1; rw [hfe0] at *; omega)
                have HI0 := Lib.hid hi0i
                clear hi0i
                go_wp2_with fail
                refine HCl.out.mono ?_
                rintro e w9 ⟨v, ok, rfl, hv, hb1⟩
                have hvv := hit_longV hv HV.out.1 HV.out.2.2.2.1 HV.out.2.2.2.2.2.1
                rw [← HV.out.2.1] at hvv
                obtain ⟨rfl, rfl⟩ := hvv
                have HW4 := Lib.hid (HBw4.out.trans (hb1.mono HBw4.out.size))
                have hbx := (hb1.block wr.heap.size (by simp)).trans (heap_alloc_new wr (.cells #[.int .i64 fv, .int .i64 v] 35))
                obtain ⟨x0, x1, _, _⟩ := box_two hbx
                clear hv hb1 hbx cA cB0
                go_wp2_with fail
                go_quiet (fail)
                go_wp2_with fail
                have HW4 := Lib.hid (below_drewN HW4.out nq)
                go_loopw [13] (fun v13 wr2 => ∃ kk : Int, v13 = .int .i64 kk ∧ at_ ≤ kk ∧ kk ≤ 50 ∧ Hid (Below w4.heap.size w4 wr2)) (fun v13 _ => match v13 with | .int _ z => (50 - z).toNat | _ => 0)
                case atStart => exact ⟨at_, rfl, Int.le_refl _, by omega, Lib.hid HW4.out⟩
                case round =>
                  obtain ⟨kk, rfl, hk0, hk1, HWk⟩ := hrel
                  by_cases hkt : kk < fv
                  · have HC := Lib.hid (C2.out _ (HB4.out.trans (HWk.out.mono HB4.out.size)) kk)
                    have hkb : kk ≤ 41 := by have := HTV.out; omega
                    go_wp2_with fail
                    refine HC.out.mono ?_
                    rintro e w9 ⟨v, ok, rfl, hv, hb1⟩
                    have HB9 := Lib.hid (HWk.out.trans (hb1.mono HWk.out.size))
                    have hsk := skip_longV hv (fun j hj ha => HSK.out j hj (by omega) (by omega))
                    clear hv hb1
                    rcases hsk with rfl | ⟨rfl, rfl, j, hbj, haj⟩
                    · go_wp2
                      exact ⟨⟨kk + 1, rfl, by omega, by omega, Lib.hid HB9.out⟩, by show (50 - (kk + 1)).toNat < (50 - kk).toNat; omega⟩
                    · obtain ⟨z, hz, hzs⟩ := HBI.out j hbj
                      obtain ⟨⟨f', e'⟩, hy, he'⟩ := Option.map_eq_some_iff.1 hzs
                      obtain ⟨pb2, hpb2, _, hcp⟩ := (R4.out.below HB9.out).2 (by omega)
                      injection hpb2 with hpb2
                      injection hpb2 with hpb2 _
                      subst hpb2
                      have cz : w9.cell? ⟨pb, z * 2 + 1, none⟩ = some (.int .i64 v) := by
                        rw [(hcp z (hitI (nums T) (f', e')) (by rw [List.getElem?_map, hy]; rfl)).2, haj, ← he']; rfl
                      have hz0 : (0 : Int) ≤ (z : Int) := by omega
                      have hz1 : (z : Int) < (hs1.length : Int) := by omega
                      have hwz : IntKind.i64.wrap ((i : Int) - 1) = (z : Int) := by rw [IntKind.wrap_i64]; omega
                      have hwz2 : (i : Int) - 1 = (z : Int) := by omega
                      have hi0 : ((i : Int) == 0) = false := by simp; omega
                      have hi0' : ¬ (i : Int) = 0 := by omega
                      have hkk : decide (v < v) = false := decide_eq_false (Int.lt_irrefl _)
                      have hkk2 : ¬ v < v := Int.lt_irrefl _
                      clear hz hzs hy he' hcp hbj haj hkk2
                      go_wp2
                      exact ⟨⟨v + 1, rfl, by omega, by omega, Lib.hid HB9.out⟩, by show (50 - (v + 1)).toNat < (50 - v).toNat; omega⟩
                  · obtain ⟨pb2, hpb2, _, hcp⟩ := (R4.out.below HWk.out).2 (by have := List.getElem?_eq_some_iff.1 HV.out.2.2.1; omega)
                    injection hpb2 with hpb2
                    injection hpb2 with hpb2 _
                    subst hpb2
                    obtain ⟨cA, cB⟩ := hcp i (hitI (nums T) (f, e2)) (by rw [List.getElem?_map, HV.out.2.2.1]; rfl)
                    have cA2 : _ = some (Value.int .i64 fv) := cA.trans (by rw [HV.out.1]; rfl)
                    have cB2 : _ = some (Value.int .i64 v) := cB.trans (by rw [HV.out.2.1]; rfl)
                    have hv40 : v ≤ 40 := by have := HE40.out; omega
                    have hv00 : 0 ≤ v := by have := HV.out.2.1; omega
                    clear cA cB hcp
                    go_wp2
                    go_quiet (fail)
                    go_wp2
                    have hA := HV.out.2.2.2.2.2.2.2
                    have hv1 := HV.out.2.1
                    have hE := HE40.out
                    rw [if_pos hfe0, ← hv1] at hA
                    exact ⟨⟨v + 1, i + 1, rfl, rfl, by omega, by omega, by omega, Lib.hid ⟨below_drewN HWk.out _, fun _ => ⟨_, _, hA⟩⟩⟩, by simp [intOf]; omega⟩
              · have hi1 : decide ((0 : Int) < (i : Int)) = true := decide_eq_true (by omega)
                have hi1n : decide (0 < i) = true := decide_eq_true (by omega)
                have hi2 : (0 : Int) < (i : Int) := by omega
                have hi2n : 0 < i := by omega
                have d6 : (fv == ev) = true := beq_iff_eq.2 (by have := HV.out.1; have := HV.out.2.1; rw [hfe0] at *; omega)
                go_wp2_with fail
                refine HCl.out.mono ?_
                rintro e w9 ⟨v, ok, rfl, hv, hb1⟩
                have hvv := hit_longV hv HV.out.1 HV.out.2.2.2.1 HV.out.2.2.2.2.2.1
                rw [← HV.out.2.1] at hvv
                obtain ⟨rfl, rfl⟩ := hvv
                have HW4 := Lib.hid (HBw4.out.trans (hb1.mono HBw4.out.size))
                have hbx := (hb1.block wr.heap.size (by simp)).trans (heap_alloc_new wr (.cells #[.int .i64 fv, .int .i64 v] 35))
                obtain ⟨x0, x1, _, _⟩ := box_two hbx
                obtain ⟨z, hz⟩ : ∃ z, i = z + 1 := ⟨i - 1, by omega⟩
                obtain ⟨⟨f', e'⟩, hy⟩ : ∃ y, hs1[z]? = some y := ⟨_, List.getElem?_eq_getElem (by omega)⟩
                have hbe : b = some e' := by
                  have h1 := HR.out.bb
                  rw [if_neg (by omega), hz, Nat.add_sub_cancel, hy] at h1
                  exact h1
                obtain ⟨pb3, hpb3, _, hcp3⟩ := (R4.out.below HW4.out).2 (by omega)
                injection hpb3 with hpb3
                injection hpb3 with hpb3 _
                subst hpb3
                obtain ⟨pv, hpv⟩ : ∃ pv : Int, pv = (atF (nums T) e' : Int) := ⟨_, rfl⟩
                have cP : w9.cell? ⟨pb, z * 2 + 1, none⟩ = some (.int .i64 pv) := by
                  rw [(hcp3 z (hitI (nums T) (f', e')) (by rw [List.getElem?_map, hy]; rfl)).2, hpv]; rfl
                have hel : e' ≤ (rsT (nums T)).length := HR.out.pl e' hbe
                have d7 : (pv == v) = false := beq_eq_false_iff_ne.2 (fun h => HV.out.2.2.2.2.2.2.1 ⟨hfe0.symm, by
                  rw [hbe, hfe0]
                  have h8 := HV.out.2.1
                  rw [atF_inj hel HV.out.2.2.2.2.1 (by omega)]⟩)
                have hz0 : (0 : Int) ≤ (z : Int) := by omega
                have hz1 : (z : Int) < (hs1.length : Int) := by omega
                have hwz : IntKind.i64.wrap ((i : Int) - 1) = (z : Int) := by rw [IntKind.wrap_i64]; omega
                have hwz2 : (i : Int) - 1 = (z : Int) := by omega
                clear hz hy hbe hcp3 hpv hel
                clear hv hb1 hbx cA cB0
                go_wp2_with fail
                go_quiet (fail)
                clear hwz hwz2 hz0 hz1 cP d7
                go_wp2_with fail
                have HW4 := Lib.hid (below_drewN HW4.out nq)
                go_loopw [13] (fun v13 wr2 => ∃ kk : Int, v13 = .int .i64 kk ∧ at_ ≤ kk ∧ kk ≤ 50 ∧ Hid (Below w4.heap.size w4 wr2)) (fun v13 _ => match v13 with | .int _ z => (50 - z).toNat | _ => 0)
                case atStart => exact ⟨at_, rfl, Int.le_refl _, by omega, Lib.hid HW4.out⟩
                case round =>
                  obtain ⟨kk, rfl, hk0, hk1, HWk⟩ := hrel
                  by_cases hkt : kk < fv
                  · have HC := Lib.hid (C2.out _ (HB4.out.trans (HWk.out.mono HB4.out.size)) kk)
                    have hkb : kk ≤ 41 := by have := HTV.out; omega
                    go_wp2_with fail
                    refine HC.out.mono ?_
                    rintro e w9 ⟨v, ok, rfl, hv, hb1⟩
                    have HB9 := Lib.hid (HWk.out.trans (hb1.mono HWk.out.size))
                    have hsk := skip_longV hv (fun j hj ha => HSK.out j hj (by omega) (by omega))
                    clear hv hb1
                    rcases hsk with rfl | ⟨rfl, rfl, j, hbj, haj⟩
                    · go_wp2
                      exact ⟨⟨kk + 1, rfl, by omega, by omega, Lib.hid HB9.out⟩, by show (50 - (kk + 1)).toNat < (50 - kk).toNat; omega⟩
                    · obtain ⟨z, hz, hzs⟩ := HBI.out j hbj
                      obtain ⟨⟨f', e'⟩, hy, he'⟩ := Option.map_eq_some_iff.1 hzs
                      obtain ⟨pb2, hpb2, _, hcp⟩ := (R4.out.below HB9.out).2 (by omega)
                      injection hpb2 with hpb2
                      injection hpb2 with hpb2 _
                      subst hpb2
                      have cz : w9.cell? ⟨pb, z * 2 + 1, none⟩ = some (.int .i64 v) := by
                        rw [(hcp z (hitI (nums T) (f', e')) (by rw [List.getElem?_map, hy]; rfl)).2, haj, ← he']; rfl
                      have hz0 : (0 : Int) ≤ (z : Int) := by omega
                      have hz1 : (z : Int) < (hs1.length : Int) := by omega
                      have hwz : IntKind.i64.wrap ((i : Int) - 1) = (z : Int) := by rw [IntKind.wrap_i64]; omega
                      have hwz2 : (i : Int) - 1 = (z : Int) := by omega
                      have hi0 : ((i : Int) == 0) = false := by simp; omega
                      have hi0' : ¬ (i : Int) = 0 := by omega
                      have hkk : decide (v < v) = false := decide_eq_false (Int.lt_irrefl _)
                      have hkk2 : ¬ v < v := Int.lt_irrefl _
                      clear hz hzs hy he' hcp hbj haj hkk2
                      go_wp2
                      exact ⟨⟨v + 1, rfl, by omega, by omega, Lib.hid HB9.out⟩, by show (50 - (v + 1)).toNat < (50 - v).toNat; omega⟩
                  · obtain ⟨pb2, hpb2, _, hcp⟩ := (R4.out.below HWk.out).2 (by have := List.getElem?_eq_some_iff.1 HV.out.2.2.1; omega)
                    injection hpb2 with hpb2
                    injection hpb2 with hpb2 _
                    subst hpb2
                    obtain ⟨cA, cB⟩ := hcp i (hitI (nums T) (f, e2)) (by rw [List.getElem?_map, HV.out.2.2.1]; rfl)
                    have cA2 : _ = some (Value.int .i64 fv) := cA.trans (by rw [HV.out.1]; rfl)
                    have cB2 : _ = some (Value.int .i64 v) := cB.trans (by rw [HV.out.2.1]; rfl)
                    have hv40 : v ≤ 40 := by have := HE40.out; omega
                    have hv00 : 0 ≤ v := by have := HV.out.2.1; omega
                    clear cA cB hcp
                    go_wp2
                    go_quiet (fail)
                    go_wp2
                    have hA := HV.out.2.2.2.2.2.2.2
                    have hv1 := HV.out.2.1
                    have hE := HE40.out
                    rw [if_pos hfe0, ← hv1] at hA
                    exact ⟨⟨v + 1, i + 1, rfl, rfl, by omega, by omega, by omega, Lib.hid ⟨below_drewN HWk.out _, fun _ => ⟨_, _, hA⟩⟩⟩, by simp [intOf]; omega⟩
            · by_cases hi0i : i = 0
              · have hi1 : decide ((0 : Int) < (i : Int)) = false := decide_eq_false (by omega)
                have hi1n : decide (0 < i) = false := decide_eq_false (by omega)
                have d6 : (fv == ev) = false := beq_eq_false_iff_ne.2 (fun h => hfe0 (atF_inj HV.out.2.2.2.1 HV.out.2.2.2.2.1 (by have := HV.out.1; have := HV.out.2.1; omega)))
                have HI0 := Lib.hid hi0i
                clear hi0i
                go_wp2_with fail
                refine HCl.out.mono ?_
                rintro e w9 ⟨v, ok, rfl, hv, hb1⟩
                have hvv := hit_longV hv HV.out.1 HV.out.2.2.2.1 HV.out.2.2.2.2.2.1
                rw [← HV.out.2.1] at hvv
                obtain ⟨rfl, rfl⟩ := hvv
                have HW4 := Lib.hid (HBw4.out.trans (hb1.mono HBw4.out.size))
                have hbx := (hb1.block wr.heap.size (by simp)).trans (heap_alloc_new wr (.cells #[.int .i64 fv, .int .i64 v] 35))
                obtain ⟨x0, x1, _, _⟩ := box_two hbx
                clear hv hb1 hbx cA cB0
                go_wp2_with fail
                go_quiet (fail)
                go_wp2_with fail
                have HW4 := Lib.hid (below_drewN HW4.out nq)
                go_loopw [13] (fun v13 wr2 => ∃ kk : Int, v13 = .int .i64 kk ∧ at_ ≤ kk ∧ kk ≤ 50 ∧ Hid (Below w4.heap.size w4 wr2)) (fun v13 _ => match v13 with | .int _ z => (50 - z).toNat | _ => 0)
                case atStart => exact ⟨at_, rfl, Int.le_refl _, by omega, Lib.hid HW4.out⟩
                case round =>
                  obtain ⟨kk, rfl, hk0, hk1, HWk⟩ := hrel
                  by_cases hkt : kk < fv
                  · have HC := Lib.hid (C2.out _ (HB4.out.trans (HWk.out.mono HB4.out.size)) kk)
                    have hkb : kk ≤ 41 := by have := HTV.out; omega
                    go_wp2_with fail
                    refine HC.out.mono ?_
                    rintro e w9 ⟨v, ok, rfl, hv, hb1⟩
                    have HB9 := Lib.hid (HWk.out.trans (hb1.mono HWk.out.size))
                    have hsk := skip_longV hv (fun j hj ha => HSK.out j hj (by omega) (by omega))
                    clear hv hb1
                    rcases hsk with rfl | ⟨rfl, rfl, j, hbj, haj⟩
                    · go_wp2
                      exact ⟨⟨kk + 1, rfl, by omega, by omega, Lib.hid HB9.out⟩, by show (50 - (kk + 1)).toNat < (50 - kk).toNat; omega⟩
                    · obtain ⟨z, hz, hzs⟩ := HBI.out j hbj
                      obtain ⟨⟨f', e'⟩, hy, he'⟩ := Option.map_eq_some_iff.1 hzs
                      obtain ⟨pb2, hpb2, _, hcp⟩ := (R4.out.below HB9.out).2 (by omega)
                      injection hpb2 with hpb2
                      injection hpb2 with hpb2 _
                      subst hpb2
                      have cz : w9.cell? ⟨pb, z * 2 + 1, none⟩ = some (.int .i64 v) := by
                        rw [(hcp z (hitI (nums T) (f', e')) (by rw [List.getElem?_map, hy]; rfl)).2, haj, ← he']; rfl
                      have hz0 : (0 : Int) ≤ (z : Int) := by omega
                      have hz1 : (z : Int) < (hs1.length : Int) := by omega
                      have hwz : IntKind.i64.wrap ((i : Int) - 1) = (z : Int) := by rw [IntKind.wrap_i64]; omega
                      have hwz2 : (i : Int) - 1 = (z : Int) := by omega
                      have hi0 : ((i : Int) == 0) = false := by simp; omega
                      have hi0' : ¬ (i : Int) = 0 := by omega
                      have hkk : decide (v < v) = false := decide_eq_false (Int.lt_irrefl _)
                      have hkk2 : ¬ v < v := Int.lt_irrefl _
                      clear hz hzs hy he' hcp hbj haj hkk2
                      go_wp2
                      exact ⟨⟨v + 1, rfl, by omega, by omega, Lib.hid HB9.out⟩, by show (50 - (v + 1)).toNat < (50 - v).toNat; omega⟩
                  · obtain ⟨pb2, hpb2, _, hcp⟩ := (R4.out.below HWk.out).2 (by have := List.getElem?_eq_some_iff.1 HV.out.2.2.1; omega)
                    injection hpb2 with hpb2
                    injection hpb2 with hpb2 _
                    subst hpb2
                    obtain ⟨cA, cB⟩ := hcp i (hitI (nums T) (f, e2)) (by rw [List.getElem?_map, HV.out.2.2.1]; rfl)
                    have cA2 : _ = some (Value.int .i64 fv) := cA.trans (by rw [HV.out.1]; rfl)
                    have cB2 : _ = some (Value.int .i64 v) := cB.trans (by rw [HV.out.2.1]; rfl)
                    have hv40 : v ≤ 40 := by have := HE40.out; omega
                    have hv00 : 0 ≤ v := by have := HV.out.2.1; omega
                    clear cA cB hcp
                    go_wp2
                    go_quiet (fail)
                    go_wp2
                    have hA := HV.out.2.2.2.2.2.2.2
                    have hv1 := HV.out.2.1
                    have hE := HE40.out
                    rw [if_neg hfe0, ← hv1] at hA
                    exact ⟨⟨v, i + 1, rfl, rfl, by omega, by omega, by omega, Lib.hid ⟨below_drewN HWk.out _, fun _ => ⟨_, _, hA⟩⟩⟩, by simp [intOf]; omega⟩
              · have hi1 : decide ((0 : Int) < (i : Int)) = true := decide_eq_true (by omega)
                have hi1n : decide (0 < i) = true := decide_eq_true (by omega)
                have hi2 : (0 : Int) < (i : Int) := by omega
                have hi2n : 0 < i := by omega
                have d6 : (fv == ev) = false := beq_eq_false_iff_ne.2 (fun h => hfe0 (atF_inj HV.out.2.2.2.1 HV.out.2.2.2.2.1 (by have := HV.out.1; have := HV.out.2.1; omega)))
                go_wp2_with fail
                refine HCl.out.mono ?_
                rintro e w9 ⟨v, ok, rfl, hv, hb1⟩
                have hvv := hit_longV hv HV.out.1 HV.out.2.2.2.1 HV.out.2.2.2.2.2.1
                rw [← HV.out.2.1] at hvv
                obtain ⟨rfl, rfl⟩ := hvv
                have HW4 := Lib.hid (HBw4.out.trans (hb1.mono HBw4.out.size))
                have hbx := (hb1.block wr.heap.size (by simp)).trans (heap_alloc_new wr (.cells #[.int .i64 fv, .int .i64 v] 35))
                obtain ⟨x0, x1, _, _⟩ := box_two hbx
                clear hv hb1 hbx cA cB0
                go_wp2_with fail
                go_quiet (fail)
                go_wp2_with fail
                have HW4 := Lib.hid (below_drewN HW4.out nq)
                go_loopw [13] (fun v13 wr2 => ∃ kk : Int, v13 = .int .i64 kk ∧ at_ ≤ kk ∧ kk ≤ 50 ∧ Hid (Below w4.heap.size w4 wr2)) (fun v13 _ => match v13 with | .int _ z => (50 - z).toNat | _ => 0)
                case atStart => exact ⟨at_, rfl, Int.le_refl _, by omega, Lib.hid HW4.out⟩
                case round =>
                  obtain ⟨kk, rfl, hk0, hk1, HWk⟩ := hrel
                  by_cases hkt : kk < fv
                  · have HC := Lib.hid (C2.out _ (HB4.out.trans (HWk.out.mono HB4.out.size)) kk)
                    have hkb : kk ≤ 41 := by have := HTV.out; omega
                    go_wp2_with fail
                    refine HC.out.mono ?_
                    rintro e w9 ⟨v, ok, rfl, hv, hb1⟩
                    have HB9 := Lib.hid (HWk.out.trans (hb1.mono HWk.out.size))
                    have hsk := skip_longV hv (fun j hj ha => HSK.out j hj (by omega) (by omega))
                    clear hv hb1
                    rcases hsk with rfl | ⟨rfl, rfl, j, hbj, haj⟩
                    · go_wp2
                      exact ⟨⟨kk + 1, rfl, by omega, by omega, Lib.hid HB9.out⟩, by show (50 - (kk + 1)).toNat < (50 - kk).toNat; omega⟩
                    · obtain ⟨z, hz, hzs⟩ := HBI.out j hbj
                      obtain ⟨⟨f', e'⟩, hy, he'⟩ := Option.map_eq_some_iff.1 hzs
                      obtain ⟨pb2, hpb2, _, hcp⟩ := (R4.out.below HB9.out).2 (by omega)
                      injection hpb2 with hpb2
                      injection hpb2 with hpb2 _
                      subst hpb2
                      have cz : w9.cell? ⟨pb, z * 2 + 1, none⟩ = some (.int .i64 v) := by
                        rw [(hcp z (hitI (nums T) (f', e')) (by rw [List.getElem?_map, hy]; rfl)).2, haj, ← he']; rfl
                      have hz0 : (0 : Int) ≤ (z : Int) := by omega
                      have hz1 : (z : Int) < (hs1.length : Int) := by omega
                      have hwz : IntKind.i64.wrap ((i : Int) - 1) = (z : Int) := by rw [IntKind.wrap_i64]; omega
                      have hwz2 : (i : Int) - 1 = (z : Int) := by omega
                      have hi0 : ((i : Int) == 0) = false := by simp; omega
                      have hi0' : ¬ (i : Int) = 0 := by omega
                      have hkk : decide (v < v) = false := decide_eq_false (Int.lt_irrefl _)
                      have hkk2 : ¬ v < v := Int.lt_irrefl _
                      clear hz hzs hy he' hcp hbj haj hkk2
                      go_wp2
                      exact ⟨⟨v + 1, rfl, by omega, by omega, Lib.hid HB9.out⟩, by show (50 - (v + 1)).toNat < (50 - v).toNat; omega⟩
                  · obtain ⟨pb2, hpb2, _, hcp⟩ := (R4.out.below HWk.out).2 (by have := List.getElem?_eq_some_iff.1 HV.out.2.2.1; omega)
                    injection hpb2 with hpb2
                    injection hpb2 with hpb2 _
                    subst hpb2
                    obtain ⟨cA, cB⟩ := hcp i (hitI (nums T) (f, e2)) (by rw [List.getElem?_map, HV.out.2.2.1]; rfl)
                    have cA2 : _ = some (Value.int .i64 fv) := cA.trans (by rw [HV.out.1]; rfl)
                    have cB2 : _ = some (Value.int .i64 v) := cB.trans (by rw [HV.out.2.1]; rfl)
                    have hv40 : v ≤ 40 := by have := HE40.out; omega
                    have hv00 : 0 ≤ v := by have := HV.out.2.1; omega
                    clear cA cB hcp
                    go_wp2
                    go_quiet (fail)
                    go_wp2
                    have hA := HV.out.2.2.2.2.2.2.2
                    have hv1 := HV.out.2.1
                    have hE := HE40.out
                    rw [if_neg hfe0, ← hv1] at hA
                    exact ⟨⟨v, i + 1, rfl, rfl, by omega, by omega, by omega, Lib.hid ⟨below_drewN HWk.out _, fun _ => ⟨_, _, hA⟩⟩⟩, by simp [intOf]; omega⟩
          · have HIL := Lib.hid (show i = hs1.length by omega)
            have hil := HIL.out
            have hnl : ¬ (i : Int) < (hs1.length : Int) := by omega
            have HW4 := Lib.hid H.out.1
            have HSK := Lib.hid (fun j (hj : j ≤ (rsT (nums T)).length) (ha : at_ ≤ (atF (nums T) j : Int)) (hb : (atF (nums T) j : Int) < (T.size : Int) + 1) => HR.out.over hil j hj ha)
            have HTV := Lib.hid (show (T.size : Int) + 1 ≤ 41 by omega)
            clear hil
            go_wp2_with fail
            go_loopw [13] (fun v13 wr2 => ∃ kk : Int, v13 = .int .i64 kk ∧ at_ ≤ kk ∧ kk ≤ 50 ∧ Hid (Below w4.heap.size w4 wr2)) (fun v13 _ => match v13 with | .int _ z => (50 - z).toNat | _ => 0)
            case atStart => exact ⟨at_, rfl, Int.le_refl _, by omega, Lib.hid HW4.out⟩
            case round =>
              obtain ⟨kk, rfl, hk0, hk1, HWk⟩ := hrel
              by_cases hkt : kk < (T.size : Int) + 1
              · have HC := Lib.hid (C2.out _ (HB4.out.trans (HWk.out.mono HB4.out.size)) kk)
                have hkb : kk ≤ 41 := by have := HTV.out; omega
                go_wp2_with fail
                refine HC.out.mono ?_
                rintro e w9 ⟨v, ok, rfl, hv, hb1⟩
                have HB9 := Lib.hid (HWk.out.trans (hb1.mono HWk.out.size))
                have hsk := skip_longV hv (fun j hj ha => HSK.out j hj (by omega) (by omega))
                clear hv hb1
                rcases hsk with rfl | ⟨rfl, rfl, j, hbj, haj⟩
                · go_wp2
                  exact ⟨⟨kk + 1, rfl, by omega, by omega, Lib.hid HB9.out⟩, by show (50 - (kk + 1)).toNat < (50 - kk).toNat; omega⟩
                · obtain ⟨z, hz, hzs⟩ := HBI.out j hbj
                  obtain ⟨⟨f', e'⟩, hy, he'⟩ := Option.map_eq_some_iff.1 hzs
                  obtain ⟨pb, rfl, _, hcp⟩ := (R4.out.below HB9.out).2 (by omega)
                  have cz : w9.cell? ⟨pb, z * 2 + 1, none⟩ = some (.int .i64 v) := by
                    rw [(hcp z (hitI (nums T) (f', e')) (by rw [List.getElem?_map, hy]; rfl)).2, haj, ← he']; rfl
                  have hz0 : (0 : Int) ≤ (z : Int) := by omega
                  have hz1 : (z : Int) < (hs1.length : Int) := by omega
                  have hwz : IntKind.i64.wrap ((i : Int) - 1) = (z : Int) := by rw [IntKind.wrap_i64]; omega
                  have hwz2 : (i : Int) - 1 = (z : Int) := by omega
                  have hi0 : ((i : Int) == 0) = false := by simp; omega
                  have hi0' : ¬ (i : Int) = 0 := by omega
                  have hkk : decide (v < v) = false := decide_eq_false (Int.lt_irrefl _)
                  have hkk2 : ¬ v < v := Int.lt_irrefl _
                  clear hz hzs hy he' hcp hbj haj hkk2
                  go_wp2
                  exact ⟨⟨v + 1, rfl, by omega, by omega, Lib.hid HB9.out⟩, by show (50 - (v + 1)).toNat < (50 - v).toNat; omega⟩
              · go_wp2
                have HIL2 := HIL.out
                exact ⟨⟨at_, i + 1, rfl, rfl, by omega, hat0, hat1, Lib.hid ⟨HWk.out, fun h => absurd h (by omega)⟩⟩, by simp [intOf]; omega⟩
        · have hI1 : ¬ (i : Int) ≤ (hs1.length : Int) := by omega
          have HW4 := Lib.hid (HB4.out.trans (H.out.1.mono HB4.out.size))
          go_wp2
          go_ret
          exact ⟨rfl, HB2.out.trans (HW4.out.mono HB2.out.size)⟩
end Go.Proofs.Ytegcebgoiocakaa
