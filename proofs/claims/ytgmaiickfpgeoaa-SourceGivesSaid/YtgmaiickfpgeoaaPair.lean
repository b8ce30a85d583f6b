/- The source and the document's own, side by side: the same answer. -/
import Derived.Test.YtgmaiickfpgeoaaNextAt
import Derived.Test.YtgmaiickfpgeoaaRNext
namespace Go.Proofs.Ytgmaiickfpgeoaa
open Go Go.RowKit
set_option linter.unusedVariables false

theorem dropP_stop : ∀ (ps : List (List Int)) (n : Nat), n < ps.flatten.length → ∃ p qs, dropP n ps = p :: qs ∧ p.length = stopP n ps - n
  | [], n, h => by simp at h
  | p :: ps, n, h => by
    rw [List.flatten_cons, List.length_append] at h
    rw [dropP, stopP]
    by_cases h2 : n < p.length
    · rw [if_pos h2, if_pos h2]
      exact ⟨_, _, rfl, by rw [List.length_drop]⟩
    · rw [if_neg h2, if_neg h2]
      obtain ⟨q, qs, e, hq⟩ := dropP_stop ps (n - p.length) (by omega)
      exact ⟨q, qs, e, by omega⟩

theorem extract_more (xs : List Int) (G k : Nat) : (strOfNums xs).extract G (G + k) = strOfNums ((xs.drop G).take k) := by
  rw [strOfNums_extract, Nat.add_sub_cancel_left]

theorem pair_next {w : World} {B U g : Nat} {ps qs : List (List Int)} {er fail : Int} {G len : Nat} {xs : List Int} (hfp : Full ps) (hfq : Full qs) (hqf : qs.flatten = xs) (hxl : xs.length = len) (hlen : len ≤ 300) (hql : qs.length ≤ 1000)
    (hcase : ((fail < 0 ∨ (len : Int) < fail) ∧ ps = qs ∧ er = 19) ∨ ∃ F : Nat, fail = F ∧ F ≤ len ∧ ps = takeP F qs ∧ ps.flatten = xs.take F ∧ er = 11)
    (h : Src w B U g (dropP G ps) er (G : Int) ((len : Int) - (G : Int))) (hG : G ≤ ps.flatten.length) (most : Int) :
    ∃ (k : Nat) (E : Int), 0 ≤ E ∧ E ≤ 19 ∧ k ≤ 1000 ∧ G + k ≤ ps.flatten.length ∧ G + k ≤ len ∧
      (Calls Try.prog 10 #[.pointer (some ⟨g, 0, none⟩), .int .i64 most] w fun e' w' => ∃ (A : Option Addr) (c : Nat), e' = .returned (.tuple #[.slice A k c, .int .i64 E]) ∧ w'.ownsRow w.heap.size 5 1 (.slice A k c) k (((xs.drop G).take k).map (Value.int .u8)) ∧
        Src w' B U g (dropP (G + k) ps) er ((G + k : Nat) : Int) ((len : Int) - ((G + k : Nat) : Int)) ∧ Touch B U w w') ∧
      ∀ (w' : World) (B' U' g' : Nat), RSrc w' B' U' g' (strOfNums xs) (G : Int) fail (endsP 0 qs) → Calls Try.prog 11 #[.pointer (some ⟨g', 0, none⟩), .int .i64 most] w' fun e' w'' =>
        e' = .returned (.tuple #[.string (strOfNums ((xs.drop G).take k)), .int .i64 E]) ∧ RSrc w'' B' U' g' (strOfNums xs) ((G + k : Nat) : Int) fail (endsP 0 qs) ∧ Touch B' U' w' w'' := by
  have hps : ps.flatten.length ≤ len := by
    rcases hcase with ⟨_, rfl, _⟩ | ⟨F, _, hF, _, hpf, _⟩
    · rw [hqf]; omega
    · rw [hpf, List.length_take]; omega
  have hsz : (strOfNums xs).size = qs.flatten.length := by rw [size_strOfNums, hqf]
  by_cases hm : most < 1
  · refine ⟨0, 2, by omega, by omega, by omega, by omega, by omega, ?_, ?_⟩
    · refine (next_arg g most w hm).mono ?_
      rintro e' w' ⟨rfl, rfl⟩
      exact ⟨none, 0, rfl, by simpa using World.ownsRow_nil _ _ _ _, h, Touch.refl _ _ _⟩
    · intro w' B' U' g' hr
      refine (rnext_arg g' most w' hm).mono ?_
      rintro e' w2 ⟨rfl, rfl⟩
      exact ⟨rfl, hr, Touch.refl _ _ _⟩
  · by_cases hlt : G < ps.flatten.length
    · -- octets are left
      obtain ⟨p, rest, hd⟩ : ∃ p rest, dropP G ps = p :: rest := by
        rcases hd : dropP G ps with _ | ⟨p, rest⟩
        · have := (dropP_nil hfp).1 hd
          omega
        · exact ⟨p, rest, rfl⟩
      have hfd := dropP_full ps G hfp
      rw [hd] at h hfd
      have hp0 := hfd p (by simp)
      have hroom := dropP_room hd
      obtain ⟨k, hk⟩ := Int.eq_ofNat_of_zero_le (show 0 ≤ min most (p.length : Int) by omega)
      have hkp : k ≤ p.length := by omega
      have hk0 : 0 < k := by omega
      have htk : p.take k = (xs.drop G).take k := by
        rw [dropP_next hd k hkp]
        rcases hcase with ⟨_, rfl, _⟩ | ⟨F, _, hF, _, hpf, _⟩
        · rw [hqf]
        · have hl : ps.flatten.length = F := by rw [hpf, List.length_take]; omega
          rw [hpf, List.drop_take, List.take_take, Nat.min_eq_left (by omega)]
      have hst := stopP_gt qs G (by rw [hqf]; omega)
      rw [hqf, hxl] at hst
      have hT : ((G + k : Nat) : Int) = if fail < 0 then firstI (stopP G qs) G most else min (firstI (stopP G qs) G most) fail := by
        rcases hcase with ⟨hf, hpq, _⟩ | ⟨F, rfl, hF, hpt, hpf, _⟩
        · subst hpq
          obtain ⟨p', r', hd', hpl⟩ := dropP_stop ps G hlt
          rw [hd] at hd'
          injection hd' with e1 e2
          subst e1
          unfold firstI
          split <;> split <;> omega
        · have hl : ps.flatten.length = F := by rw [hpf, List.length_take]; omega
          obtain ⟨p', r', hd', hpl⟩ := dropP_takeP qs F G (by rw [hqf]; omega) (by omega)
          rw [← hpt, hd] at hd'
          injection hd' with e1 e2
          subst e1
          rw [if_neg (by omega)]
          unfold firstI
          split <;> omega
      refine ⟨k, 0, by omega, by omega, by omega, by omega, by omega, ?_, ?_⟩
      · refine (next_some h hfd most (by omega) k hk.symm (by omega) (by omega)).mono ?_
        rintro e' w' ⟨v, rfl, hown, hs, ht⟩
        obtain ⟨A, c, rfl, _, _, _, _⟩ := own_cells hown
        refine ⟨A, c, rfl, by rw [← htk]; exact hown, ?_, ht⟩
        rw [dropP_add ps G k hfp, hd]
        have e1 : (G : Int) + (k : Int) = ((G + k : Nat) : Int) := by omega
        have e2 : (len : Int) - (G : Int) - (k : Int) = (len : Int) - ((G + k : Nat) : Int) := by omega
        rw [e1, e2] at hs
        exact hs
      · intro w' B' U' g' hr
        have hff : fail < 0 ∨ (G : Int) < fail := by
          rcases hcase with ⟨hf, _, _⟩ | ⟨F, rfl, hF, hpt, hpf, _⟩
          · omega
          · have hl : ps.flatten.length = F := by rw [hpf, List.length_take]; omega
            omega
        have := rnext_some hr most (by omega) hff hsz (by rw [hsz, hqf]; omega) (by rw [hsz, hqf]; omega) hql (G + k) hT
        rw [extract_more] at this
        exact this
    · -- nothing is left
      have hGe : G = ps.flatten.length := by omega
      have hnil : dropP G ps = [] := (dropP_nil hfp).2 (by omega)
      have h0 := h
      rw [hnil] at h0
      have her : 0 ≤ er ∧ er ≤ 19 := by
        rcases hcase with ⟨_, _, rfl⟩ | ⟨_, _, _, _, _, rfl⟩ <;> omega
      refine ⟨0, er, her.1, her.2, by omega, by omega, by omega, ?_, ?_⟩
      · refine (next_end h0 most (by omega)).mono ?_
        rintro e' w' ⟨rfl, q, rfl⟩
        exact ⟨none, 0, rfl, by simpa using World.ownsRow_nil _ _ _ _, h.drewN q, (Touch.refl _ _ _).drewN q⟩
      · intro w' B' U' g' hr
        rcases hcase with ⟨hf, hpq, rfl⟩ | ⟨F, rfl, hF, hpt, hpf, rfl⟩
        · subst hpq
          refine (rnext_none hr most (by omega) (by rw [hqf] at hGe; omega) (by rw [hsz, hGe])).mono ?_
          rintro e' w2 ⟨rfl, hb⟩
          exact ⟨rfl, hr.below hb hr.2.2.1, Touch.of_below hb (by have := hr.1; have := hr.2.1; have := hr.2.2.1; omega)⟩
        · have hl : ps.flatten.length = F := by rw [hpf, List.length_take]; omega
          refine (rnext_fails hr most (by omega) (by omega) (by omega)).mono ?_
          rintro e' w2 ⟨rfl, hb⟩
          exact ⟨rfl, hr.below hb hr.2.2.1, Touch.of_below hb (by have := hr.1; have := hr.2.1; have := hr.2.2.1; omega)⟩
end Go.Proofs.Ytgmaiickfpgeoaa
