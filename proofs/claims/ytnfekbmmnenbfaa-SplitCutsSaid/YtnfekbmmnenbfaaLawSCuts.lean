/- However a text is cut, all that a splitter tells is All of it: the law. -/
import Derived.Test.YtnfekbmmnenbfaaLawSLong
import Derived.Test.YtnfekbmmnenbfaaStrs
namespace Go.Proofs.Ytnfekbmmnenbfaa
open Go Go.RowKit
set_option linter.unusedVariables false

theorem nums_append (a b : ByteArray) : nums (a ++ b) = nums a ++ nums b := by
  unfold nums
  rw [ByteArray.data_append, Array.toList_append, List.map_append]
/-- append of a row of records to a row of the call's own, beside a splitter. -/
theorem append_spl {w : World} {B g m n p W0 B2 : Nat} {V : Value} {cur : List Int} {over : Bool} (h : SplAt w B g m n p V cur over) {P P2 : Option Addr} {q pc q2 pc2 : Nat} {rs rs2 : List RecL} (ho : w.ownsRow W0 40 3 (.slice P q pc) q (cellsR rs)) (h2 : w.ownsRow B2 40 3 (.slice P2 q2 pc2) q2 (cellsR rs2)) (hq : q ≤ 1000000) (hq2 : q2 ≤ 1000000) (hW : W0 ≤ w.heap.size) :
    ∃ P' pc' w', (Builtin.append_ #[23, 23] 23 #[.slice P q pc, .slice P2 q2 pc2]).run Try.prog w = .ok (.slice P' (q + q2) pc') w' ∧
      w'.ownsRow W0 40 3 (.slice P' (q + q2) pc') (q + q2) (cellsR (rs ++ rs2)) ∧ SplAt w' B g m n p V cur over ∧ Below W0 w w' := by
  obtain ⟨P', pc', w', h1, h3, h4⟩ := rows_append ho h2 hq hq2 hW
  refine ⟨P', pc', w', h1, h3, ⟨h.low, (h4.block g h.lt fun e => row_ne_blk ho h.blk (by decide) e.symm).trans h.blk, row_keep h.row fun k hk e => h4.block k hk fun e' => row_ne_row h.row ho (by decide) e'.symm e, h.byte⟩, ?_⟩
  exact (Below.refl W0 w).grown h4 hW fun k hk => (row_lt ho hk).1
theorem good_len {m : Nat} {s : ScanS} (h : Good m s) : s.cur.length ≤ m + 1 := by have := chop_ge s.cur; have := h.2; omega
theorem scan_bounds (m : Nat) (xs : List Int) (h : Good m (scanR m xs scan0)) : (scanR m xs scan0).recs.length ≤ xs.length ∧ (scanR m xs scan0).pos + (scanR m xs scan0).cur.length ≤ xs.length := by
  have hs := sc_whole m xs h.1
  have hc := hs.cur_length
  have := hs.2.2.1
  have := hs.2.2.2.2.2
  omega

/-- What is known behind so many pieces. -/
def Told (wr : World) (B g m : Nat) (all : List Int) (er : Int) : Prop :=
  (er = 0 ∧ Good m (scanR m all scan0) ∧ ∃ V, SplAt wr B g m (scanR m all scan0).recs.length (scanR m all scan0).pos V (scanR m all scan0).cur false) ∨
  (er = 10 ∧ ¬ Good m (scanR m all scan0) ∧ ∃ n p, SplAt wr B g m n p (.slice none 0 0) [] true)

set_option maxHeartbeats 4000000 in
set_option maxRecDepth 10000 in
theorem splitCuts_any (a0 : Int) (A1 : Option Addr) (len1 cap1 : Nat) (ts : List ByteArray) (w : World) (hrow : RowS w A1 len1 ts) (hlen : len1 ≤ maxLen) (hw0 : (Lit.int .i64 a0).wf = true) :
    Calls Try.prog 4 #[.int .i64 a0, .slice A1 len1 cap1] w fun e w' => e = .returned (.bool true) ∧ Below w.heap.size w w' := by
  have HAW := Lib.hid (fun w => awake_any w)
  rcases Nat.lt_or_ge 30 len1 with hbig | hsm
  · have hd : decide ((30 : Int) < (len1 : Int)) = true := by simp; omega
    clear hrow hlen hbig
    go_enter Try.func4, Try.ntmps4
    go_wp2_with (go_at_call 7; refine (HAW.out _).mono ?_; rintro e w1 ⟨rfl, hb⟩; have HB : Hid (Below w.heap.size w w1) := Lib.hid (by first | exact hb | exact then_ HB.out hb); clear hb)
    go_ret
    exact ⟨rfl, HB.out⟩
  · have hd : decide ((30 : Int) < (len1 : Int)) = false := by simp; omega
    by_cases hr : 1 ≤ a0 ∧ a0 ≤ 4096
    · obtain ⟨m, rfl⟩ : ∃ m : Nat, a0 = (m : Int) := ⟨a0.toNat, by omega⟩
      have d1 : decide ((m : Int) < 1) = false := by simp; omega
      have d2 : decide ((4096 : Int) < (m : Int)) = false := by simp; omega
      have hm1 : 1 ≤ m := by omega
      have hm2 : m ≤ 4096 := by omega
      have HNEW := Lib.hid (fun w => new_any m w hm1 hm2)
      have HROW := Lib.hid hrow
      have HLEN := Lib.hid hlen
      clear hrow hr hw0 hlen
      go_enter Try.func4, Try.ntmps4
      go_wp2_with (first
        | (go_at_call 7; refine (HAW.out _).mono ?_; rintro e w1 ⟨rfl, hb1⟩)
        | (go_at_call 11; refine (HNEW.out _).mono ?_; rintro e w2 ⟨rfl, hs2, hb2⟩))
      obtain ⟨B, hB⟩ : ∃ B, B = w1.heap.size := ⟨_, rfl⟩
      rw [← hB] at hs2 ⊢
      have HS0 := Lib.hid hs2
      have HB2 := Lib.hid (then_ hb1 hb2)
      have HBB : Hid (w.heap.size ≤ B) := Lib.hid (by rw [hB]; exact hb1.size)
      clear hs2 hb1 hb2 hB HNEW HAW
      go_loopw [7, 8, 9, 10] (fun va vt ve vi wr => ∃ (k : Nat) (all : ByteArray) (P : Option Addr) (q pc : Nat) (er : Int), va = .string all ∧ vt = .slice P q pc ∧ ve = .int .i64 er ∧ vi = .int .i64 (k : Int) ∧ k ≤ len1 ∧
        Hid (all.size ≤ k * 200 ∧ wr.ownsRow w.heap.size 40 3 (.slice P q pc) q (cellsR (scanR m (nums all) scan0).recs) ∧ (scanR m (nums all) scan0).recs.length = q ∧ Below w.heap.size w wr ∧ Told wr B B m (nums all) er)) (fun _ _ _ vi _ => len1 - (intOf vi).toNat)
      case atStart =>
        exact ⟨0, ⟨#[]⟩, none, 0, 0, 0, rfl, rfl, rfl, rfl, Nat.zero_le _, Lib.hid ⟨Nat.zero_le _, World.ownsRow_nil _ _ _ _, rfl, HB2.out, .inl ⟨rfl, good0 m, _, HS0.out⟩⟩⟩
      case round =>
        obtain ⟨k, all, P, q, pc, er, rfl, rfl, rfl, rfl, hk, HI⟩ := hrel
        by_cases hkn : k < len1
        · obtain ⟨b, o, rfl, hbw, hc⟩ := HROW.out.2 (by omega)
          have ck := (HI.out.2.2.2.1.cell (p := ⟨b, o + k, none⟩) hbw).trans (hc k hkn)
          have hbB : b < B := Nat.lt_of_lt_of_le hbw HBB.out
          obtain ⟨p, hp⟩ : ∃ p, p = ts.getD k ⟨#[]⟩ := ⟨_, rfl⟩
          rw [← hp] at ck
          clear hc
          rcases Nat.lt_or_ge 200 p.size with hpb | hps
          · have hd200 : 200 < p.size := hpb
            clear hp
            go_wp2_with fail
            go_ret
            exact ⟨rfl, HI.out.2.2.2.1⟩
          · have hd200 : ¬ 200 < p.size := by omega
            clear hp
            obtain ⟨hasz, hown, hq, hbel, htold⟩ := HI.out
            have hcat := nums_append all p
            have hcs : (all ++ p).size = all.size + p.size := ByteArray.size_append
            have hsum : ¬ 9223372036854775807 < all.size + p.size := by omega
            have hBw : w.heap.size ≤ wr.heap.size := hbel.size
            rcases htold with ⟨rfl, hgood, V, hs⟩ | ⟨rfl, hbad, n0, p0, hs⟩
            · have hb := scan_bounds m (nums all) hgood
              rw [nums_length] at hb
              have hW := write_any (scanR m (nums all) scan0) hs hgood hm2 p (by omega) (by omega) (by omega)
              rw [← scanR_append, ← hcat] at hW
              have hR := fun w => rall_any m (all ++ p) false w (by omega) hm2
              by_cases hg2 : Good m (scanR m (nums (all ++ p)) scan0)
              · have hb2 := scan_bounds m (nums (all ++ p)) hg2
                have hgl := good_len hg2
                rw [nums_length] at hb2
                rw [allR_good hg2] at hR
                dsimp only at hR
                obtain ⟨s2, hs2⟩ : ∃ s2, s2 = scanR m (nums (all ++ p)) scan0 := ⟨_, rfl⟩
                rw [← hs2] at hR hW hg2 hb2 hgl
                obtain ⟨L, hL⟩ : ∃ L, L = s2.cur.length := ⟨_, rfl⟩
                rw [← hL] at hR hgl
                have HL := Lib.hid hL
                have HR := Lib.hid hR
                have HW := Lib.hid hW
                have HF := Lib.hid (And.intro hs2 (And.intro hg2 hb2))
                have HQ := Lib.hid (And.intro hq hown)
                have HX := Lib.hid (And.intro hasz (And.intro hcs (And.intro hb hBw)))
                have HBE := Lib.hid hbel
                have HNE := Lib.hid hs
                have HBD : Hid (q ≤ 1000000 ∧ all.size + p.size ≤ 1000000) := Lib.hid (by omega)
                have hwm : IntKind.i64.wrap ((m : Int) + 1) = (m : Int) + 1 := by rw [IntKind.wrap_i64]; omega
                have hLm : ¬ m + 1 < L := by omega
                have hLm2 : decide ((m : Int) + 1 < (L : Int)) = false := by simp; omega
                clear hL hR hW hs2 hg2 hb2 hgl hq hown hasz hcs hb hBw hbel hs hcat HI hgood
                go_wp2_with (first
                  | (go_at_call 12; (with_reducible refine HW.out.mono ?_); rintro e w2 ⟨A, kk, cc, news, err, V2, rfl, ho2, hnl, hrec, ht2, hcase⟩; obtain ⟨_, rfl, hs2⟩ := hcase.resolve_right (fun q => q.1 HF.out.2.1); clear hcase; have hln : s2.recs.length = q + kk := (by rw [hrec, List.length_append, hnl, HQ.out.1]); have hkk : kk ≤ 1000000 := (by have := HF.out.2.2.1; have := HX.out.1; have := HX.out.2.1; have := HBD.out.2; omega); have ck2 := (ht2.low.cell (p := ⟨b, o + k, none⟩) hbB).trans ck; have hro := row_touch (e := 40) HQ.out.2 ht2 (row_ne_blk HQ.out.2 HNE.out.blk (by decide)) (by decide); obtain ⟨P', pc', w3, happ, ho3, hs3, hb3⟩ := append_spl hs2 hro ho2 HBD.out.1 hkk (Nat.le_trans HX.out.2.2.2 ht2.low.size); have HA := Lib.hid happ; rw [← hrec] at ho3; have H3 := Lib.hid (And.intro ho3 (And.intro hs3 (And.intro (((HBE.out.trans (Below.mono ht2.low HBB.out)).trans hb3)) hln))); clear happ ho3 hs3 hb3 hro hs2 ho2 ht2 hrec hnl hln)
                  | (go_at_call 9; (with_reducible refine (HR.out _).mono ?_); rintro e w4 ⟨V4, rfl, ho4, hb4⟩; rw [H3.out.2.2.2] at ho4; obtain ⟨D, d, rfl, _⟩ := rowR_of_own ho4 H3.out.2.2.2; have hsame := same_own (row_keep H3.out.1 fun k hk _ => hb4.block k hk) ho4 H3.out.2.2.2 (by have := HF.out.2.2.1; have := HX.out.2.1; have := HBD.out.2; have := H3.out.2.2.2; omega); have hheld := fun q => held_any ((H3.out.2.1.below hb4).drewN q); rw [← HL.out] at hheld; have H4 := Lib.hid (And.intro (row_keep H3.out.1 fun k hk _ => hb4.block k hk) (And.intro (H3.out.2.1.below hb4) (H3.out.2.2.1.trans (Below.mono hb4 H3.out.2.2.1.size)))); have HSM := Lib.hid hsame; have HH := Lib.hid hheld; clear hsame hheld ho4 hb4)
                  | (go_at_call 10; (with_reducible refine HSM.out.mono ?_); rintro e w5 ⟨rfl, q5, rfl⟩)
                  | (go_at_call 13; (with_reducible refine (HH.out _).mono ?_); rintro e w6 ⟨rfl, rfl⟩)
                  | (at_builtin; refine wpList_append_run rfl _ _ 23 rfl rfl _ _ _ _ rfl rfl HA.out ?_))
                refine ⟨⟨k + 1, all ++ p, P', q + kk, pc', 0, rfl, rfl, rfl, by go_num, by omega, Lib.hid ?_⟩, by simp [intOf]; omega⟩
                rw [← HF.out.1]
                refine ⟨by have := HX.out.1; have := HX.out.2.1; omega, H4.out.1, H3.out.2.2.2, below_drewN H4.out.2.2 q5, ?_⟩
                show Told (w4.drewN q5) B B m (nums (all ++ p)) 0
                unfold Told
                rw [← HF.out.1]
                exact .inl ⟨rfl, HF.out.2.1, _, H4.out.2.1.drewN q5⟩
              · have hb2 := scan_len m (nums (all ++ p)) (nums (all ++ p)).length (Nat.le_refl _)
                rw [List.take_length, nums_length] at hb2
                rw [allR_bad hg2] at hR
                dsimp only at hR
                obtain ⟨s2, hs2⟩ : ∃ s2, s2 = scanR m (nums (all ++ p)) scan0 := ⟨_, rfl⟩
                rw [← hs2] at hR hW hg2 hb2
                have HR := Lib.hid hR
                have HW := Lib.hid hW
                have HF := Lib.hid (And.intro hs2 (And.intro hg2 hb2))
                have HQ := Lib.hid (And.intro hq hown)
                have HX := Lib.hid (And.intro hasz (And.intro hcs (And.intro hb hBw)))
                have HBE := Lib.hid hbel
                have HNE := Lib.hid hs
                have HBD : Hid (q ≤ 1000000 ∧ all.size + p.size ≤ 1000000) := Lib.hid (by omega)
                have hwm : IntKind.i64.wrap ((m : Int) + 1) = (m : Int) + 1 := by rw [IntKind.wrap_i64]; omega
                have hLm : ¬ ((m : Int) + 1 < 0) := by omega
                clear hR hW hs2 hg2 hb2 hq hown hasz hcs hb hBw hbel hs hcat HI hgood
                go_wp2_with (first
                  | (go_at_call 12; (with_reducible refine HW.out.mono ?_); rintro e w2 ⟨A, kk, cc, news, err, V2, rfl, ho2, hnl, hrec, ht2, hcase⟩; obtain ⟨_, rfl, n2, p2, hs2⟩ := hcase.resolve_left (fun q => HF.out.2.1 q.1); clear hcase; have hln : s2.recs.length = q + kk := (by rw [hrec, List.length_append, hnl, HQ.out.1]); have hkk : kk ≤ 1000000 := (by have := HF.out.2.2; have := HX.out.1; have := HX.out.2.1; have := HBD.out.2; omega); have ck2 := (ht2.low.cell (p := ⟨b, o + k, none⟩) hbB).trans ck; have hro := row_touch (e := 40) HQ.out.2 ht2 (row_ne_blk HQ.out.2 HNE.out.blk (by decide)) (by decide); obtain ⟨P', pc', w3, happ, ho3, hs3, hb3⟩ := append_spl hs2 hro ho2 HBD.out.1 hkk (Nat.le_trans HX.out.2.2.2 ht2.low.size); have HA := Lib.hid happ; rw [← hrec] at ho3; have H3 := Lib.hid (And.intro ho3 (And.intro hs3 (And.intro (((HBE.out.trans (Below.mono ht2.low HBB.out)).trans hb3)) hln))); clear happ ho3 hs3 hb3 hro hs2 ho2 ht2 hrec hnl hln)
                  | (go_at_call 9; (with_reducible refine (HR.out _).mono ?_); rintro e w4 ⟨V4, rfl, ho4, hb4⟩; rw [H3.out.2.2.2] at ho4; obtain ⟨D, d, rfl, _⟩ := rowR_of_own ho4 H3.out.2.2.2; have hsame := same_own (row_keep H3.out.1 fun k hk _ => hb4.block k hk) ho4 H3.out.2.2.2 (by have := HF.out.2.2; have := HX.out.2.1; have := HBD.out.2; have := H3.out.2.2.2; omega); have hheld := fun q => held_any ((H3.out.2.1.below hb4).drewN q); have H4 := Lib.hid (And.intro (row_keep H3.out.1 fun k hk _ => hb4.block k hk) (And.intro (H3.out.2.1.below hb4) (H3.out.2.2.1.trans (Below.mono hb4 H3.out.2.2.1.size)))); have HSM := Lib.hid hsame; have HH := Lib.hid hheld; clear hsame hheld ho4 hb4)
                  | (go_at_call 10; (with_reducible refine HSM.out.mono ?_); rintro e w5 ⟨rfl, q5, rfl⟩)
                  | (go_at_call 13; (with_reducible refine (HH.out _).mono ?_); rintro e w6 ⟨rfl, rfl⟩)
                  | (at_builtin; refine wpList_append_run rfl _ _ 23 rfl rfl _ _ _ _ rfl rfl HA.out ?_))
                refine ⟨⟨k + 1, all ++ p, P', q + kk, pc', 10, rfl, rfl, rfl, by go_num, by omega, Lib.hid ?_⟩, by simp [intOf]; omega⟩
                rw [← HF.out.1]
                refine ⟨by have := HX.out.1; have := HX.out.2.1; omega, H4.out.1, H3.out.2.2.2, below_drewN H4.out.2.2 q5, ?_⟩
                show Told (w4.drewN q5) B B m (nums (all ++ p)) 10
                unfold Told
                rw [← HF.out.1]
                exact .inr ⟨rfl, HF.out.2.1, _, _, H4.out.2.1.drewN q5⟩
            · have HW := Lib.hid (write_over hs p)
              have HH := Lib.hid (fun q => held_any (hs.drewN q))
              have HH2 := Lib.hid (And.intro hown (And.intro hs (And.intro hbel hbad)))
              have HX := Lib.hid (And.intro hasz hq)
              clear hasz hown hq hbel hbad hcat hcs hsum hBw hs HI
              go_wp2_with (first
                | (go_at_call 12; (with_reducible refine HW.out.mono ?_); rintro e w2 ⟨rfl, q5, rfl⟩)
                | (go_at_call 13; (with_reducible refine (HH.out _).mono ?_); rintro e w6 ⟨rfl, rfl⟩))
              refine ⟨⟨k + 1, all, P, q, pc, 10, rfl, rfl, rfl, by go_num, by omega, Lib.hid ⟨by have := HX.out.1; omega, HH2.out.1, HX.out.2, below_drewN HH2.out.2.2.1 q5, .inr ⟨rfl, HH2.out.2.2.2, _, _, HH2.out.2.1.drewN q5⟩⟩⟩, by simp [intOf]; omega⟩
        · have hkl : k = len1 := by omega
          subst hkl
          clear hkn
          obtain ⟨hasz, hown, hq, hbel, htold⟩ := HI.out
          have hBw : w.heap.size ≤ wr.heap.size := hbel.size
          rcases htold with ⟨rfl, hgood, V, hs⟩ | ⟨rfl, hbad, n0, p0, hs⟩
          · have hb := scan_bounds m (nums all) hgood
            rw [nums_length] at hb
            have hcl : (scanR m (nums all) scan0).cur.length ≤ 1000000 := by omega
            have hC := close_any hs hcl
            have hR := fun w => rall_any m all true w (by omega) hm2
            rw [allR_end hgood] at hR
            dsimp only at hR
            obtain ⟨s2, hs2⟩ : ∃ s2, s2 = scanR m (nums all) scan0 := ⟨_, rfl⟩
            rw [← hs2] at hR hC hq hown hb
            obtain ⟨L, hL⟩ : ∃ L, L = s2.cur.length := ⟨_, rfl⟩
            rw [← hL] at hR hC
            obtain ⟨K, hK⟩ : ∃ K, K = (if 0 < L ∧ L ≤ m then 1 else 0) := ⟨_, rfl⟩
            obtain ⟨LS, hLS⟩ : ∃ LS : List RecL, LS = (if 0 < L ∧ L ≤ m then [⟨s2.recs.length, s2.pos, s2.cur⟩] else []) := ⟨_, rfl⟩
            obtain ⟨E, hE⟩ : ∃ E : Int, E = (if m < L then 10 else 0) := ⟨_, rfl⟩
            have hK1 : K ≤ 1 := by rw [hK]; split <;> omega
            have hKL : LS.length = K := by rw [hLS, hK]; split <;> rfl
            rw [← hK, ← hLS, ← hE] at hC
            rw [← hLS, ← hE, List.length_append, hKL] at hR
            have hqb : q ≤ 900000 := by omega
            have HR := Lib.hid hR
            have HC := Lib.hid hC
            have HQ := Lib.hid (And.intro hq hown)
            have HX := Lib.hid (And.intro hKL (And.intro hK1 (And.intro hqb hBw)))
            have HBE := Lib.hid hbel
            have HNE := Lib.hid hs
            clear hL hK hLS hE hR hC hs2 hb hq hown hasz hBw hbel hs HI hgood hcl hK1 hKL hqb
            go_wp2_with (first
              | (go_at_call 14; (with_reducible refine HC.out.mono ?_); rintro e w2 ⟨A, cc, rfl, ho2, hs2, ht2⟩; have hro := row_touch (e := 40) HQ.out.2 ht2 (row_ne_blk HQ.out.2 HNE.out.blk (by decide)) (by decide); obtain ⟨P', pc', w3, happ, ho3, hs3, hb3⟩ := append_spl hs2 hro ho2 (Nat.le_trans HX.out.2.2.1 (by decide)) (Nat.le_trans HX.out.2.1 (by decide)) (Nat.le_trans HX.out.2.2.2 ht2.low.size); have HA := Lib.hid happ; have hln : (s2.recs ++ LS).length = q + K := (by rw [List.length_append, HQ.out.1, HX.out.1]); have H3 := Lib.hid (And.intro ho3 (And.intro hs3 (And.intro (((HBE.out.trans (Below.mono ht2.low HBB.out)).trans hb3)) hln))); clear happ ho3 hs3 hb3 hro hs2 ho2 ht2 hln)
              | (at_builtin; refine wpList_append_run rfl _ _ 23 rfl rfl _ _ _ _ rfl rfl HA.out ?_)
              | (go_at_call 9; (with_reducible refine (HR.out _).mono ?_); rintro e w4 ⟨V4, rfl, ho4, hb4⟩; rw [HQ.out.1] at ho4; obtain ⟨D, d, rfl, _⟩ := rowR_of_own ho4 H3.out.2.2.2; have hsame := fun q => same_own (w := w4.drewN q) (row_keep H3.out.1 fun k hk _ => hb4.block k hk) ho4 H3.out.2.2.2 (by have := HX.out.2.1; have := HX.out.2.2.1; omega); have hheld := fun q => held_any ((H3.out.2.1.below hb4).drewN q); have H4 := Lib.hid (And.intro (H3.out.2.1.below hb4) (H3.out.2.2.1.trans (Below.mono hb4 H3.out.2.2.1.size))); have HSM := Lib.hid hsame; have HH := Lib.hid hheld; clear hsame hheld ho4 hb4)
              | (go_at_call 12; (with_reducible refine (write_over H4.out.1 _).mono ?_); rintro e w5 ⟨rfl, q5, rfl⟩)
              | (go_at_call 10; (with_reducible refine (HSM.out _).mono ?_); rintro e w6 ⟨rfl, q6, rfl⟩)
              | (go_at_call 13; (with_reducible refine (HH.out _).mono ?_); rintro e w7 ⟨rfl, rfl⟩))
            go_ret
            exact ⟨rfl, below_drewN H4.out.2 (q5 + q6)⟩
          · have hC := close_any hs (Nat.zero_le _)
            rw [if_neg (show ¬ (0 < ([] : List Int).length ∧ ([] : List Int).length ≤ m) from fun q => absurd q.1 (by decide)), if_neg (show ¬ m < ([] : List Int).length from by simp), if_neg (show ¬ (0 < ([] : List Int).length ∧ ([] : List Int).length ≤ m) from fun q => absurd q.1 (by decide))] at hC
            have hqb : q ≤ 1000000 := by
              have := scan_len m (nums all) (nums all).length (Nat.le_refl _)
              rw [List.take_length, nums_length] at this
              omega
            have HC := Lib.hid hC
            have HQ := Lib.hid (And.intro hqb (And.intro hown (And.intro hBw (And.intro hbel hs))))
            clear hC hqb hown hBw hbel hs HI hbad hasz hq
            go_wp2_with (first
              | (go_at_call 14; (with_reducible refine HC.out.mono ?_); rintro e w2 ⟨A, cc, rfl, ho2, hs2, ht2⟩; have hro := row_touch (e := 40) HQ.out.2.1 ht2 (row_ne_blk HQ.out.2.1 HQ.out.2.2.2.2.blk (by decide)) (by decide); obtain ⟨P', pc', w3, happ, ho3, hs3, hb3⟩ := append_spl hs2 hro ho2 HQ.out.1 (Nat.zero_le _) (Nat.le_trans HQ.out.2.2.1 ht2.low.size); have HA := Lib.hid happ; have H3 := Lib.hid ((HQ.out.2.2.2.1.trans (Below.mono ht2.low HBB.out)).trans hb3); clear happ ho3 hs3 hb3 hro hs2 ho2 ht2)
              | (at_builtin; refine wpList_append_run rfl _ _ 23 rfl rfl _ _ _ _ rfl rfl HA.out ?_))
            go_ret
            exact ⟨rfl, H3.out⟩
    · have HBAD := Lib.hid (fun w => new_bad a0 w (by omega))
      clear hrow hlen
      rcases (show a0 < 1 ∨ 1 ≤ a0 by omega) with hl | hl
      · have d1 : decide (a0 < 1) = true := by simpa using hl
        clear hr hl
        go_enter Try.func4, Try.ntmps4
        go_wp2_with (first
          | (go_at_call 7; refine (HAW.out _).mono ?_; rintro e w1 ⟨rfl, hb1⟩)
          | (go_at_call 11; refine (HBAD.out _).mono ?_; rintro e w2 ⟨rfl, rfl⟩))
        go_ret
        exact ⟨rfl, hb1⟩
      · have d1 : decide (a0 < 1) = false := by simpa using hl
        have d2 : decide (4096 < a0) = true := by simp; omega
        clear hr hl
        go_enter Try.func4, Try.ntmps4
        go_wp2_with (first
          | (go_at_call 7; refine (HAW.out _).mono ?_; rintro e w1 ⟨rfl, hb1⟩)
          | (go_at_call 11; refine (HBAD.out _).mono ?_; rintro e w2 ⟨rfl, rfl⟩))
        go_ret
        exact ⟨rfl, hb1⟩
end Go.Proofs.Ytnfekbmmnenbfaa
