/- PoolActs: the rest of a round. -/
import Derived.Test.YtgjmgbpphfccaaaSwDefs
namespace Go.Proofs.Ytgjmgbpphfccaaa
open Go Go.RowKit
set_option linter.unusedVariables false

set_option maxHeartbeats 8000000 in
set_option maxRecDepth 40000 in
theorem sw_tail {c0 c1 c3 c4 c6 c8 c11 c12 c13 c14 c15 c16 c17 c18 c19 c20 c21 c22 c23 c24 c25 c26 c27 c28 c29 c30 c31 c32 c33 c34 c35 c36 c37 c38 c39 c40 c41 c42 c43 c44 c45 c46 c47 c48 c49 c50 c51 c52 c53 c54 c55 c56 c57 c58 c59 c60 c61 c62 c63 c64 c65 c66 c67 c68 c69 c70 c71 c72 c73 c74 c75 c76 c77 c78 c79 c80 c81 c82 c83 c84 c85 c86 c87 c88 c89 c90 c91 c92 c93 c94 c95 c96 c97 c98 c99 c100 c101 c102 c103 c104 c105 c106 c107 c108 c109 c110 c111 c112 c113 c114 c115 c116 c117 c118 c119 c120 c121 c122 c123 c124 c125 c126 c127 c128 c129 c130 c131 c132 c133 c134 c135 c136 c137 c138 c139 c140 c141 c142 c143 c144 c145 c146 c147 c148 c149 c150 c151 c152 c153 c154 c155 c156 c157 c158 c159 c160 c161 c162 c163 c164 c165 c166 c167 c168 c169 c170 c171 c172 c173 c174 c175 c176 c177 c178 c179 c180 c181 c182 c183 c184 c185 c186 c187 c188 c189 c190 c191 c192 c193 c194 c195 c196 c197 c198 c199 c200 c201 c202 c203 c204 c205 c206 c207 c208 c209 c210 c211 c212 c213 c214 c215 c216 c217 c218 c219 c220 c221 c222 c223 c224 c225 c226 c227 c228 c229 c230 c231 c232 c233 c234 c235 c236 c237 c238 c239 c240 c241 c242 c243 c244 c245 c246 c247 c248 c249 c250 c251 c252 c253 c254 c255 c256 c257 : Value}
    {W w0 : World} {B g g2 gs ga k z i d : Nat} {kd ai aa ab : Int} {D : Option Addr} {ys : List Int} {F5 F6 : Nat → Prop} {s5 : St} {Q : Exit → Act → World → Prop}
    (hk1 : 1 ≤ k) (hk2 : k ≤ 64) (hz1 : 1 ≤ z) (hz2 : z ≤ 4096) (hWB : W.heap.size ≤ B)
    (HBO5 : Hid (Both w0 B F5 F6 g g2 z s5 s5)) (HSA5 : Hid (Safe w0 F5 F6 gs #[.int .i64 (k : Int), .int .i64 (z : Int)] 22)) (HAA5 : Hid (Safe w0 F5 F6 ga #[.int .i64 kd, .int .i64 ai, .int .i64 aa, .int .i64 ab, .slice D ys.length d] 33)) (HB5 : Hid (Below W.heap.size W w0)) (HG5 : Hid (Good k z (i + 2) s5))
    (HQ : Hid (∀ (u20 u213 u214 u215 u216 u217 u218 u219 u220 u221 u222 u223 u224 u225 u226 u227 u228 u229 u230 u231 u232 u233 u234 u235 u236 u237 u238 u239 u240 u241 u242 u243 u244 u245 u246 u247 u248 u249 u250 u251 u252 u253 u254 u255 u256 u257 : Value) (wx : World), (∃ (F F2 : Nat → Prop), Hid (Both wx B F F2 g g2 z s5 s5) ∧ Hid (Safe wx F F2 gs #[.int .i64 (k : Int), .int .i64 (z : Int)] 22) ∧ Hid (Below W.heap.size W wx)) → Q .normal ⟨#[c0, c1, .pointer (some ⟨gs, 0, none⟩), c3, c4, .pointer (some ⟨g, 0, none⟩), c6, .pointer (some ⟨g2, 0, none⟩), c8, .pointer (some ⟨ga, 0, none⟩), .bool true, c11, c12, c13, c14, c15, c16, c17, c18, c19, u20, c21, c22, c23, c24, c25, c26, c27, c28, c29, c30, c31, c32, c33, c34, c35, c36, c37, c38, c39, c40, c41, c42, c43, c44, c45, c46, c47, c48, c49, c50, c51, c52, c53, c54, c55, c56, c57, c58, c59, c60, c61, c62, c63, c64, c65, c66, c67, c68, c69, c70, c71, c72, c73, c74, c75, c76, c77, c78, c79, c80, c81, c82, c83, c84, c85, c86, c87, c88, c89, c90, c91, c92, c93, c94, c95, c96, c97, c98, c99, c100, c101, c102, c103, c104, c105, c106, c107, c108, c109, c110, c111, c112, c113, c114, c115, c116, c117, c118, c119, c120, c121, c122, c123, c124, c125, c126, c127, c128, c129, c130, c131, c132, c133, c134, c135, c136, c137, c138, c139, c140, c141, c142, c143, c144, c145, c146, c147, c148, c149, c150, c151, c152, c153, c154, c155, c156, c157, c158, c159, c160, c161, c162, c163, c164, c165, c166, c167, c168, c169, c170, c171, c172, c173, c174, c175, c176, c177, c178, c179, c180, c181, c182, c183, c184, c185, c186, c187, c188, c189, c190, c191, c192, c193, c194, c195, c196, c197, c198, c199, c200, c201, c202, c203, c204, c205, c206, c207, c208, c209, c210, c211, c212, u213, u214, u215, u216, u217, u218, u219, u220, u221, u222, u223, u224, u225, u226, u227, u228, u229, u230, u231, u232, u233, u234, u235, u236, u237, u238, u239, u240, u241, u242, u243, u244, u245, u246, u247, u248, u249, u250, u251, u252, u253, u254, u255, u256, u257], []⟩ wx)) :
    Code.wp Try.prog restCode Q ⟨#[c0, c1, .pointer (some ⟨gs, 0, none⟩), c3, c4, .pointer (some ⟨g, 0, none⟩), c6, .pointer (some ⟨g2, 0, none⟩), c8, .pointer (some ⟨ga, 0, none⟩), .bool true, c11, c12, c13, c14, c15, c16, c17, c18, c19, c20, c21, c22, c23, c24, c25, c26, c27, c28, c29, c30, c31, c32, c33, c34, c35, c36, c37, c38, c39, c40, c41, c42, c43, c44, c45, c46, c47, c48, c49, c50, c51, c52, c53, c54, c55, c56, c57, c58, c59, c60, c61, c62, c63, c64, c65, c66, c67, c68, c69, c70, c71, c72, c73, c74, c75, c76, c77, c78, c79, c80, c81, c82, c83, c84, c85, c86, c87, c88, c89, c90, c91, c92, c93, c94, c95, c96, c97, c98, c99, c100, c101, c102, c103, c104, c105, c106, c107, c108, c109, c110, c111, c112, c113, c114, c115, c116, c117, c118, c119, c120, c121, c122, c123, c124, c125, c126, c127, c128, c129, c130, c131, c132, c133, c134, c135, c136, c137, c138, c139, c140, c141, c142, c143, c144, c145, c146, c147, c148, c149, c150, c151, c152, c153, c154, c155, c156, c157, c158, c159, c160, c161, c162, c163, c164, c165, c166, c167, c168, c169, c170, c171, c172, c173, c174, c175, c176, c177, c178, c179, c180, c181, c182, c183, c184, c185, c186, c187, c188, c189, c190, c191, c192, c193, c194, c195, c196, c197, c198, c199, c200, c201, c202, c203, c204, c205, c206, c207, c208, c209, c210, c211, c212, c213, c214, c215, c216, c217, c218, c219, c220, c221, c222, c223, c224, c225, c226, c227, c228, c229, c230, c231, c232, c233, c234, c235, c236, c237, c238, c239, c240, c241, c242, c243, c244, c245, c246, c247, c248, c249, c250, c251, c252, c253, c254, c255, c256, c257], []⟩ w0 := by
  conv => arg 2; whnf
  refine Code.wp_mono (OnlyN.imp Q) ?_
  have m1 : w0.cell? ⟨ga, 1, none⟩ = some (.int .i64 ai) := HAA5.out.cell 1
  have m0 : w0.cell? ⟨gs, 0, none⟩ = some (.int .i64 (k : Int)) := HSA5.out.cell 0
  have hhn := HG5.out.hn
  have hhk : s5.hs.length ≤ k := by omega
  have hhk2 : k ≤ s5.hs.length := by omega
  clear hhn
  go_upto_region 37 with fail
  go_cut [222] from 213 to 257 (fun s222 wx => s222 = .bool (decide (0 ≤ ai ∧ ai < (k : Int))) ∧ w0 = wx)
  case first =>
    by_cases r1 : ai < 0
    · have d1 : decide (0 ≤ ai) = false := by simp; omega
      have hno : decide (0 ≤ ai ∧ ai < (k : Int)) = false := by simp; omega
      clear r1
      go_wp2_with fail
      go_meet
      exact ⟨by rw [hno], rfl⟩
    · have d1 : decide (0 ≤ ai) = true := by simp; omega
      by_cases r2 : (k : Int) ≤ ai
      · have d2 : decide (ai < (k : Int)) = false := by simp; omega
        have hno : decide (0 ≤ ai ∧ ai < (k : Int)) = false := by simp; omega
        clear r1 r2
        go_wp2_with fail
        go_meet
        exact ⟨by rw [hno], rfl⟩
      · have d2 : decide (ai < (k : Int)) = true := by simp; omega
        have hyes : decide (0 ≤ ai ∧ ai < (k : Int)) = true := by simp; omega
        clear r1 r2
        go_wp2_with fail
        go_meet
        exact ⟨by rw [hyes], rfl⟩
  case rest =>
    obtain ⟨rfl, rfl⟩ := hcut
    go_upto_if 222 with (fail)
    go_cut [20] from 213 to 257 (fun s20 wx => s20 = .int .i64 (heldL s5.hs ai : Int) ∧ Hid (Both wx B F5 F6 g g2 z s5 s5) ∧ Hid (Safe wx F5 F6 gs #[.int .i64 (k : Int), .int .i64 (z : Int)] 22) ∧ Hid (Safe wx F5 F6 ga #[.int .i64 kd, .int .i64 ai, .int .i64 aa, .int .i64 ab, .slice D ys.length d] 33) ∧ Hid (Below W.heap.size W wx))
    case first =>
      by_cases hin : 0 ≤ ai ∧ ai < (k : Int)
      · have din : decide (0 ≤ ai ∧ ai < (k : Int)) = true := decide_eq_true hin
        obtain ⟨j, hj⟩ : ∃ j : Nat, ai = (j : Int) := Int.eq_ofNat_of_zero_le hin.1
        have hjh : j < s5.hs.length := by omega
        obtain ⟨hv, hhv⟩ : ∃ hv : Nat, hv = heldL s5.hs ai := ⟨_, rfl⟩
        have HHV := Lib.hid hhv
        obtain ⟨HV', BV', LV', hrc⟩ := HBO5.out.r
        obtain ⟨gh, ch, gt, ct, rfl, rfl, hch1, hch2, _, _, hH, _⟩ := hrc.rows (by omega)
        have m2 := hrc.c0
        have m3 : w0.cell? ⟨gh, ai.toNat, none⟩ = some (.int .i64 (hv : Int)) := by rw [hj, Int.toNat_natCast, hH j hjh, hhv, hj, heldL_nat]
        have hbd : ai < (s5.hs.length : Int) := by omega
        have hb0 : 0 ≤ ai := hin.1
        unfold maxLen at hch2
        clear hj hH hrc hhv hin
        rw [din]
        go_wp2_with fail
        go_quiet (fail)
        go_wp2_with fail
        go_meet
        exact ⟨by rw [HHV.out], Lib.hid (HBO5.out.drewN _), Lib.hid (HSA5.out.drewN _), Lib.hid (HAA5.out.drewN _), Lib.hid (below_drewN HB5.out _)⟩
      · have din : decide (0 ≤ ai ∧ ai < (k : Int)) = false := decide_eq_false hin
        have hh0 : heldL s5.hs ai = 0 := heldL_out _ _ (by omega)
        have HH0 := Lib.hid hh0
        clear hin hh0
        rw [din]
        go_wp2_with fail
        go_meet
        exact ⟨by rw [HH0.out]; rfl, HBO5, HSA5, HAA5, HB5⟩
    case rest =>
      obtain ⟨rfl, HBT, HSAT, HAAT, HBT2⟩ := hcut
      obtain ⟨hv, hhv⟩ : ∃ hv : Nat, hv = heldL s5.hs ai := ⟨_, rfl⟩
      have HHV := Lib.hid hhv.symm
      rw [← hhv]
      clear hhv HBO5 HSA5 HAA5 HB5
      go_wp2_with fail
      obtain ⟨HV', BV', LV', hrc⟩ := HBT.out.r
      obtain ⟨AL, cL, rfl, hrowL, _, hcl1, hcl2⟩ := hrc.line.rowI
      have HROWL := Lib.hid hrowL
      have hS0 : wc.drew.cell? ⟨g2, 2, none⟩ = some (.slice AL s5.ln.length cL) ∧ wc.drew.cell? ⟨ga, 1, none⟩ = some (.int .i64 ai) := ⟨hrc.c2, HAAT.out.cell 1⟩
      have hl64 : s5.ln.length ≤ 64 := by have := HG5.out.line; omega
      have HFR := Lib.hid (freeAny (w := wc.drew) (HBT.out.p.drewN 1) HG5.out hk2)
      obtain ⟨tb, htb⟩ : ∃ tb, tb = allL s5.os := ⟨_, rfl⟩
      have HTB := Lib.hid htb
      unfold maxLen at hcl2
      clear hrc hrowL htb
      go_region_held (fun w' => w'.cell? ⟨g2, 2, none⟩ = some (.slice AL s5.ln.length cL) ∧ w'.cell? ⟨ga, 1, none⟩ = some (.int .i64 ai)) (assumption) (first
        | (go_at_call 22; refine HFR.out.mono ?_; rintro e w6 ⟨v6, rfl, ho6, hb6⟩; obtain ⟨A6, c6, rfl, hri6, _, _⟩ := row_of_own (k := .i64) (xs := ints s5.ln) ho6; have hb6' : Below wc.heap.size wc w6 := ⟨hb6.os, hb6.tape, hb6.output, hb6.size, hb6.block⟩; have HB6 := Lib.hid hb6'; have hS6 : w6.cell? ⟨g2, 2, none⟩ = some (.slice AL s5.ln.length cL) ∧ w6.cell? ⟨ga, 1, none⟩ = some (.int .i64 ai) := ⟨(hb6'.cell (p := ⟨g2, 2, none⟩) (HBT.out.r.low HBT.out.r.fg).2).trans hS0.1, (HAAT.out.below hb6').cell 1⟩; have HIN := Lib.hid (ints_any A6 AL s5.ln.length c6 cL s5.ln w6 hri6 (HROWL.out.below hb6' (Nat.le_refl _)) (by omega)); clear ho6 hb6 hri6 hb6')
        | (go_at_call 21; refine HIN.out.mono ?_; rintro e w7 ⟨rfl, q7, rfl⟩; have hS7 : (w6.drewN q7).cell? ⟨g2, 2, none⟩ = some (.slice AL s5.ln.length cL) ∧ (w6.drewN q7).cell? ⟨ga, 1, none⟩ = some (.int .i64 ai) := hS6; have hby := bytesAny (w := w6.drewN q7) ((HBT.out.p.below HB6.out).drewN q7) HG5.out hk2 hz2; rw [← HTB.out] at hby; have HBY := Lib.hid hby; clear hby)
        | (go_at_call 23; refine HBY.out.mono ?_; rintro e w8 ⟨rfl, hb8⟩; have hb8' : Below w6.heap.size w6 w8 := ⟨hb8.os, hb8.tape, hb8.output, hb8.size, hb8.block⟩; have hbt8 : Below wc.heap.size wc w8 := HB6.out.trans (Below.mono hb8' HB6.out.size); have HB8 := Lib.hid hbt8; have hS8 : w8.cell? ⟨g2, 2, none⟩ = some (.slice AL s5.ln.length cL) ∧ w8.cell? ⟨ga, 1, none⟩ = some (.int .i64 ai) := ⟨(hbt8.cell (p := ⟨g2, 2, none⟩) (HBT.out.r.low HBT.out.r.fg).2).trans hS0.1, (HAAT.out.below hbt8).cell 1⟩; have hrb := rbytesAny (HBT.out.r.below hbt8) HG5.out ⟨hk1, hk2⟩ hz2; rw [← HTB.out] at hrb; have HRB := Lib.hid hrb; have hho := holdsAny (HBT.out.p.below hbt8) HG5.out hk2 ai; rw [HHV.out] at hho; have HHO : Hid (Calls Try.prog 25 #[.pointer (some ⟨g, 0, none⟩), .int .i64 ai] w8 fun e w' => e = .returned (.int .i64 (hv : Int)) ∧ w8 = w') := Lib.hid hho; clear hb8 hb8' hbt8 hrb hho)
        | (go_at_call 24; refine HRB.out.mono ?_; rintro e w9 ⟨rfl, rfl⟩)
        | (go_at_call 25; refine HHO.out.mono ?_; rintro e w9 ⟨rfl, rfl⟩))
      all_goals (
        clear hS0 hS6 hS7 hS8
        go_wp2_with fail
        refine HQ.out _ _ _ _ _ _ _ _ _ _ _ _ _ _ _ _ _ _ _ _ _ _ _ _ _ _ _ _ _ _ _ _ _ _ _ _ _ _ _ _ _ _ _ _ _ _ _ ?_
        exact ⟨F5, F6, Lib.hid (HBT.out.below HB8.out), Lib.hid (HSAT.out.below HB8.out), Lib.hid (HBT2.out.trans (Below.mono HB8.out HBT2.out.size))⟩)

end Go.Proofs.Ytgjmgbpphfccaaa
