/- PoolActs: an act that views. -/
import Derived.Test.YtgjmgbpphfccaaaSwDefs
namespace Go.Proofs.Ytgjmgbpphfccaaa
open Go Go.RowKit
set_option linter.unusedVariables false

set_option maxHeartbeats 8000000 in
set_option maxRecDepth 40000 in
theorem sw_view {c0 c1 c3 c4 c6 c8 c11 c12 c13 c14 c15 c16 c17 c18 c19 c20 c21 c22 c23 c24 c25 c26 c27 c28 c29 c30 c31 c32 c33 c34 c35 c36 c37 c38 c39 c40 c41 c42 c43 c44 c45 c46 c47 c48 c49 c50 c51 c52 c53 c54 c55 c56 c57 c58 c59 c60 c61 c62 c63 c64 c65 c66 c67 c68 c69 c70 c71 c72 c73 c74 c75 c76 c77 c78 c79 c80 c81 c82 c83 c84 c85 c86 c88 c89 c90 c91 c92 c93 c94 c95 c96 c97 c98 c99 c100 c101 c102 c103 c104 c105 c106 c107 c108 c109 c110 c111 c112 c113 c114 c115 c116 c117 c118 c119 c120 c121 c122 c123 c124 c125 c126 c127 c128 c129 c130 c131 c132 c133 c134 c135 c136 c137 c138 c139 c140 c141 c142 c143 c144 c145 c146 c147 c148 c149 c150 c151 c152 c153 c154 c155 c156 c157 c158 c159 c160 c161 c162 c163 c164 c165 c166 c167 c168 c169 c170 c171 c172 c173 c174 c175 c176 c177 c178 c179 c180 c181 c182 c183 c184 c185 c186 c187 c188 c189 c190 c191 c192 c193 c194 c195 c196 c197 c198 c199 c200 c201 c202 c203 c204 c205 c206 c207 c208 c209 c210 c211 c212 c213 c214 c215 c216 c217 c218 c219 c220 c221 c222 c223 c224 c225 c226 c227 c228 c229 c230 c231 c232 c233 c234 c235 c236 c237 c238 c239 c240 c241 c242 c243 c244 c245 c246 c247 c248 c249 c250 c251 c252 c253 c254 c255 c256 c257 : Value}
    {W wa : World} {B g g2 gs ga k z i d : Nat} {kd ai aa ab : Int} {D : Option Addr} {ys : List Int} {F F2 : Nat → Prop} {s : St} {Q : Exit → Act → World → Prop}
    (hk1 : 1 ≤ k) (hk2 : k ≤ 64) (hz1 : 1 ≤ z) (hz2 : z ≤ 4096) (hi40 : i ≤ 40) (h500 : ys.length ≤ 5000) (g7 : ys.length ≤ d) (g8 : d ≤ 9223372036854775807) (hWB : W.heap.size ≤ B)
    (HBOA : Hid (Both wa B F F2 g g2 z s s)) (HSA : Hid (Safe wa F F2 gs #[.int .i64 (k : Int), .int .i64 (z : Int)] 22)) (HAA : Hid (Safe wa F F2 ga #[.int .i64 kd, .int .i64 ai, .int .i64 aa, .int .i64 ab, .slice D ys.length d] 33)) (HBA : Hid (Below W.heap.size W wa)) (HG : Hid (Good k z (i + 1) s))
    (HY : Hid (RowI .u8 W D ys.length ys)) (HYN : Hid (D = none → ys.length = 0 ∧ d = 0))
    (HQ : Hid (∀ (u11 u12 u13 u14 u15 u16 u17 u18 u19 u88 u89 u90 u91 u92 u93 u94 u95 u96 u97 u98 u99 u100 u101 u102 u103 u104 u105 u106 u107 u108 u109 u110 u111 u112 u113 u114 u115 u116 u117 u118 u119 u120 u121 u122 u123 u124 u125 u126 u127 u128 u129 u130 u131 u132 u133 u134 u135 u136 u137 u138 u139 u140 u141 u142 u143 u144 u145 u146 u147 u148 u149 u150 u151 u152 u153 u154 u155 u156 u157 u158 u159 u160 u161 u162 u163 u164 u165 u166 u167 u168 u169 u170 u171 u172 u173 u174 u175 u176 u177 u178 u179 u180 u181 u182 u183 u184 u185 u186 u187 u188 u189 u190 u191 u192 u193 u194 u195 u196 u197 u198 u199 u200 u201 u202 u203 u204 u205 u206 u207 u208 u209 u210 u211 u212 : Value) (wx : World), SwRel W B g g2 gs ga k z i kd ai aa ab D d ys wx → Q .normal ⟨#[c0, c1, .pointer (some ⟨gs, 0, none⟩), c3, c4, .pointer (some ⟨g, 0, none⟩), c6, .pointer (some ⟨g2, 0, none⟩), c8, .pointer (some ⟨ga, 0, none⟩), .bool true, u11, u12, u13, u14, u15, u16, u17, u18, u19, c20, c21, c22, c23, c24, c25, c26, c27, c28, c29, c30, c31, c32, c33, c34, c35, c36, c37, c38, c39, c40, c41, c42, c43, c44, c45, c46, c47, c48, c49, c50, c51, c52, c53, c54, c55, c56, c57, c58, c59, c60, c61, c62, c63, c64, c65, c66, c67, c68, c69, c70, c71, c72, c73, c74, c75, c76, c77, c78, c79, c80, c81, c82, c83, c84, c85, c86, .int .i64 kd, u88, u89, u90, u91, u92, u93, u94, u95, u96, u97, u98, u99, u100, u101, u102, u103, u104, u105, u106, u107, u108, u109, u110, u111, u112, u113, u114, u115, u116, u117, u118, u119, u120, u121, u122, u123, u124, u125, u126, u127, u128, u129, u130, u131, u132, u133, u134, u135, u136, u137, u138, u139, u140, u141, u142, u143, u144, u145, u146, u147, u148, u149, u150, u151, u152, u153, u154, u155, u156, u157, u158, u159, u160, u161, u162, u163, u164, u165, u166, u167, u168, u169, u170, u171, u172, u173, u174, u175, u176, u177, u178, u179, u180, u181, u182, u183, u184, u185, u186, u187, u188, u189, u190, u191, u192, u193, u194, u195, u196, u197, u198, u199, u200, u201, u202, u203, u204, u205, u206, u207, u208, u209, u210, u211, u212, c213, c214, c215, c216, c217, c218, c219, c220, c221, c222, c223, c224, c225, c226, c227, c228, c229, c230, c231, c232, c233, c234, c235, c236, c237, c238, c239, c240, c241, c242, c243, c244, c245, c246, c247, c248, c249, c250, c251, c252, c253, c254, c255, c256, c257], []⟩ wx)) (f0 : (kd == 0) = false) (f1 : (kd == 1) = false) (e2 : (kd == 2) = true) :
    Code.wp Try.prog swCode Q ⟨#[c0, c1, .pointer (some ⟨gs, 0, none⟩), c3, c4, .pointer (some ⟨g, 0, none⟩), c6, .pointer (some ⟨g2, 0, none⟩), c8, .pointer (some ⟨ga, 0, none⟩), .bool true, c11, c12, c13, c14, c15, c16, c17, c18, c19, c20, c21, c22, c23, c24, c25, c26, c27, c28, c29, c30, c31, c32, c33, c34, c35, c36, c37, c38, c39, c40, c41, c42, c43, c44, c45, c46, c47, c48, c49, c50, c51, c52, c53, c54, c55, c56, c57, c58, c59, c60, c61, c62, c63, c64, c65, c66, c67, c68, c69, c70, c71, c72, c73, c74, c75, c76, c77, c78, c79, c80, c81, c82, c83, c84, c85, c86, .int .i64 kd, c88, c89, c90, c91, c92, c93, c94, c95, c96, c97, c98, c99, c100, c101, c102, c103, c104, c105, c106, c107, c108, c109, c110, c111, c112, c113, c114, c115, c116, c117, c118, c119, c120, c121, c122, c123, c124, c125, c126, c127, c128, c129, c130, c131, c132, c133, c134, c135, c136, c137, c138, c139, c140, c141, c142, c143, c144, c145, c146, c147, c148, c149, c150, c151, c152, c153, c154, c155, c156, c157, c158, c159, c160, c161, c162, c163, c164, c165, c166, c167, c168, c169, c170, c171, c172, c173, c174, c175, c176, c177, c178, c179, c180, c181, c182, c183, c184, c185, c186, c187, c188, c189, c190, c191, c192, c193, c194, c195, c196, c197, c198, c199, c200, c201, c202, c203, c204, c205, c206, c207, c208, c209, c210, c211, c212, c213, c214, c215, c216, c217, c218, c219, c220, c221, c222, c223, c224, c225, c226, c227, c228, c229, c230, c231, c232, c233, c234, c235, c236, c237, c238, c239, c240, c241, c242, c243, c244, c245, c246, c247, c248, c249, c250, c251, c252, c253, c254, c255, c256, c257], []⟩ wa := by
  have q0 : wa.cell? ⟨ga, 0, none⟩ = some (.int .i64 kd) := HAA.out.cell 0
  conv => arg 2; whnf
  refine Code.wp_mono (OnlyN.imp Q) ?_
  have HV1 := Lib.hid (fun q => viewAny (HBOA.out.p.drewN q) HG.out hk2 ai aa ab)
  have HV2 := Lib.hid (fun q => rviewAny (HBOA.out.r.drewN q) HG.out ⟨hk1, hk2⟩ hz2 ai aa ab)
  have q1 : wa.cell? ⟨ga, 1, none⟩ = some (.int .i64 ai) := HAA.out.cell 1
  have q2 : wa.cell? ⟨ga, 2, none⟩ = some (.int .i64 aa) := HAA.out.cell 2
  have q3 : wa.cell? ⟨ga, 3, none⟩ = some (.int .i64 ab) := HAA.out.cell 3
  have p0 : wa.cell? ⟨gs, 0, none⟩ = some (.int .i64 (k : Int)) := HSA.out.cell 0
  by_cases r1 : ai < 0
  · have d1 : decide (0 ≤ ai) = false := by simp; omega
    clear r1
    go_wp2_with fail
    go_quiet (fail)
    go_wp2_with fail
    refine (HV1.out _).mono ?_; rintro e w3 ⟨rfl, rfl⟩
    go_wp2_with fail
    refine (HV2.out _).mono ?_; rintro e w3 ⟨rfl, rfl⟩
    go_wp2_with fail
    refine HQ.out _ _ _ _ _ _ _ _ _ _ _ _ _ _ _ _ _ _ _ _ _ _ _ _ _ _ _ _ _ _ _ _ _ _ _ _ _ _ _ _ _ _ _ _ _ _ _ _ _ _ _ _ _ _ _ _ _ _ _ _ _ _ _ _ _ _ _ _ _ _ _ _ _ _ _ _ _ _ _ _ _ _ _ _ _ _ _ _ _ _ _ _ _ _ _ _ _ _ _ _ _ _ _ _ _ _ _ _ _ _ _ _ _ _ _ _ _ _ _ _ _ _ _ _ _ _ _ _ _ _ _ _ _ _ _ ?_
    exact ⟨F, F2, s, Lib.hid (HBOA.out.drewN _), Lib.hid (HSA.out.drewN _), Lib.hid (HAA.out.drewN _), Lib.hid (HG.out.more (by omega)), Lib.hid (below_drewN HBA.out _)⟩
  · have d1 : decide (0 ≤ ai) = true := by simp; omega
    by_cases r2 : (k : Int) ≤ ai
    · have d2 : decide (ai < (k : Int)) = false := by simp; omega
      go_wp2_with fail
      go_quiet (fail)
      go_wp2_with fail
      refine (HV1.out _).mono ?_; rintro e w3 ⟨rfl, rfl⟩
      go_wp2_with fail
      refine (HV2.out _).mono ?_; rintro e w3 ⟨rfl, rfl⟩
      go_wp2_with fail
      refine HQ.out _ _ _ _ _ _ _ _ _ _ _ _ _ _ _ _ _ _ _ _ _ _ _ _ _ _ _ _ _ _ _ _ _ _ _ _ _ _ _ _ _ _ _ _ _ _ _ _ _ _ _ _ _ _ _ _ _ _ _ _ _ _ _ _ _ _ _ _ _ _ _ _ _ _ _ _ _ _ _ _ _ _ _ _ _ _ _ _ _ _ _ _ _ _ _ _ _ _ _ _ _ _ _ _ _ _ _ _ _ _ _ _ _ _ _ _ _ _ _ _ _ _ _ _ _ _ _ _ _ _ _ _ _ _ _ ?_
      exact ⟨F, F2, s, Lib.hid (HBOA.out.drewN _), Lib.hid (HSA.out.drewN _), Lib.hid (HAA.out.drewN _), Lib.hid (HG.out.more (by omega)), Lib.hid (below_drewN HBA.out _)⟩
    · have d2 : decide (ai < (k : Int)) = true := by simp; omega
      obtain ⟨j, hj⟩ : ∃ j : Nat, ai = (j : Int) := Int.eq_ofNat_of_zero_le (by omega)
      have hjk : j < k := by omega
      have hjh : j < s.hs.length := by have := HG.out.hn; omega
      have HO := Lib.hid (fun q => by
        have := octetsAny (HBOA.out.p.drewN q) HG.out hk2 ai
        rw [hj, octX_eq HG.out hjk, ← hj] at this
        exact this)
      obtain ⟨HV', BV', LV', hrc⟩ := HBOA.out.r
      obtain ⟨gh, ch, gt, ct, rfl, rfl, _, _, hct1, hct2, _, hT, _⟩ := hrc.rows (by omega)
      have m1 := hrc.c1
      have m2 : wa.cell? ⟨gt, ai.toNat, none⟩ = some (.string (strOfNums (s.os.getD j []))) := by rw [hj, Int.toNat_natCast]; exact hT j hjh
      have hbd : ai < (s.hs.length : Int) := by omega
      have hb0 : 0 ≤ ai := by omega
      obtain ⟨S0, hS0⟩ : ∃ S0, S0 = strOfNums (s.os.getD j []) := ⟨_, rfl⟩
      rw [← hS0] at HO m2
      unfold maxLen at hct2
      clear hS0 hj hT hrc r1 r2
      go_wp2_with fail
      go_quiet ((go_at_call 15; exact Calls.quiet_of_same ((HO.out _).mono fun e w' ⟨he, hw⟩ => ⟨he, hw.symm⟩)))
      go_wp2_with fail
      refine (HV1.out _).mono ?_; rintro e w3 ⟨rfl, rfl⟩
      go_wp2_with fail
      refine (HV2.out _).mono ?_; rintro e w3 ⟨rfl, rfl⟩
      go_wp2_with fail
      refine HQ.out _ _ _ _ _ _ _ _ _ _ _ _ _ _ _ _ _ _ _ _ _ _ _ _ _ _ _ _ _ _ _ _ _ _ _ _ _ _ _ _ _ _ _ _ _ _ _ _ _ _ _ _ _ _ _ _ _ _ _ _ _ _ _ _ _ _ _ _ _ _ _ _ _ _ _ _ _ _ _ _ _ _ _ _ _ _ _ _ _ _ _ _ _ _ _ _ _ _ _ _ _ _ _ _ _ _ _ _ _ _ _ _ _ _ _ _ _ _ _ _ _ _ _ _ _ _ _ _ _ _ _ _ _ _ _ ?_
      exact ⟨F, F2, s, Lib.hid (HBOA.out.drewN _), Lib.hid (HSA.out.drewN _), Lib.hid (HAA.out.drewN _), Lib.hid (HG.out.more (by omega)), Lib.hid (below_drewN HBA.out _)⟩

end Go.Proofs.Ytgjmgbpphfccaaa
