/- PoolActs: an act that fills. -/
import Derived.Test.YtgjmgbpphfccaaaSwDefs
namespace Go.Proofs.Ytgjmgbpphfccaaa
open Go Go.RowKit
set_option linter.unusedVariables false

set_option maxHeartbeats 8000000 in
set_option maxRecDepth 40000 in
theorem sw_fill {c0 c1 c3 c4 c6 c8 c11 c12 c13 c14 c15 c16 c17 c18 c19 c20 c21 c22 c23 c24 c25 c26 c27 c28 c29 c30 c31 c32 c33 c34 c35 c36 c37 c38 c39 c40 c41 c42 c43 c44 c45 c46 c47 c48 c49 c50 c51 c52 c53 c54 c55 c56 c57 c58 c59 c60 c61 c62 c63 c64 c65 c66 c67 c68 c69 c70 c71 c72 c73 c74 c75 c76 c77 c78 c79 c80 c81 c82 c83 c84 c85 c86 c88 c89 c90 c91 c92 c93 c94 c95 c96 c97 c98 c99 c100 c101 c102 c103 c104 c105 c106 c107 c108 c109 c110 c111 c112 c113 c114 c115 c116 c117 c118 c119 c120 c121 c122 c123 c124 c125 c126 c127 c128 c129 c130 c131 c132 c133 c134 c135 c136 c137 c138 c139 c140 c141 c142 c143 c144 c145 c146 c147 c148 c149 c150 c151 c152 c153 c154 c155 c156 c157 c158 c159 c160 c161 c162 c163 c164 c165 c166 c167 c168 c169 c170 c171 c172 c173 c174 c175 c176 c177 c178 c179 c180 c181 c182 c183 c184 c185 c186 c187 c188 c189 c190 c191 c192 c193 c194 c195 c196 c197 c198 c199 c200 c201 c202 c203 c204 c205 c206 c207 c208 c209 c210 c211 c212 c213 c214 c215 c216 c217 c218 c219 c220 c221 c222 c223 c224 c225 c226 c227 c228 c229 c230 c231 c232 c233 c234 c235 c236 c237 c238 c239 c240 c241 c242 c243 c244 c245 c246 c247 c248 c249 c250 c251 c252 c253 c254 c255 c256 c257 : Value}
    {W wa : World} {B g g2 gs ga k z i d : Nat} {kd ai aa ab : Int} {D : Option Addr} {ys : List Int} {F F2 : Nat → Prop} {s : St} {Q : Exit → Act → World → Prop}
    (hk1 : 1 ≤ k) (hk2 : k ≤ 64) (hz1 : 1 ≤ z) (hz2 : z ≤ 4096) (hi40 : i ≤ 40) (h500 : ys.length ≤ 5000) (g7 : ys.length ≤ d) (g8 : d ≤ 9223372036854775807) (hWB : W.heap.size ≤ B)
    (HBOA : Hid (Both wa B F F2 g g2 z s s)) (HSA : Hid (Safe wa F F2 gs #[.int .i64 (k : Int), .int .i64 (z : Int)] 22)) (HAA : Hid (Safe wa F F2 ga #[.int .i64 kd, .int .i64 ai, .int .i64 aa, .int .i64 ab, .slice D ys.length d] 33)) (HBA : Hid (Below W.heap.size W wa)) (HG : Hid (Good k z (i + 1) s))
    (HY : Hid (RowI .u8 W D ys.length ys)) (HYN : Hid (D = none → ys.length = 0 ∧ d = 0))
    (HQ : Hid (∀ (u11 u12 u13 u14 u15 u16 u17 u18 u19 u88 u89 u90 u91 u92 u93 u94 u95 u96 u97 u98 u99 u100 u101 u102 u103 u104 u105 u106 u107 u108 u109 u110 u111 u112 u113 u114 u115 u116 u117 u118 u119 u120 u121 u122 u123 u124 u125 u126 u127 u128 u129 u130 u131 u132 u133 u134 u135 u136 u137 u138 u139 u140 u141 u142 u143 u144 u145 u146 u147 u148 u149 u150 u151 u152 u153 u154 u155 u156 u157 u158 u159 u160 u161 u162 u163 u164 u165 u166 u167 u168 u169 u170 u171 u172 u173 u174 u175 u176 u177 u178 u179 u180 u181 u182 u183 u184 u185 u186 u187 u188 u189 u190 u191 u192 u193 u194 u195 u196 u197 u198 u199 u200 u201 u202 u203 u204 u205 u206 u207 u208 u209 u210 u211 u212 : Value) (wx : World), SwRel W B g g2 gs ga k z i kd ai aa ab D d ys wx → Q .normal ⟨#[c0, c1, .pointer (some ⟨gs, 0, none⟩), c3, c4, .pointer (some ⟨g, 0, none⟩), c6, .pointer (some ⟨g2, 0, none⟩), c8, .pointer (some ⟨ga, 0, none⟩), .bool true, u11, u12, u13, u14, u15, u16, u17, u18, u19, c20, c21, c22, c23, c24, c25, c26, c27, c28, c29, c30, c31, c32, c33, c34, c35, c36, c37, c38, c39, c40, c41, c42, c43, c44, c45, c46, c47, c48, c49, c50, c51, c52, c53, c54, c55, c56, c57, c58, c59, c60, c61, c62, c63, c64, c65, c66, c67, c68, c69, c70, c71, c72, c73, c74, c75, c76, c77, c78, c79, c80, c81, c82, c83, c84, c85, c86, .int .i64 kd, u88, u89, u90, u91, u92, u93, u94, u95, u96, u97, u98, u99, u100, u101, u102, u103, u104, u105, u106, u107, u108, u109, u110, u111, u112, u113, u114, u115, u116, u117, u118, u119, u120, u121, u122, u123, u124, u125, u126, u127, u128, u129, u130, u131, u132, u133, u134, u135, u136, u137, u138, u139, u140, u141, u142, u143, u144, u145, u146, u147, u148, u149, u150, u151, u152, u153, u154, u155, u156, u157, u158, u159, u160, u161, u162, u163, u164, u165, u166, u167, u168, u169, u170, u171, u172, u173, u174, u175, u176, u177, u178, u179, u180, u181, u182, u183, u184, u185, u186, u187, u188, u189, u190, u191, u192, u193, u194, u195, u196, u197, u198, u199, u200, u201, u202, u203, u204, u205, u206, u207, u208, u209, u210, u211, u212, c213, c214, c215, c216, c217, c218, c219, c220, c221, c222, c223, c224, c225, c226, c227, c228, c229, c230, c231, c232, c233, c234, c235, c236, c237, c238, c239, c240, c241, c242, c243, c244, c245, c246, c247, c248, c249, c250, c251, c252, c253, c254, c255, c256, c257], []⟩ wx)) (f0 : (kd == 0) = false) (e1 : (kd == 1) = true) :
    Code.wp Try.prog swCode Q ⟨#[c0, c1, .pointer (some ⟨gs, 0, none⟩), c3, c4, .pointer (some ⟨g, 0, none⟩), c6, .pointer (some ⟨g2, 0, none⟩), c8, .pointer (some ⟨ga, 0, none⟩), .bool true, c11, c12, c13, c14, c15, c16, c17, c18, c19, c20, c21, c22, c23, c24, c25, c26, c27, c28, c29, c30, c31, c32, c33, c34, c35, c36, c37, c38, c39, c40, c41, c42, c43, c44, c45, c46, c47, c48, c49, c50, c51, c52, c53, c54, c55, c56, c57, c58, c59, c60, c61, c62, c63, c64, c65, c66, c67, c68, c69, c70, c71, c72, c73, c74, c75, c76, c77, c78, c79, c80, c81, c82, c83, c84, c85, c86, .int .i64 kd, c88, c89, c90, c91, c92, c93, c94, c95, c96, c97, c98, c99, c100, c101, c102, c103, c104, c105, c106, c107, c108, c109, c110, c111, c112, c113, c114, c115, c116, c117, c118, c119, c120, c121, c122, c123, c124, c125, c126, c127, c128, c129, c130, c131, c132, c133, c134, c135, c136, c137, c138, c139, c140, c141, c142, c143, c144, c145, c146, c147, c148, c149, c150, c151, c152, c153, c154, c155, c156, c157, c158, c159, c160, c161, c162, c163, c164, c165, c166, c167, c168, c169, c170, c171, c172, c173, c174, c175, c176, c177, c178, c179, c180, c181, c182, c183, c184, c185, c186, c187, c188, c189, c190, c191, c192, c193, c194, c195, c196, c197, c198, c199, c200, c201, c202, c203, c204, c205, c206, c207, c208, c209, c210, c211, c212, c213, c214, c215, c216, c217, c218, c219, c220, c221, c222, c223, c224, c225, c226, c227, c228, c229, c230, c231, c232, c233, c234, c235, c236, c237, c238, c239, c240, c241, c242, c243, c244, c245, c246, c247, c248, c249, c250, c251, c252, c253, c254, c255, c256, c257], []⟩ wa := by
  have q0 : wa.cell? ⟨ga, 0, none⟩ = some (.int .i64 kd) := HAA.out.cell 0
  conv => arg 2; whnf
  refine Code.wp_mono (OnlyN.imp Q) ?_
  obtain ⟨v1, w4, happ, hown, hgr, hat⟩ := app_at .u8 31 5 1 Try.underlying31 info_u8 (wa.alloc (.cells #[] 5)) wa.heap.size (.slice (some ⟨wa.heap.size, 0, none⟩) 0 0) 0 [] (World.ownsRow_made wa #[] 0 (Nat.le_refl _) (Nat.zero_le _) rfl) D ys.length d ys (HY.out.below (HBA.out.alloc HBA.out.size _) (Nat.le_refl _)) HYN.out (by omega) (by unfold maxLen; omega) (by simp)
  rw [Nat.zero_add, List.nil_append] at hown
  have hb4 : Below wa.heap.size wa w4 := ((Below.refl _ wa).alloc (Nat.le_refl _) _).grown hgr (by simp) (fun k hk => by simp [Value.ownBlock] at hk; omega)
  obtain ⟨A1, c1, rfl, hri, hc1, hm1⟩ := row_of_own hown
  obtain ⟨A1', c1', hv1, _, _, hn1, _⟩ := own_cells hown
  injection hv1 with e1 _ e3
  subst e1; subst e3
  have hin : ∀ q, (Value.slice A1 ys.length c1).ownBlock = some q → wa.heap.size ≤ q := fun q hq => (row_lt hown hq).1
  have HBO4 := Lib.hid (HBOA.out.below hb4)
  have HSA4 := Lib.hid (HSA.out.below hb4)
  have HAA4 := Lib.hid (HAA.out.below hb4)
  have HB4 := Lib.hid (HBA.out.trans (Below.mono hb4 HBA.out.size))
  have HF1 := Lib.hid (fillAny (w := w4.drew) (HBO4.out.p.drewN 1) HG.out hk2 ai A1 ys.length c1 ys hri hn1 (by omega))
  have HGN := Lib.hid (good_fill HG.out ai ys)
  have HIN := Lib.hid hin
  have HOWN := Lib.hid hown
  have HAPP := Lib.hid happ
  have hS0 : w4.drew.cell? ⟨ga, 1, none⟩ = some (.int .i64 ai) ∧ w4.drew.cell? ⟨ga, 4, none⟩ = some (.slice D ys.length d) := ⟨HAA4.out.cell 1, HAA4.out.cell 4⟩
  have q4 : (wa.alloc (.cells #[] 5)).cell? ⟨ga, 4, none⟩ = some (.slice D ys.length d) := (HAA.out.below ((Below.refl _ _).alloc (Nat.le_refl _) _)).cell 4
  unfold maxLen at hm1
  clear happ hown hgr hat hb4 hri hn1 hin
  go_wp2_with (at_builtin; refine wpList_append_run rfl _ _ 31 rfl rfl _ _ _ _ rfl rfl HAPP.out ?_)
  clear q0 q4
  go_region_held (fun w' => w'.cell? ⟨ga, 1, none⟩ = some (.int .i64 ai) ∧ w'.cell? ⟨ga, 4, none⟩ = some (.slice D ys.length d)) (assumption) (first
    | (go_at_call 13; refine HF1.out.mono ?_; rintro e w5 ⟨rfl, F5, hp5, hs5⟩; have hs5' : Step F F5 w4 w5 := Step.drewN' (q := 1) hs5; have HBO5 := Lib.hid (HBO4.out.pool hp5 hs5'); have HSA5 := Lib.hid (HSA4.out.pool hs5'); have HAA5 := Lib.hid (HAA4.out.pool hs5'); have HB5 := Lib.hid (HB4.out.trans (Below.mono (hs5'.below2 (fun q hq => (HBO4.out.p.low hq).1) HBO4.out.lo) hWB)); have HOWN5 := Lib.hid (row_moved HOWN.out hs5'.1 (fun q hq hf => by have := (HBOA.out.p.low hf).2; have := HIN.out q hq; omega)); have HN5 : Hid (∀ q, (Value.slice A1 ys.length c1).ownBlock = some q → ¬ F5 q) := Lib.hid (fun q hq hf => by (rcases hs5'.2 q hf with h1 | h1); (have := (HBOA.out.p.low h1).2; have := HIN.out q hq; omega); (have := (row_lt HOWN.out hq).2; omega)); have hS5 : w5.cell? ⟨ga, 1, none⟩ = some (.int .i64 ai) ∧ w5.cell? ⟨ga, 4, none⟩ = some (.slice D ys.length d) := ⟨HAA5.out.cell 1, HAA5.out.cell 4⟩; have HF2 := Lib.hid (rfillAny HBO5.out.r HG.out ⟨hk1, hk2⟩ ai D ys.length d ys (HY.out.below HB5.out (Nat.le_refl _)) (by omega)); clear hp5 hs5 hs5')
    | (go_at_call 14; refine HF2.out.mono ?_; rintro e w6 ⟨rfl, F6, hr6, hs6⟩; have HBO6 := Lib.hid (HBO5.out.ref hr6 hs6); have HSA6 := Lib.hid (HSA5.out.ref hs6); have HAA6 := Lib.hid (HAA5.out.ref hs6); have HB6 := Lib.hid (HB5.out.trans (Below.mono (hs6.below2 (fun q hq => (HBO5.out.r.low hq).1) HBO5.out.lo) hWB)); have HOWN6 := Lib.hid (row_moved HOWN5.out hs6.1 (fun q hq hf => by have := (HBOA.out.r.low hf).2; have := HIN.out q hq; omega)); have HN6 : Hid (∀ q, (Value.slice A1 ys.length c1).ownBlock = some q → ¬ F6 q) := Lib.hid (fun q hq hf => by (rcases hs6.2 q hf with h1 | h1); (have := (HBOA.out.r.low h1).2; have := HIN.out q hq; omega); (have := (row_lt HOWN5.out hq).2; omega)); have hS6 : w6.cell? ⟨ga, 1, none⟩ = some (.int .i64 ai) ∧ w6.cell? ⟨ga, 4, none⟩ = some (.slice D ys.length d) := ⟨HAA6.out.cell 1, HAA6.out.cell 4⟩; clear hr6 hs6))
  all_goals (
    clear hS0 hS5 hS6
    by_cases hm0 : 0 < ys.length
    · have d0 : decide (0 < (ys.length : Int)) = true := decide_eq_true (by omega)
      obtain ⟨Ax, cx, hvx, _, _, hnx, hcx⟩ := own_cells HOWN6.out
      injection hvx with e1 _ e3
      subst e1; subst e3
      rcases A1 with _ | a1
      · have := (hnx rfl).1; omega
      · obtain ⟨b1, rfl, _, hb1l, hcc, hff⟩ := hcx a1 rfl
        have kc : w6.cell? ⟨b1, 0, none⟩ = some (.int .u8 ys[0]) := hcc 0 _ (by simp [List.getElem?_eq_getElem hm0])
        have kf := hff 0
        have n5 := HN5.out b1 rfl
        have n6 := HN6.out b1 rfl
        have hge : W.heap.size ≤ b1 := Nat.le_trans HBA.out.size (HIN.out b1 rfl)
        obtain ⟨y0, hy0⟩ : ∃ y0, y0 = ys[0] := ⟨_, rfl⟩
        rw [← hy0] at kc
        have nga : ¬ (ga = b1) := fun e => by have := HAA.out.lt; have := HIN.out b1 rfl; omega
        have ngs : ¬ (gs = b1) := fun e => by have := HSA.out.lt; have := HIN.out b1 rfl; omega
        have HMV : Hid (∀ v, Moved (fun q => q = b1) w6 (w6.setCell ⟨b1, 0, none⟩ v)) := Lib.hid (fun v => (show Moved (fun q => q = b1) w6 w6 from Moved.refl _ _).setCell (p := ⟨b1, 0, none⟩) (.inl rfl) v)
        clear hcc hff hnx hcx hy0
        go_wp2_with fail
        refine HQ.out _ _ _ _ _ _ _ _ _ _ _ _ _ _ _ _ _ _ _ _ _ _ _ _ _ _ _ _ _ _ _ _ _ _ _ _ _ _ _ _ _ _ _ _ _ _ _ _ _ _ _ _ _ _ _ _ _ _ _ _ _ _ _ _ _ _ _ _ _ _ _ _ _ _ _ _ _ _ _ _ _ _ _ _ _ _ _ _ _ _ _ _ _ _ _ _ _ _ _ _ _ _ _ _ _ _ _ _ _ _ _ _ _ _ _ _ _ _ _ _ _ _ _ _ _ _ _ _ _ _ _ _ _ _ _ ?_
        exact ⟨F5, F6, _, Lib.hid (HBO6.out.moved (HMV.out _) (fun q hq e => n5 (by rw [← e]; exact hq)) (fun q hq e => n6 (by rw [← e]; exact hq))), Lib.hid (HSA6.out.moved (HMV.out _) ngs), Lib.hid (HAA6.out.moved (HMV.out _) nga), Lib.hid (HGN.out.more (by omega)), Lib.hid (HB6.out.setCell (p := ⟨b1, 0, none⟩) hge _)⟩
    · have d0 : decide (0 < (ys.length : Int)) = false := decide_eq_false (by omega)
      go_wp2_with fail
      refine HQ.out _ _ _ _ _ _ _ _ _ _ _ _ _ _ _ _ _ _ _ _ _ _ _ _ _ _ _ _ _ _ _ _ _ _ _ _ _ _ _ _ _ _ _ _ _ _ _ _ _ _ _ _ _ _ _ _ _ _ _ _ _ _ _ _ _ _ _ _ _ _ _ _ _ _ _ _ _ _ _ _ _ _ _ _ _ _ _ _ _ _ _ _ _ _ _ _ _ _ _ _ _ _ _ _ _ _ _ _ _ _ _ _ _ _ _ _ _ _ _ _ _ _ _ _ _ _ _ _ _ _ _ _ _ _ _ ?_
      exact ⟨F5, F6, _, HBO6, HSA6, HAA6, Lib.hid (HGN.out.more (by omega)), HB6⟩)

end Go.Proofs.Ytgjmgbpphfccaaa
