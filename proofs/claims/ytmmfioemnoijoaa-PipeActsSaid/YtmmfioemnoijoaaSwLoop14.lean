/- PipeActs: the items, one by one. -/
import Derived.Test.YtmmfioemnoijoaaSwDefs14
namespace Go.Proofs.Ytmmfioemnoijoaa
open Go Go.RowKit
set_option linter.unusedVariables false

set_option maxHeartbeats 8000000 in
set_option maxRecDepth 40000 in
theorem sw14_loop {c0 c1 c2 c3 c4 c6 c8 c11 c12 c13 c14 c15 c16 c17 c18 c21 c22 c23 c24 c25 c26 c27 c28 c29 c30 c31 c32 c33 c34 c35 c36 c37 c38 c39 c40 c41 c42 c43 c44 c45 c46 c47 c48 c49 c50 c51 c52 c53 c54 c55 c56 c57 c58 c59 c60 c61 c62 c63 c64 c65 c66 c67 c68 c69 c70 c71 c72 c73 c74 c75 c76 c77 c78 c79 c80 c81 c82 c83 c84 c85 c86 c87 c88 c89 c90 c91 c92 c93 c94 c95 c96 c97 c98 c99 c100 c101 c102 c103 c104 c105 c106 c107 c108 c109 c110 c111 c112 c113 c114 c115 c116 c117 c118 c119 c120 c121 c122 c123 c124 c125 c126 c127 c128 c129 c130 c131 c132 c133 c134 c135 c136 c137 c138 c139 c140 c141 c142 c143 c144 c145 c146 c147 c148 c149 c150 c151 c152 c153 c154 c155 c156 c157 c158 c159 c160 c161 c162 c163 c164 c165 c166 c167 c168 c169 c170 c171 c172 c173 c174 c175 c176 c177 c178 c179 c180 c181 c182 c183 c184 c185 c186 c187 c188 c189 c190 c191 c192 c193 c194 c195 c196 c197 c198 c199 c200 c201 c202 c203 c204 c205 c206 c207 c208 c209 c210 c211 c212 c213 c214 c215 c216 c217 : Value}
    {w0 wa : World} {g r k i ga B n ca : Nat} {A : Option Addr} {ys : List It} {kd who : Int} {x : It} {L : List (Int × It)} {s : Int} {cl : Bool} {Q : Exit → Act → World → Prop}
    (hl : n ≤ 41) (HN : Hid (n = L.length)) (HB : Hid (Both14 w0 wa [(ga, actObj kd who x)] g r k L s cl L s cl)) (HO : Hid (OkL w0 i L s))
    (HR : Hid (RecW wa B 36 7 (.slice A n ca) (ys.map It.cells))) (HY : Hid (∀ (j : Nat) (o : Int × It), L[j]? = some o → ∃ y, ys[j]? = some y ∧ Like y o.2 ∧ HitsAt 0 wa y))
    (HQ : Hid (∀ (u4 u20 u198 u199 u200 u201 u202 u203 u204 u205 u206 u207 u208 u209 u210 u211 u212 u213 u214 u215 u216 u217 : Value) (wx : World), Both14 w0 wx [] g r k L s cl L s cl → Q .normal ⟨#[c0, c1, c2, c3, u4, .pointer (some ⟨g, 0, none⟩), c6, .pointer (some ⟨r, 0, none⟩), c8, .pointer (some ⟨ga, 0, none⟩), .bool true, c11, c12, c13, c14, c15, c16, c17, c18, .slice A n ca, u20, c21, c22, c23, c24, c25, c26, c27, c28, c29, c30, c31, c32, c33, c34, c35, c36, c37, c38, c39, c40, c41, c42, c43, c44, c45, c46, c47, c48, c49, c50, c51, c52, c53, c54, c55, c56, c57, c58, c59, c60, c61, c62, c63, c64, c65, c66, c67, c68, c69, c70, c71, c72, c73, c74, c75, c76, c77, c78, c79, c80, c81, c82, c83, c84, c85, c86, c87, c88, c89, c90, c91, c92, c93, c94, c95, c96, c97, c98, c99, c100, c101, c102, c103, c104, c105, c106, c107, c108, c109, c110, c111, c112, c113, c114, c115, c116, c117, c118, c119, c120, c121, c122, c123, c124, c125, c126, c127, c128, c129, c130, c131, c132, c133, c134, c135, c136, c137, c138, c139, c140, c141, c142, c143, c144, c145, c146, c147, c148, c149, c150, c151, c152, c153, c154, c155, c156, c157, c158, c159, c160, c161, c162, c163, c164, c165, c166, c167, c168, c169, c170, c171, c172, c173, c174, c175, c176, c177, c178, c179, c180, c181, c182, c183, c184, c185, c186, c187, c188, c189, c190, c191, c192, c193, c194, c195, c196, c197, u198, u199, u200, u201, u202, u203, u204, u205, u206, u207, u208, u209, u210, u211, u212, u213, u214, u215, u216, u217], []⟩ wx)) :
    Code.wp Try.prog loop14Code Q ⟨#[c0, c1, c2, c3, c4, .pointer (some ⟨g, 0, none⟩), c6, .pointer (some ⟨r, 0, none⟩), c8, .pointer (some ⟨ga, 0, none⟩), .bool true, c11, c12, c13, c14, c15, c16, c17, c18, .slice A n ca, .int .i64 0, c21, c22, c23, c24, c25, c26, c27, c28, c29, c30, c31, c32, c33, c34, c35, c36, c37, c38, c39, c40, c41, c42, c43, c44, c45, c46, c47, c48, c49, c50, c51, c52, c53, c54, c55, c56, c57, c58, c59, c60, c61, c62, c63, c64, c65, c66, c67, c68, c69, c70, c71, c72, c73, c74, c75, c76, c77, c78, c79, c80, c81, c82, c83, c84, c85, c86, c87, c88, c89, c90, c91, c92, c93, c94, c95, c96, c97, c98, c99, c100, c101, c102, c103, c104, c105, c106, c107, c108, c109, c110, c111, c112, c113, c114, c115, c116, c117, c118, c119, c120, c121, c122, c123, c124, c125, c126, c127, c128, c129, c130, c131, c132, c133, c134, c135, c136, c137, c138, c139, c140, c141, c142, c143, c144, c145, c146, c147, c148, c149, c150, c151, c152, c153, c154, c155, c156, c157, c158, c159, c160, c161, c162, c163, c164, c165, c166, c167, c168, c169, c170, c171, c172, c173, c174, c175, c176, c177, c178, c179, c180, c181, c182, c183, c184, c185, c186, c187, c188, c189, c190, c191, c192, c193, c194, c195, c196, c197, c198, c199, c200, c201, c202, c203, c204, c205, c206, c207, c208, c209, c210, c211, c212, c213, c214, c215, c216, c217], []⟩ wa := by
  conv => arg 2; whnf
  refine Code.wp_mono (OnlyN.imp Q) ?_
  go_wp2_with fail
  go_loopw [20] (fun vj wr => ∃ (j : Nat), vj = .int .i64 (j : Int) ∧ j ≤ n ∧ Hid (Below wa.heap.size wa wr)) (fun vj _ => n - (intOf vj).toNat)
  case atStart => exact ⟨0, rfl, Nat.zero_le _, Lib.hid (Below.refl _ _)⟩
  case round =>
    obtain ⟨j, rfl, hj, HW⟩ := hrel
    by_cases hjl : j < n
    · obtain ⟨o, ho⟩ : ∃ o, L[j]? = some o := ⟨_, List.getElem?_eq_getElem (by rw [← HN.out]; exact hjl)⟩
      obtain ⟨y, hy, hlk, hyh⟩ := HY.out j o ho
      obtain ⟨b, c', hA, -, hbw, hc⟩ := HR.out.at (j := j) (x := y.cells) (by simp [hy])
      injection hA with hA hA2 hA3
      subst hA
      clear hA2 hA3
      have hcw : ∀ w, Below wr.heap.size wr w → ∀ i v, y.cells[i]? = some v → w.cell? ⟨b, j * 7 + i, none⟩ = some v := fun w hb i v hv => ((HW.out.trans (hb.mono HW.out.size)).cell (p := ⟨b, j * 7 + i, none⟩) hbw).trans (hc i v hv)
      have d0 : ∀ w, Below wr.heap.size wr w → w.cell? ⟨b, j * 7, none⟩ = some (.int .i64 y.n) := fun w hb => hcw w hb 0 _ rfl
      have d1 : ∀ w, Below wr.heap.size wr w → w.cell? ⟨b, j * 7 + 1, none⟩ = some (.int .i64 y.b) := fun w hb => hcw w hb 1 _ rfl
      have d2 : ∀ w, Below wr.heap.size wr w → w.cell? ⟨b, j * 7 + 2, none⟩ = some (.int .i64 y.rn) := fun w hb => hcw w hb 2 _ rfl
      have d3 : ∀ w, Below wr.heap.size wr w → w.cell? ⟨b, j * 7 + 3, none⟩ = some (.int .i64 y.ra) := fun w hb => hcw w hb 3 _ rfl
      have d4 : ∀ w, Below wr.heap.size wr w → w.cell? ⟨b, j * 7 + 4, none⟩ = some (.string y.tx) := fun w hb => hcw w hb 4 _ rfl
      have d5 : ∀ w, Below wr.heap.size wr w → w.cell? ⟨b, j * 7 + 5, none⟩ = some (.slice y.hA y.hm y.hc) := fun w hb => hcw w hb 5 _ rfl
      have d6 : ∀ w, Below wr.heap.size wr w → w.cell? ⟨b, j * 7 + 6, none⟩ = some (.int .i64 y.e) := fun w hb => hcw w hb 6 _ rfl
      obtain ⟨D, Ad, cd, hdoc⟩ := (HB.out.below HW.out).doc
      obtain ⟨bd, od, hAd, -, hbd, hcd⟩ := hdoc.rd.2 (by rw [← HN.out]; omega)
      subst hAd
      have k0 : ∀ w, Below wr.heap.size wr w → w.cell? ⟨r, 0, none⟩ = some (.slice (some ⟨bd, od, none⟩) n cd) := fun w hb => by rw [HN.out]; exact (hdoc.below hb).c0
      obtain ⟨o0, z⟩ := o
      have hcz : ∀ w, Below wr.heap.size wr w → ∀ i v, (ofCells (o0, z))[i]? = some v → w.cell? ⟨bd, od + j * 8 + i, none⟩ = some v := fun w hb i v hv => (hb.cell (p := ⟨bd, od + j * 8 + i, none⟩) hbd).trans (hcd j (ofCells (o0, z)) (by simp [ho]) i v hv)
      have e1 : ∀ w, Below wr.heap.size wr w → w.cell? ⟨bd, od + j * 8 + 1, none⟩ = some (.int .i64 z.n) := fun w hb => hcz w hb 1 _ rfl
      have e2 : ∀ w, Below wr.heap.size wr w → w.cell? ⟨bd, od + j * 8 + 2, none⟩ = some (.int .i64 z.b) := fun w hb => hcz w hb 2 _ rfl
      have e3 : ∀ w, Below wr.heap.size wr w → w.cell? ⟨bd, od + j * 8 + 3, none⟩ = some (.int .i64 z.rn) := fun w hb => hcz w hb 3 _ rfl
      have e4 : ∀ w, Below wr.heap.size wr w → w.cell? ⟨bd, od + j * 8 + 4, none⟩ = some (.int .i64 z.ra) := fun w hb => hcz w hb 4 _ rfl
      have e5 : ∀ w, Below wr.heap.size wr w → w.cell? ⟨bd, od + j * 8 + 5, none⟩ = some (.string z.tx) := fun w hb => hcz w hb 5 _ rfl
      have e6 : ∀ w, Below wr.heap.size wr w → w.cell? ⟨bd, od + j * 8 + 6, none⟩ = some (.slice z.hA z.hm z.hc) := fun w hb => hcz w hb 6 _ rfl
      have e7 : ∀ w, Below wr.heap.size wr w → w.cell? ⟨bd, od + j * 8 + 7, none⟩ = some (.int .i64 z.e) := fun w hb => hcz w hb 7 _ rfl
      have hz := HO.out.2.2 (o0, z) (List.mem_of_getElem? ho)
      have HS : Hid (∀ w, Below wr.heap.size wr w → Calls Try.prog 13 #[.agg #[.int .i64 y.n, .int .i64 y.b, .int .i64 y.rn, .int .i64 y.ra, .string y.tx, .slice y.hA y.hm y.hc, .int .i64 y.e], .agg #[.int .i64 z.n, .int .i64 z.b, .int .i64 z.rn, .int .i64 z.ra, .string z.tx, .slice z.hA z.hm z.hc, .int .i64 z.e]] w fun e w' => e = .returned (.bool true) ∧ Below wr.heap.size wr w') := Lib.hid fun w hb => by
        have hbw' := HW.out.trans (hb.mono HW.out.size)
        exact (rsame14 y z w hlk (hyh.below hbw') ((hz.1.below HB.out.to).below hbw') (by have : z.hm ≤ 10 := hz.2; omega)).mono fun e w' h => ⟨h.1, hb.trans (h.2.mono hb.size)⟩
      have hS0 : Below wr.heap.size wr wr.drew := (Below.refl _ _).drew
      have hyic := item_cells
      have htc := thing_cells
      clear hdoc hcd hcz hcw hc hy hlk hyh ho hz hbw hbd
      go_wp2_with fail
      go_region_held (fun w' => Below wr.heap.size wr w') (assumption) (first
        | (go_at_call 13; (with_reducible refine (HS.out _ (by assumption)).mono ?_); rintro e2 w2 ⟨rfl, hS2⟩))
      all_goals (
        go_wp2_with fail
        exact ⟨⟨j + 1, by go_num, by omega, Lib.hid (HW.out.trans (hS2.mono HW.out.size))⟩, by simp [intOf]; omega⟩)
    · go_wp2_with fail
      refine HQ.out _ _ _ _ _ _ _ _ _ _ _ _ _ _ _ _ _ _ _ _ _ _ _ ?_
      exact (HB.out.below HW.out).free (fun c hc => by cases hc)
end Go.Proofs.Ytmmfioemnoijoaa
