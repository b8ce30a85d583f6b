/- PipeActs: the switch. -/
import Derived.Test.YtmmfioemnoijoaaSw14A
import Derived.Test.YtmmfioemnoijoaaSw14B
import Derived.Test.YtmmfioemnoijoaaSw14C
namespace Go.Proofs.Ytmmfioemnoijoaa
open Go Go.RowKit
set_option linter.unusedVariables false

theorem sw14_all {c0 c1 c2 c3 c4 c6 c8 c11 c12 c13 c14 c15 c16 c17 c18 c19 c20 c21 c22 c23 c24 c25 c26 c27 c28 c29 c30 c31 c32 c33 c34 c35 c36 c37 c38 c39 c40 c41 c42 c43 c44 c45 c46 c47 c48 c49 c50 c51 c52 c53 c54 c55 c56 c57 c58 c59 c60 c61 c62 c63 c64 c65 c66 c67 c68 c69 c70 c72 c73 c74 c75 c76 c77 c78 c79 c80 c81 c82 c83 c84 c85 c86 c87 c88 c89 c90 c91 c92 c93 c94 c95 c96 c97 c98 c99 c100 c101 c102 c103 c104 c105 c106 c107 c108 c109 c110 c111 c112 c113 c114 c115 c116 c117 c118 c119 c120 c121 c122 c123 c124 c125 c126 c127 c128 c129 c130 c131 c132 c133 c134 c135 c136 c137 c138 c139 c140 c141 c142 c143 c144 c145 c146 c147 c148 c149 c150 c151 c152 c153 c154 c155 c156 c157 c158 c159 c160 c161 c162 c163 c164 c165 c166 c167 c168 c169 c170 c171 c172 c173 c174 c175 c176 c177 c178 c179 c180 c181 c182 c183 c184 c185 c186 c187 c188 c189 c190 c191 c192 c193 c194 c195 c196 c197 c198 c199 c200 c201 c202 c203 c204 c205 c206 c207 c208 c209 c210 c211 c212 c213 c214 c215 c216 c217 : Value}
    {w0 wa : World} {g r k i ga : Nat} {kd who : Int} {x : It} {L : List (Int × It)} {s : Int} {cl : Bool} {Q : Exit → Act → World → Prop}
    (hk : k ≤ 64) (hi : i ≤ 40)
    (HB : Hid (Both14 w0 wa [(ga, actObj kd who x)] g r k L s cl L s cl)) (HO : Hid (OkL w0 i L s)) (HX : Hid (HitsAt 0 w0 x ∧ x.hm ≤ 10))
    (HQ : Hid (∀ (u11 u12 u13 u14 u15 u16 u17 u18 u72 u73 u74 u75 u76 u77 u78 u79 u80 u81 u82 u83 u84 u85 u86 u87 u88 u89 u90 u91 u92 u93 u94 u95 u96 u97 u98 u99 u100 u101 u102 u103 u104 u105 u106 u107 u108 u109 u110 u111 u112 u113 u114 u115 u116 u117 u118 u119 u120 u121 u122 u123 u124 u125 u126 u127 u128 u129 u130 u131 u132 u133 u134 u135 u136 u137 : Value) (wx : World), SwRel14 w0 g r k i ga kd who x wx → Q .normal ⟨#[c0, c1, c2, c3, c4, .pointer (some ⟨g, 0, none⟩), c6, .pointer (some ⟨r, 0, none⟩), c8, .pointer (some ⟨ga, 0, none⟩), .bool true, u11, u12, u13, u14, u15, u16, u17, u18, c19, c20, c21, c22, c23, c24, c25, c26, c27, c28, c29, c30, c31, c32, c33, c34, c35, c36, c37, c38, c39, c40, c41, c42, c43, c44, c45, c46, c47, c48, c49, c50, c51, c52, c53, c54, c55, c56, c57, c58, c59, c60, c61, c62, c63, c64, c65, c66, c67, c68, c69, c70, .int .i64 kd, u72, u73, u74, u75, u76, u77, u78, u79, u80, u81, u82, u83, u84, u85, u86, u87, u88, u89, u90, u91, u92, u93, u94, u95, u96, u97, u98, u99, u100, u101, u102, u103, u104, u105, u106, u107, u108, u109, u110, u111, u112, u113, u114, u115, u116, u117, u118, u119, u120, u121, u122, u123, u124, u125, u126, u127, u128, u129, u130, u131, u132, u133, u134, u135, u136, u137, c138, c139, c140, c141, c142, c143, c144, c145, c146, c147, c148, c149, c150, c151, c152, c153, c154, c155, c156, c157, c158, c159, c160, c161, c162, c163, c164, c165, c166, c167, c168, c169, c170, c171, c172, c173, c174, c175, c176, c177, c178, c179, c180, c181, c182, c183, c184, c185, c186, c187, c188, c189, c190, c191, c192, c193, c194, c195, c196, c197, c198, c199, c200, c201, c202, c203, c204, c205, c206, c207, c208, c209, c210, c211, c212, c213, c214, c215, c216, c217], []⟩ wx)) :
    Code.wp Try.prog sw14Code Q ⟨#[c0, c1, c2, c3, c4, .pointer (some ⟨g, 0, none⟩), c6, .pointer (some ⟨r, 0, none⟩), c8, .pointer (some ⟨ga, 0, none⟩), .bool true, c11, c12, c13, c14, c15, c16, c17, c18, c19, c20, c21, c22, c23, c24, c25, c26, c27, c28, c29, c30, c31, c32, c33, c34, c35, c36, c37, c38, c39, c40, c41, c42, c43, c44, c45, c46, c47, c48, c49, c50, c51, c52, c53, c54, c55, c56, c57, c58, c59, c60, c61, c62, c63, c64, c65, c66, c67, c68, c69, c70, .int .i64 kd, c72, c73, c74, c75, c76, c77, c78, c79, c80, c81, c82, c83, c84, c85, c86, c87, c88, c89, c90, c91, c92, c93, c94, c95, c96, c97, c98, c99, c100, c101, c102, c103, c104, c105, c106, c107, c108, c109, c110, c111, c112, c113, c114, c115, c116, c117, c118, c119, c120, c121, c122, c123, c124, c125, c126, c127, c128, c129, c130, c131, c132, c133, c134, c135, c136, c137, c138, c139, c140, c141, c142, c143, c144, c145, c146, c147, c148, c149, c150, c151, c152, c153, c154, c155, c156, c157, c158, c159, c160, c161, c162, c163, c164, c165, c166, c167, c168, c169, c170, c171, c172, c173, c174, c175, c176, c177, c178, c179, c180, c181, c182, c183, c184, c185, c186, c187, c188, c189, c190, c191, c192, c193, c194, c195, c196, c197, c198, c199, c200, c201, c202, c203, c204, c205, c206, c207, c208, c209, c210, c211, c212, c213, c214, c215, c216, c217], []⟩ wa := by
  by_cases h0 : kd = 0
  · exact sw14_send hk hi HB HO HX HQ (by simpa using h0)
  · have f0 : (kd == 0) = false := by simpa using h0
    by_cases h1 : kd = 1
    · exact sw14_take hk hi HB HO HX HQ f0 (by simpa using h1)
    · have f1 : (kd == 1) = false := by simpa using h1
      by_cases h2 : kd = 2
      · exact sw14_back hk hi HB HO HX HQ f0 f1 (by simpa using h2)
      · have f2 : (kd == 2) = false := by simpa using h2
        by_cases h3 : kd = 3
        · exact sw14_close hk hi HB HO HX HQ f0 f1 f2 (by simpa using h3)
        · exact sw14_else hk hi HB HO HX HQ f0 f1 f2 (by simpa using h3)
end Go.Proofs.Ytmmfioemnoijoaa
