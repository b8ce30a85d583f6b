/- TreeStays: a round of the last loop. -/
import Derived.Test.YtcgjpmokhpcnnaaTreW
import Derived.Deep.DeepCutAuto
import Derived.Deep.CutBlock
import Derived.Deep.CutRange
import Derived.Deep.LoopGhost
namespace Go.Proofs.Ytcgjpmokhpcnnaa
open Go Go.RowKit
set_option linter.unusedVariables false

/-- The round, out of the function's own text. -/
def findR15 : Code → Option Code
  | .block 5 c => some (.block 5 c)
  | .block _ c => findR15 c
  | .seq a b => match findR15 a with
    | some c => some c
    | none => findR15 b
  | .loop c => findR15 c
  | .cond _ a b => match findR15 a with
    | some c => some c
    | none => findR15 b
  | _ => none
noncomputable def r15Code : Code := (Try.f4.body.bind findR15).getD .skip
/-- A post that speaks of an end in order alone. -/
def OnlyN (R : Act → World → Prop) : Exit → Act → World → Prop
  | .normal, a, w => R a w
  | _, _, _ => False
theorem OnlyN.imp (Q : Exit → Act → World → Prop) : ∀ (e : Exit) (a : Act) (w : World), OnlyN (fun a w => Q .normal a w) e a w → Q e a w := fun e a w h => by
  cases e <;> first | exact h | exact (h : False).elim
set_option maxHeartbeats 8000000 in
set_option maxRecDepth 40000 in
theorem stayR {c0 c1 c3 c4 c5 c6 c8 c11 c14 c15 c16 c17 c18 c19 c20 c21 c22 c23 c24 c25 c26 c27 c28 c29 c30 c31 c32 c33 c34 c35 c36 c37 c38 c39 c40 c41 c42 c43 c44 c45 c46 c47 c48 c49 c50 c51 c52 c53 c54 c55 c56 c57 c58 c59 c60 c61 c62 c63 c64 c65 c66 c67 c68 c69 c70 c71 c72 c73 c74 c75 c76 c77 c78 c79 c80 c81 c82 c83 c84 c85 c86 c87 c88 c89 c90 c91 c92 c93 c94 c95 c96 c97 c98 c99 c100 c101 c102 c103 c104 c105 c106 c107 c108 c109 c110 c111 c112 c113 c114 c115 c116 c117 c118 c119 c120 c121 c122 c123 c124 c125 c126 c127 c128 c129 c130 c131 c132 c133 c134 c135 c136 c137 c138 c139 c140 c141 c142 c143 c144 c145 c146 c147 c148 : Value}
    {w6 : World} {g k j z i1 bV cV cU B : Nat} {AU : Option Addr} {L : List Int} {cause y yw pr yp : Int} {fb : Bool} {Q : Exit → Act → World → Prop} (q1 : Nat)
    (hij : i1 < j) (hj : j ≤ 256) (hzj : z ≤ j) (HZ : Hid (z = L.length)) (HU : Hid (RecW w6 B 3 1 (.slice AU z cU) (nums1 L)))
    (e0 : w6.cell? ⟨bV, i1, none⟩ = some (.int .i64 y)) (HFB : Hid (fb = (((i1 : Int) == (k : Int)) || L.any (fun x => x == (i1 : Int)))))
    (hw2 : yw = if fb = true ∧ y = 0 then cause else y) (hinv : 0 ≤ pr → ¬ yp = 0 → (yw == 0) = false)
    (HC1 : Hid (∀ q, Calls Try.prog 18 #[.pointer (some ⟨g, 0, none⟩), .int .i64 (i1 : Int)] (w6.drewN q) fun e w' => e = .returned (.int .i64 yw) ∧ ∃ m, w' = w6.drewN m))
    (HP : Hid (∀ q, Calls Try.prog 19 #[.pointer (some ⟨g, 0, none⟩), .int .i64 (i1 : Int)] (w6.drewN q) fun e w' => e = .returned (.int .i64 pr) ∧ ∃ m, w' = w6.drewN m))
    (HCP : Hid (∀ q, Calls Try.prog 18 #[.pointer (some ⟨g, 0, none⟩), .int .i64 pr] (w6.drewN q) fun e w' => e = .returned (.int .i64 yp) ∧ ∃ m, w' = w6.drewN m))
    (HQ : Hid (∀ (u14 u15 u16 u96 u97 u98 u99 u100 u101 u102 u103 u104 u105 u106 u107 u108 u109 u110 u111 u112 u113 u114 u115 u116 u117 u118 u119 u120 u121 u122 u123 u124 u125 u126 u127 u128 u129 u130 u131 u132 u133 u134 u135 u136 u137 u138 u139 u140 u141 u142 u143 u144 u145 u146 u147 u148 : Value) (q : Nat), Q .normal ⟨#[c0, c1, .int .i64 cause, c3, c4, c5, c6, .pointer (some ⟨g, 0, none⟩), c8, .int .i64 (k : Int), .slice (some ⟨bV, 0, none⟩) j cV, c11, .slice AU z cU, .int .i64 (i1 : Int), u14, u15, u16, c17, c18, c19, c20, c21, c22, c23, c24, c25, c26, c27, c28, c29, c30, c31, c32, c33, c34, c35, c36, c37, c38, c39, c40, c41, c42, c43, c44, c45, c46, c47, c48, c49, c50, c51, c52, c53, c54, c55, c56, c57, c58, c59, c60, c61, c62, c63, c64, c65, c66, c67, c68, c69, c70, c71, c72, c73, c74, c75, c76, c77, c78, c79, c80, c81, c82, c83, c84, c85, c86, c87, c88, c89, c90, c91, c92, c93, c94, c95, u96, u97, u98, u99, u100, u101, u102, u103, u104, u105, u106, u107, u108, u109, u110, u111, u112, u113, u114, u115, u116, u117, u118, u119, u120, u121, u122, u123, u124, u125, u126, u127, u128, u129, u130, u131, u132, u133, u134, u135, u136, u137, u138, u139, u140, u141, u142, u143, u144, u145, u146, u147, u148], []⟩ (w6.drewN q))) :
    Code.wp Try.prog r15Code Q ⟨#[c0, c1, .int .i64 cause, c3, c4, c5, c6, .pointer (some ⟨g, 0, none⟩), c8, .int .i64 (k : Int), .slice (some ⟨bV, 0, none⟩) j cV, c11, .slice AU z cU, .int .i64 (i1 : Int), c14, c15, c16, c17, c18, c19, c20, c21, c22, c23, c24, c25, c26, c27, c28, c29, c30, c31, c32, c33, c34, c35, c36, c37, c38, c39, c40, c41, c42, c43, c44, c45, c46, c47, c48, c49, c50, c51, c52, c53, c54, c55, c56, c57, c58, c59, c60, c61, c62, c63, c64, c65, c66, c67, c68, c69, c70, c71, c72, c73, c74, c75, c76, c77, c78, c79, c80, c81, c82, c83, c84, c85, c86, c87, c88, c89, c90, c91, c92, c93, c94, c95, c96, c97, c98, c99, c100, c101, c102, c103, c104, c105, c106, c107, c108, c109, c110, c111, c112, c113, c114, c115, c116, c117, c118, c119, c120, c121, c122, c123, c124, c125, c126, c127, c128, c129, c130, c131, c132, c133, c134, c135, c136, c137, c138, c139, c140, c141, c142, c143, c144, c145, c146, c147, c148], []⟩ (w6.drewN q1) := by
  conv => arg 2; whnf
  refine Code.wp_mono (OnlyN.imp Q) ?_
  obtain ⟨kb, hkb⟩ : ∃ kb : Bool, kb = ((i1 : Int) == (k : Int)) := ⟨_, rfl⟩
  rw [← hkb] at HFB
  have hkb' := hkb.symm
  clear hkb
  go_upto_block 6 with fail
  go_cut [14] from 99 to 113 (fun s14 wx => s14 = .bool fb ∧ wx = w6.drewN q1)
  case first =>
    clear hinv hw2 HC1 HP HCP HQ e0
    go_wp2_with fail
    go_loopw [14, 15] (fun v14 v15 wx => ∃ (bi : Bool) (jj : Nat), v14 = .bool bi ∧ v15 = .int .i64 (jj : Int) ∧ jj ≤ z ∧ wx = w6.drewN q1 ∧ Hid (bi = (kb || (L.take jj).any (fun x => x == (i1 : Int))))) (fun _ v15 _ => z - (intOf v15).toNat)
    case atStart => exact ⟨kb, 0, rfl, rfl, by omega, rfl, Lib.hid (by simp)⟩
    case round =>
      obtain ⟨bi, jj, rfl, rfl, hjj, rfl, HBI⟩ := hrel
      by_cases hjz : jj < z
      · obtain ⟨x, hx⟩ : ∃ x, L[jj]? = some x := ⟨_, List.getElem?_eq_getElem (by rw [← HZ.out]; exact hjz)⟩
        obtain ⟨bU, cU', hUU, _, _, hcx, _⟩ := HU.out.num hx
        injection hUU with hUU hjj' hcc
        subst hUU hcc
        clear hjj'
        have hb2 : (bi || (x == (i1 : Int))) = (kb || (L.take (jj + 1)).any (fun x => x == (i1 : Int))) := by
          rw [List.take_add_one, hx, List.any_append, HBI.out]
          simp [Bool.or_assoc]
        have HB2 := Lib.hid hb2
        clear hb2 hx HBI
        rcases bi with _ | _
        · rw [Bool.false_or] at HB2
          go_wp2_with fail
          exact ⟨⟨_, jj + 1, rfl, by go_num, by omega, by first | trivial | rfl, HB2⟩, by simp [intOf]; omega⟩
        · rw [Bool.true_or] at HB2
          go_wp2_with fail
          exact ⟨⟨_, jj + 1, rfl, by go_num, by omega, by first | trivial | rfl, HB2⟩, by simp [intOf]; omega⟩
      · have hbi := HBI.out
        rw [List.take_of_length_le (by rw [← HZ.out]; omega), ← HFB.out] at hbi
        subst hbi
        clear HBI HFB
        go_wp2_with fail
        go_meet
        exact ⟨rfl, rfl⟩
  case rest =>
    obtain ⟨rfl, rfl⟩ := hcut
    clear HFB HU hzj HZ hkb'
    have HW2 := Lib.hid hw2
    clear hw2
    go_upto_region 27 with fail
    go_cut [16, 122] from 118 to 122 (fun s16 s122 wx => s16 = .int .i64 y ∧ s122 = .bool (fb && (y == 0)) ∧ wx = w6.drewN q1)
    case first =>
      clear hinv HC1 HP HCP HQ HW2 e0
      rcases fb with _ | _
      · go_wp2_with fail
        go_meet
        exact ⟨rfl, rfl, rfl⟩
      · go_wp2_with fail
        go_meet
        exact ⟨rfl, by rw [Bool.true_and], rfl⟩
    case rest =>
    obtain ⟨rfl, rfl, rfl⟩ := hcut
    obtain ⟨tb, htb⟩ : ∃ tb, tb = (fb && (y == 0)) := ⟨_, rfl⟩
    rw [← htb]
    go_upto_if 122 with fail
    go_cut [16] from 123 to 123 (fun s16 wx => s16 = .int .i64 yw ∧ wx = w6.drewN q1)
    case first =>
      clear hinv HC1 HP HCP HQ e0
      have hw2 := HW2.out
      rcases tb with _ | _
      · rw [if_neg (fun h => by rw [h.1, h.2] at htb; cases htb)] at hw2
        subst hw2
        clear HW2 htb
        go_wp2_with fail
        go_meet
        exact ⟨rfl, rfl⟩
      · have htb := htb.symm
        rw [Bool.and_eq_true, beq_iff_eq] at htb
        rw [if_pos htb] at hw2
        subst hw2
        clear HW2 htb
        go_wp2_with fail
        go_meet
        exact ⟨rfl, rfl⟩
    case rest =>
      obtain ⟨rfl, rfl⟩ := hcut
      clear HW2 htb e0
      go_wp2_with fail
      (with_reducible refine (HC1.out _).mono ?_); rintro e w8 ⟨rfl, q8, rfl⟩
      go_wp2_with fail
      (with_reducible refine (HP.out _).mono ?_); rintro e w9 ⟨rfl, q9, rfl⟩
      by_cases hp0 : 0 ≤ pr
      · go_wp2_with fail
        (with_reducible refine (HP.out _).mono ?_); rintro e w10 ⟨rfl, q10, rfl⟩
        go_wp2_with fail
        (with_reducible refine (HCP.out _).mono ?_); rintro e w11 ⟨rfl, q11, rfl⟩
        by_cases hyp0 : yp = 0
        · subst hyp0
          clear hinv
          go_wp2_with fail
          refine HQ.out _ _ _ _ _ _ _ _ _ _ _ _ _ _ _ _ _ _ _ _ _ _ _ _ _ _ _ _ _ _ _ _ _ _ _ _ _ _ _ _ _ _ _ _ _ _ _ _ _ _ _ _ _ _ _ _ _
        · have e2 := hinv hp0 hyp0
          have e3 : (yp == 0) = false := by simpa using hyp0
          clear hinv
          go_wp2_with fail
          (with_reducible refine (HC1.out _).mono ?_); rintro e w12 ⟨rfl, q12, rfl⟩
          go_wp2_with fail
          refine HQ.out _ _ _ _ _ _ _ _ _ _ _ _ _ _ _ _ _ _ _ _ _ _ _ _ _ _ _ _ _ _ _ _ _ _ _ _ _ _ _ _ _ _ _ _ _ _ _ _ _ _ _ _ _ _ _ _ _
      · clear hinv
        go_wp2_with fail
        refine HQ.out _ _ _ _ _ _ _ _ _ _ _ _ _ _ _ _ _ _ _ _ _ _ _ _ _ _ _ _ _ _ _ _ _ _ _ _ _ _ _ _ _ _ _ _ _ _ _ _ _ _ _ _ _ _ _ _ _
end Go.Proofs.Ytcgjpmokhpcnnaa
