/- PoolActs: the walk. -/
import Derived.Test.YtgjmgbpphfccaaaSwAll
import Derived.Test.YtgjmgbpphfccaaaSwTail
import Derived.Deep.DeepCutAuto
import Derived.Deep.CutBlock
import Derived.Deep.LoopGhost
import Derived.Deep.RegionHeldLaw
namespace Go.Proofs.Ytgjmgbpphfccaaa
open Go Go.RowKit
set_option linter.unusedVariables false

set_option maxRecDepth 40000 in
theorem lawActs_many (x y : Int) (A : Option Addr) (n c : Nat) (w : World) (hl : 40 < n) (hn : n ≤ maxLen) :
    Calls Try.prog 3 #[.agg #[.int .i64 x, .int .i64 y], .slice A n c] w fun e w' => e = .returned (.bool true) ∧ Below w.heap.size w w' := by
  unfold maxLen at hn
  have hd : decide ((40 : Int) < (n : Int)) = true := by simp; omega
  obtain ⟨W, hW⟩ : ∃ W, W = w.alloc (.cells #[.int .i64 x, .int .i64 y] 22) := ⟨_, rfl⟩
  have hb0 : Below w.heap.size w W := by rw [hW]; exact (Below.refl _ _).alloc (Nat.le_refl _) _
  have HW := Lib.hid hW
  clear hW
  go_enter Try.func3, Try.ntmps3
  go_wp2_with fail
  rw [← HW.out]
  refine (awake6_any _).mono ?_; rintro e w1 ⟨rfl, hbel⟩
  go_wp2_with fail
  refine (awake6_any _).mono ?_; rintro e w2 ⟨rfl, hbel2⟩
  have hb1 := hb0.trans (Below.mono hbel hb0.size)
  have hb2 := hb1.trans (Below.mono hbel2 hb1.size)
  go_wp2_with fail
  go_ret
  exact ⟨rfl, hb2⟩

set_option maxHeartbeats 4000000 in
set_option maxRecDepth 40000 in
theorem lawActs_bad (x y : Int) (A : Option Addr) (n c : Nat) (W : World) (hn : n ≤ 40) (hno : x < 1 ∨ 64 < x ∨ y < 1 ∨ 4096 < y) :
    Calls Try.prog 3 #[.agg #[.int .i64 x, .int .i64 y], .slice A n c] W fun e w' => e = .returned (.bool true) ∧ Below W.heap.size W w' := by
  have hd : decide ((40 : Int) < (n : Int)) = false := by simp; omega
  obtain ⟨W0, hW0⟩ : ∃ W0, W0 = W.alloc (.cells #[.int .i64 x, .int .i64 y] 22) := ⟨_, rfl⟩
  have hb0 : Below W.heap.size W W0 := by rw [hW0]; exact (Below.refl _ _).alloc (Nat.le_refl _) _
  obtain ⟨gs, hgs⟩ : ∃ gs, gs = W.heap.size := ⟨_, rfl⟩
  have hs0 : W0.heap[gs]? = some (.cells #[.int .i64 x, .int .i64 y] 22 (0, 0)) := by rw [hW0, hgs]; exact heap_alloc_new W _
  have hlt0 : gs < W0.heap.size := (Array.getElem?_eq_some_iff.1 hs0).1
  have HW0 := Lib.hid hW0
  have HGS := Lib.hid hgs
  have HS0 := Lib.hid hs0
  have HNEW := Lib.hid (fun w => new_no x y hno w)
  have HNO := Lib.hid hno
  clear hW0 hgs hs0 hno
  by_cases q1 : x < 1
  · have d1 : decide (x < 1) = true := by simpa using q1
    go_enter Try.func3, Try.ntmps3
    go_wp2_with fail
    rw [← HW0.out, ← HGS.out]
    refine (awake6_any _).mono ?_; rintro e w1 ⟨rfl, hb1⟩
    have hg1 := (hb1.block gs hlt0).trans HS0.out
    have k0 : w1.cell? ⟨gs, 0, none⟩ = some (.int .i64 x) := cell_of_row w1 gs 0 _ _ (0, 0) hg1
    have k1 : w1.cell? ⟨gs, 1, none⟩ = some (.int .i64 y) := cell_of_row w1 gs 1 _ _ (0, 0) hg1
    have HB1 := Lib.hid (hb0.trans (Below.mono hb1 hb0.size))
    clear hg1 hb1
    go_wp2_with fail
    refine (HNEW.out _).mono ?_; rintro e w2 ⟨rfl, rfl⟩
    go_wp2_with fail
    go_ret
    exact ⟨rfl, HB1.out⟩
  · have d1 : decide (x < 1) = false := by simpa using q1
    by_cases q2 : 64 < x
    · have d2 : decide (64 < x) = true := by simpa using q2
      go_enter Try.func3, Try.ntmps3
      go_wp2_with fail
      rw [← HW0.out, ← HGS.out]
      refine (awake6_any _).mono ?_; rintro e w1 ⟨rfl, hb1⟩
      have hg1 := (hb1.block gs hlt0).trans HS0.out
      have k0 : w1.cell? ⟨gs, 0, none⟩ = some (.int .i64 x) := cell_of_row w1 gs 0 _ _ (0, 0) hg1
      have k1 : w1.cell? ⟨gs, 1, none⟩ = some (.int .i64 y) := cell_of_row w1 gs 1 _ _ (0, 0) hg1
      have HB1 := Lib.hid (hb0.trans (Below.mono hb1 hb0.size))
      clear hg1 hb1
      go_wp2_with fail
      refine (HNEW.out _).mono ?_; rintro e w2 ⟨rfl, rfl⟩
      go_wp2_with fail
      go_ret
      exact ⟨rfl, HB1.out⟩
    · have d2 : decide (64 < x) = false := by simpa using q2
      by_cases q3 : y < 1
      · have d3 : decide (y < 1) = true := by simpa using q3
        go_enter Try.func3, Try.ntmps3
        go_wp2_with fail
        rw [← HW0.out, ← HGS.out]
        refine (awake6_any _).mono ?_; rintro e w1 ⟨rfl, hb1⟩
        have hg1 := (hb1.block gs hlt0).trans HS0.out
        have k0 : w1.cell? ⟨gs, 0, none⟩ = some (.int .i64 x) := cell_of_row w1 gs 0 _ _ (0, 0) hg1
        have k1 : w1.cell? ⟨gs, 1, none⟩ = some (.int .i64 y) := cell_of_row w1 gs 1 _ _ (0, 0) hg1
        have HB1 := Lib.hid (hb0.trans (Below.mono hb1 hb0.size))
        clear hg1 hb1
        go_wp2_with fail
        refine (HNEW.out _).mono ?_; rintro e w2 ⟨rfl, rfl⟩
        go_wp2_with fail
        go_ret
        exact ⟨rfl, HB1.out⟩
      · have d3 : decide (y < 1) = false := by simpa using q3
        have q4 : 4096 < y := by have := HNO.out; omega
        have d4 : decide (4096 < y) = true := by simpa using q4
        go_enter Try.func3, Try.ntmps3
        go_wp2_with fail
        rw [← HW0.out, ← HGS.out]
        refine (awake6_any _).mono ?_; rintro e w1 ⟨rfl, hb1⟩
        have hg1 := (hb1.block gs hlt0).trans HS0.out
        have k0 : w1.cell? ⟨gs, 0, none⟩ = some (.int .i64 x) := cell_of_row w1 gs 0 _ _ (0, 0) hg1
        have k1 : w1.cell? ⟨gs, 1, none⟩ = some (.int .i64 y) := cell_of_row w1 gs 1 _ _ (0, 0) hg1
        have HB1 := Lib.hid (hb0.trans (Below.mono hb1 hb0.size))
        clear hg1 hb1
        go_wp2_with fail
        refine (HNEW.out _).mono ?_; rintro e w2 ⟨rfl, rfl⟩
        go_wp2_with fail
        go_ret
        exact ⟨rfl, HB1.out⟩

set_option maxHeartbeats 16000000 in
set_option maxRecDepth 40000 in
theorem lawActs_good (k z : Nat) (A : Option Addr) (n c : Nat) (xs : List ActL) (W : World) (hn : n ≤ 40) (hr : RowA W A n xs) (hk1 : 1 ≤ k) (hk2 : k ≤ 64) (hz1 : 1 ≤ z) (hz2 : z ≤ 4096) :
    Calls Try.prog 3 #[.agg #[.int .i64 (k : Int), .int .i64 (z : Int)], .slice A n c] W fun e w' => e = .returned (.bool true) ∧ Below W.heap.size W w' := by
  have hd : decide ((40 : Int) < (n : Int)) = false := by simp; omega
  obtain ⟨W0, hW0⟩ : ∃ W0, W0 = W.alloc (.cells #[.int .i64 (k : Int), .int .i64 (z : Int)] 22) := ⟨_, rfl⟩
  have hb0 : Below W.heap.size W W0 := by rw [hW0]; exact (Below.refl _ _).alloc (Nat.le_refl _) _
  obtain ⟨gs, hgs⟩ : ∃ gs, gs = W.heap.size := ⟨_, rfl⟩
  have hs0 : W0.heap[gs]? = some (.cells #[.int .i64 (k : Int), .int .i64 (z : Int)] 22 (0, 0)) := by rw [hW0, hgs]; exact heap_alloc_new W _
  have hlt0 : gs < W0.heap.size := (Array.getElem?_eq_some_iff.1 hs0).1
  have HW0 := Lib.hid hW0
  have HGS := Lib.hid hgs
  have HS0 := Lib.hid hs0
  have HR := Lib.hid hr
  have HNEW := Lib.hid (fun w => newAny k z ⟨hk1, hk2⟩ ⟨hz1, hz2⟩ w)
  have HRNEW := Lib.hid (fun w => rnew_any k z hk2 w)
  have G0 := Lib.hid ((good_new k z).more (show 0 ≤ 0 + 1 by omega))
  have d1 : decide ((k : Int) < 1) = false := by simp; omega
  have d2 : decide (64 < (k : Int)) = false := by simp; omega
  have d3 : decide ((z : Int) < 1) = false := by simp; omega
  have d4 : decide (4096 < (z : Int)) = false := by simp; omega
  clear hW0 hgs hs0 hr
  go_enter Try.func3, Try.ntmps3
  go_wp2_with fail
  rw [← HW0.out, ← HGS.out]
  refine (awake6_any _).mono ?_; rintro e w1 ⟨rfl, hb1⟩
  have hg1 := (hb1.block gs hlt0).trans HS0.out
  have k0 : w1.cell? ⟨gs, 0, none⟩ = some (.int .i64 (k : Int)) := cell_of_row w1 gs 0 _ _ (0, 0) hg1
  have k1 : w1.cell? ⟨gs, 1, none⟩ = some (.int .i64 (z : Int)) := cell_of_row w1 gs 1 _ _ (0, 0) hg1
  go_wp2_with fail
  refine (HNEW.out _).mono ?_; rintro e w2 ⟨F1, g, rfl, hp2, hb2⟩
  have hgs1 : gs < w1.heap.size := Nat.lt_of_lt_of_le hlt0 hb1.size
  have hg2 := (hb2.block gs hgs1).trans hg1
  have k02 : w2.cell? ⟨gs, 0, none⟩ = some (.int .i64 (k : Int)) := cell_of_row w2 gs 0 _ _ (0, 0) hg2
  have k12 : w2.cell? ⟨gs, 1, none⟩ = some (.int .i64 (z : Int)) := cell_of_row w2 gs 1 _ _ (0, 0) hg2
  go_wp2_with fail
  refine (HRNEW.out _).mono ?_; rintro e w3 ⟨g2, rfl, hr3, hb3⟩
  have hWB1 := hb0.trans (Below.mono hb1 hb0.size)
  have hWB2' := hWB1.trans (Below.mono hb2 hWB1.size)
  have HB3 := Lib.hid (hWB2'.trans (Below.mono hb3 hWB2'.size))
  obtain ⟨B, hB⟩ : ∃ B, B = w1.heap.size := ⟨_, rfl⟩
  have hWB : W.heap.size ≤ B := by rw [hB]; exact hWB1.size
  have HBO : Hid (∃ F F2, Both w3 B F F2 g g2 z ⟨List.replicate k [], List.replicate k 0, List.range k⟩ ⟨List.replicate k [], List.replicate k 0, List.range k⟩ ∧ Safe w3 F F2 gs #[.int .i64 (k : Int), .int .i64 (z : Int)] 22) := by
    refine Lib.hid ⟨F1, _, ⟨by rw [hB]; exact hp2.below hb3, hr3.base (by rw [hB]; exact hb2.size), fun q hq hq2 => ?_⟩, ⟨fun hq => ?_, fun hq => ?_, (hb3.block gs (Nat.lt_of_lt_of_le hgs1 hb2.size)).trans hg2⟩⟩
    · have := (hp2.low hq).2
      have := hq2.1
      omega
    · have := (hp2.low hq).1
      omega
    · have := hq.1
      have := hb2.size
      omega
  clear hB hb1 hb2 hb3 hg1 hg2 k0 k1 k02 k12 hWB1 hWB2' hp2 hr3 hgs1 d1 d2 d3 d4 hb0 hlt0
  go_wp2_with fail
  go_loopg [8] n (fun gk v8 wr => ∃ (i : Nat) (s : St), i ≤ n ∧ gk = n - i ∧ v8 = .int .i64 (i : Int) ∧ Hid (∃ F F2, Both wr B F F2 g g2 z s s ∧ Safe wr F F2 gs #[.int .i64 (k : Int), .int .i64 (z : Int)] 22) ∧ Hid (Good k z (i + 1) s) ∧ Hid (Below W.heap.size W wr))
  case atStart => exact ⟨0, _, by omega, by omega, rfl, HBO, G0, HB3⟩
  case round =>
    clear HBO HB3 G0
    obtain ⟨i, s, hi, hgk, rfl, HBO, HG, HB⟩ := hrel
    by_cases hlt : i < n
    · obtain ⟨b, o, rfl, hbl, hc⟩ := HR.out.2 (by omega)
      obtain ⟨D, d, g0, g1, g2', g3, g4, g5, g6, g7, g8⟩ := hc i hlt
      obtain ⟨v, hv⟩ : ∃ v, v = xs.getD i actNone := ⟨_, rfl⟩
      rw [← hv] at g0 g1 g2' g3 g4 g5 g6 g7
      obtain ⟨kd, ai, aa, ab, ys⟩ := v
      simp only at g0 g1 g2' g3 g4 g5 g6 g7
      have cl : ∀ q u, W.cell? ⟨b, q, none⟩ = some u → wr.cell? ⟨b, q, none⟩ = some u := fun q u h => (HB.out.cell (p := ⟨b, q, none⟩) hbl).trans h
      have k0 := cl _ _ g0
      have k1 := cl _ _ g1
      have k2 := cl _ _ g2'
      have k3 := cl _ _ g3
      have k4 := cl _ _ g4
      have HY := Lib.hid g5
      have HYN := Lib.hid g6
      have HGK := Lib.hid hgk
      unfold maxLen at g8
      clear hc g0 g1 g2' g3 g4 g5 g6 hv cl hgk
      by_cases h500 : 5000 < ys.length
      · have d500 : decide ((5000 : Int) < (ys.length : Int)) = true := by simp; omega
        go_wp2_with fail
        go_ret
        exact ⟨rfl, HB.out.alloc HB.out.size _⟩
      · have d500 : decide ((5000 : Int) < (ys.length : Int)) = false := by simp; omega
        obtain ⟨wa, hwa⟩ : ∃ wa, wa = wr.alloc (.cells #[.int .i64 kd, .int .i64 ai, .int .i64 aa, .int .i64 ab, .slice D ys.length d] 33) := ⟨_, rfl⟩
        have hba : Below wr.heap.size wr wa := by rw [hwa]; exact (Below.refl _ _).alloc (Nat.le_refl _) _
        obtain ⟨ga, hga⟩ : ∃ ga, ga = wr.heap.size := ⟨_, rfl⟩
        have hcells : wa.heap[ga]? = some (.cells #[.int .i64 kd, .int .i64 ai, .int .i64 aa, .int .i64 ab, .slice D ys.length d] 33 (0, 0)) := by rw [hwa, hga]; exact heap_alloc_new wr _
        obtain ⟨F, F2, hbo, hsafe⟩ := HBO.out
        have hboa := hbo.below hba
        have hsa := hsafe.below hba
        have hga' : Safe wa F F2 ga #[.int .i64 kd, .int .i64 ai, .int .i64 aa, .int .i64 ab, .slice D ys.length d] 33 := ⟨fun e => by have := (hbo.p.low e).2; omega, fun e => by have := (hbo.r.low e).2; omega, hcells⟩
        have q0 : wa.cell? ⟨ga, 0, none⟩ = some (.int .i64 kd) := hga'.cell 0
        have HBOA := Lib.hid hboa
        have HSA := Lib.hid hsa
        have HAA := Lib.hid hga'
        have HBA := Lib.hid (HB.out.trans (Below.mono hba HB.out.size))
        have HWA := Lib.hid hwa
        have HGA := Lib.hid hga
        clear hwa hga hba hcells hbo hsafe hboa hsa hga' HBO
        go_upto_block 2 with fail
        rw [← HWA.out, ← HGA.out]
        clear k0 k1 k2 k3 k4 HWA HGA HB
        refine sw_all hk1 hk2 hz1 hz2 (by omega) (by omega) g7 g8 hWB HBOA HSA HAA HBA HG HY HYN (Lib.hid ?_)
        intro x11 x12 x13 x14 x15 x16 x17 x18 x19 x88 x89 x90 x91 x92 x93 x94 x95 x96 x97 x98 x99 x100 x101 x102 x103 x104 x105 x106 x107 x108 x109 x110 x111 x112 x113 x114 x115 x116 x117 x118 x119 x120 x121 x122 x123 x124 x125 x126 x127 x128 x129 x130 x131 x132 x133 x134 x135 x136 x137 x138 x139 x140 x141 x142 x143 x144 x145 x146 x147 x148 x149 x150 x151 x152 x153 x154 x155 x156 x157 x158 x159 x160 x161 x162 x163 x164 x165 x166 x167 x168 x169 x170 x171 x172 x173 x174 x175 x176 x177 x178 x179 x180 x181 x182 x183 x184 x185 x186 x187 x188 x189 x190 x191 x192 x193 x194 x195 x196 x197 x198 x199 x200 x201 x202 x203 x204 x205 x206 x207 x208 x209 x210 x211 x212 w4 hrel
        obtain ⟨F5, F6, s5, HBO5, HSA5, HAA5, HG5, HB5⟩ := hrel
        clear HBOA HSA HAA HBA HG HY HYN q0
        simp only [Exit.then]
        go_step
        refine sw_tail hk1 hk2 hz1 hz2 hWB HBO5 HSA5 HAA5 HB5 HG5 (Lib.hid ?_)
        intro y20 y213 y214 y215 y216 y217 y218 y219 y220 y221 y222 y223 y224 y225 y226 y227 y228 y229 y230 y231 y232 y233 y234 y235 y236 y237 y238 y239 y240 y241 y242 y243 y244 y245 y246 y247 y248 y249 y250 y251 y252 y253 y254 y255 y256 y257 w5 hrel
        obtain ⟨F7, F8, HBO7, HSA7, HB7⟩ := hrel
        clear HBO5 HSA5 HAA5 HB5
        simp only
        go_wp2_with fail
        go_roundg (n - (i + 1))
        case measure => have := HGK.out; omega
        case rel => exact ⟨i + 1, s5, by omega, rfl, by go_num, Lib.hid ⟨F7, F8, HBO7.out, HSA7.out⟩, HG5, HB7⟩
    · go_wp2_with fail
      go_ret
      exact ⟨rfl, HB.out⟩

theorem lawActs (x y : Int) (A : Option Addr) (n c : Nat) (xs : List ActL) (W : World) (hx : (Lit.int .i64 x).wf = true) (hy : (Lit.int .i64 y).wf = true) (hr : RowA W A n xs) (hm : n ≤ maxLen) :
    Calls Try.prog 3 #[.agg #[.int .i64 x, .int .i64 y], .slice A n c] W fun e w' => e = .returned (.bool true) ∧ Below W.heap.size W w' := by
  by_cases hl : 40 < n
  · exact lawActs_many x y A n c W hl hm
  · by_cases hno : x < 1 ∨ 64 < x ∨ y < 1 ∨ 4096 < y
    · exact lawActs_bad x y A n c W (by omega) hno
    · obtain ⟨k, rfl⟩ := Int.eq_ofNat_of_zero_le (show 0 ≤ x by omega)
      obtain ⟨z, rfl⟩ := Int.eq_ofNat_of_zero_le (show 0 ≤ y by omega)
      exact lawActs_good k z A n c xs W (by omega) hr (by omega) (by omega) (by omega) (by omega)
end Go.Proofs.Ytgjmgbpphfccaaa
