/- The parser's pattern. -/
import Derived.Test.YtajnedkjmgjjbaaDoorM01
import Derived.Test.YtajnedkjmgjjbaaDoorM11
import Derived.Shelf.Small.Bits
import Derived.Test.YtajnedkjmgjjbaaDoorProg
import Derived.Deep.QuietTactic
import Derived.BigQuiet
import Derived.Laws.BitsAllLaws
namespace Go.Proofs.YtajnedkjmgjjbaaDoor
open Go Go.RowKit
set_option linter.unusedVariables false
set_option maxRecDepth 20000

set_option maxHeartbeats 4000000 in
theorem pat_walk (F : FacesS) {d g : Nat} (hd : d ≤ 10) {l : List Int} {w : World} (h : Rd w g l)
    (HP : ∀ (r : List Int), r.length < l.length → d < 10 → ∀ w, Rd w g r → Calls Tryd.prog 21 #[.pointer (some ⟨g, 0, none⟩), .int .i64 ((d : Int) + 1)] w (PatV (d + 1) g r w)) :
    Calls Tryd.prog 21 #[.pointer (some ⟨g, 0, none⟩), .int .i64 (d : Int)] w (PatV d g l w) := by
  have hg := h.lt
  have HR1 := Lib.hid (RoomAt.start hg)
  have hR1 := Lib.hid (h.below ((Below.refl _ _).alloc (Nat.le_refl _) (.cells #[.int .i64 0, .slice none 0 0, .int .i64 0, .int .i64 0, .slice none 0 0] 26)))
  have hll := h.few
  have HPH := Lib.hid HP
  clear h HP
  go_enter Tryd.func21, Tryd.ntmps21
  go_wp2_with fail
  go_loopw [6] (fun vs wr => ∃ (q pc : Nat) (P : Option Addr) (xs : List NV) (A : Wood) (lr : List Int), vs = .slice P q pc ∧ q + lr.length ≤ l.length ∧
    Hid (wr.ownsRow (w.heap.size + 1) 26 5 (.slice P q pc) q (cellsN xs) ∧ NodesIn (Fr (w.heap.size + 1) (.slice P q pc)) wr xs A ∧ RoomAt g w wr ∧ Rd wr g lr ∧ ∀ st, st.length = d → runL l st .nil .nil false = runL lr st A .nil false)) (fun _ wr => leftN wr g)
  case atStart => exact ⟨0, 0, none, [], .nil, l, rfl, by omega, Lib.hid ⟨nilN _ _, trivial, HR1.out, hR1.out, fun st _ => rfl⟩⟩
  case round =>
    obtain ⟨q, pc, P, xs, A, lr, rfl, hql, H⟩ := hrel
    have HAl := Lib.hid (alternative_any F hd H.out.2.2.2.1 (fun c r hcr h10 w hw => HPH.out r (by rw [List.length_cons] at hcr; omega) h10 w hw))
    go_wp2_with (first
      | (go_at_call 32; (with_reducible refine HAl.out.mono ?_); rintro e w2 hv; rcases hv with ⟨x, rfl, hn, ho⟩ | ⟨x, T, l1, rfl, hN, hlen, hst, hrun, hr, ho⟩ <;> (have HR2 := Lib.hid (H.out.2.2.1.off hg ho); have HR3 := Lib.hid (HR2.out.alloc hg (.cells #[.int .i64 x.op, .slice x.A x.ns x.cs, .int .i64 x.mn, .int .i64 x.mx, .slice x.D x.nk x.ck] 26)); obtain ⟨q0, q1, q2, q3, q4, qf⟩ := HR3.out.facts; (first | (obtain ⟨P', pc', w4, ha, how, hnw, hbw⟩ := push_next hg H.out.1 H.out.2.1 H.out.2.2.1 ho hN (by omega); have HA := Lib.hid ha; have HW := Lib.hid (And.intro how (And.intro hnw hbw)); have HRR := Lib.hid (hr.keep hbw (Nat.lt_succ_of_lt hg)); have HR4 := Lib.hid (HR2.out.grown hg hbw); have HLN := Lib.hid (And.intro hlen (And.intro hst hrun)); clear ha how hnw hbw hr hrun hlen hst) | skip); clear ho; simp only [NV.val]))
      | (at_builtin; refine wpList_append_run rfl _ _ 24 rfl rfl _ _ _ _ rfl rfl HA.out ?_))
    · obtain ⟨z0, z1, z2, z3, z4, _⟩ := HR3.out.cells zeroNV
      simp only [put5, zeroNV] at z0 z1 z2 z3 z4
      (try simp only [Exit.inBlock, Exit.then])
      refine bodyPost_ret (v := .tuple #[zeroNV.val, .bool false]) ?_ rfl ?_
      · rw [results_cell_tmp rfl]; go_simp
        rfl
      · exact .inl ⟨_, rfl, fun st hst => (H.out.2.2.2.2 st hst).trans (hn st A hst), HR3.out.put hg zeroNV⟩
    · clear q0 q1 q2 q3 q4 qf
      obtain ⟨hlen, hst, hrun⟩ := HLN.out
      by_cases hbar : l1.headD (-1) = 124
      · rcases l1 with _ | ⟨y, l2⟩
        · cases hbar
        rw [List.headD_cons] at hbar
        subst hbar
        have HT := Lib.hid (take_yes HRR.out)
        have HLL := Lib.hid (And.intro hlen hrun)
        clear hlen hst hrun
        go_wp2_with (go_at_call 33; (with_reducible refine HT.out.mono ?_); rintro e w5 ⟨rfl, hr, ho⟩; have HO := Lib.hid (And.intro hr ho); clear hr ho)
        refine ⟨⟨q + 1, pc', P', xs ++ [x], A.app (oneN 4 T), l2, rfl, by have := HLL.out.1; rw [List.length_cons] at this; omega, Lib.hid ⟨own_off HW.out.1 (Nat.lt_succ_of_lt hg) HO.out.2, HW.out.2.1.move HO.out.2.1.size fun b hF hlt => ⟨hF, HO.out.2.2 b hlt (by have := hF.1; omega)⟩, HR4.out.off hg HO.out.2, HO.out.1, fun st hst => ?_⟩⟩, ?_⟩
        · rw [H.out.2.2.2.2 st hst, HLL.out.2 st A hst, runL_bar (tok_bar l2) rfl rfl]
        · rw [HO.out.1.left, H.out.2.2.2.1.left]
          have := HLL.out.1
          rw [List.length_cons] at this
          omega
      · have HT := Lib.hid (take_no HRR.out hbar)
        have HE := Lib.hid (show l1 = [] ∨ ∃ r, l1 = 41 :: r by
          rcases hst with h | ⟨r, rfl⟩ | h
          · exact .inl h
          · exact absurd rfl hbar
          · exact .inr h)
        have HLL := Lib.hid (And.intro hlen hrun)
        have HJ := Lib.hid (join_any 5 HW.out.1 HW.out.2.1 (by omega))
        clear hlen hst hrun hbar
        go_wp2_with (first
          | (go_at_call 33; (with_reducible refine HT.out.mono ?_); rintro e w5 ⟨rfl, rfl⟩)
          | (go_at_call 34; (with_reducible refine HJ.out.mono ?_); rintro e w6 ⟨v, rfl, hN, hb⟩; obtain ⟨x2, hv, hN2⟩ := hN.val; subst hv; have HR9 := Lib.hid (HR4.out.below hg hb); have HRd := Lib.hid (HRR.out.below hb); have HN := Lib.hid hN2; obtain ⟨q0, q1, q2, q3, q4, qf⟩ := HR9.out.facts; clear hN hN2 hb; simp only [NV.val]))
        obtain ⟨z0, z1, z2, z3, z4, _⟩ := HR9.out.cells x2
        simp only [put5] at z0 z1 z2 z3 z4
        (try simp only [Exit.inBlock, Exit.then])
        refine bodyPost_ret (v := .tuple #[x2.val, .bool true]) ?_ rfl ?_
        · rw [results_cell_tmp rfl]; go_simp
          rfl
        · refine .inr ⟨x2, _, l1, rfl, HR9.out.nodes x2 (HN.out.move (Nat.le_refl _) fun b hF _ => ⟨hF, rfl⟩), by have := HLL.out.1; omega, HE.out, fun st hst => ?_, HR9.out.rd hg HRd.out x2, HR9.out.put hg x2⟩
          rw [H.out.2.2.2.2 st hst, HLL.out.2 st A hst]
          exact shut_end HE.out
/-- A pattern within so many parentheses. -/
theorem pattern_any (F : FacesS) (g : Nat) : ∀ (N : Nat) (l : List Int), l.length < N → ∀ (d : Nat), d ≤ 10 → ∀ w, Rd w g l →
    Calls Tryd.prog 21 #[.pointer (some ⟨g, 0, none⟩), .int .i64 (d : Int)] w (PatV d g l w) := by
  intro N
  induction N with
  | zero => intro l h; omega
  | succ N ih =>
    intro l hl d hd w h
    refine pat_walk F hd h fun r hr h10 w' hw' => ?_
    have := ih r (by omega) (d + 1) (by omega) w' hw'
    rwa [show ((d + 1 : Nat) : Int) = (d : Int) + 1 by omega] at this
end Go.Proofs.YtajnedkjmgjjbaaDoor
/- Contracts of math/bits that the library proves over any program, laid at this one. -/
namespace Go.Proofs
open Go.Shelf
def Tryd.lays126_ren : Go.Shelf.Ren := ⟨fun | 126 => 67 | n => n, fun | 5 => 5 | 3 => 3 | 9 => 9 | n => n, fun | n => n⟩
theorem Tryd.lays126 : Go.Proofs.Lays.n126 Tryd.prog Tryd.lays126_ren := {
  mixed := by kernel_rfl
  f126 := Tryd.func67.trans (congrArg some (by kernel_rfl))
  t3 := Tryd.underlying3
  a3 := Tryd.isAgg3
  z3 := Tryd.sizeOf3
  v3 := Tryd.zeroValue3
  t5 := Tryd.underlying5
  a5 := Tryd.isAgg5
  z5 := Tryd.sizeOf5
  v5 := Tryd.zeroValue5
  t9 := Tryd.underlying9
  a9 := Tryd.isAgg9
  z9 := Tryd.sizeOf9
  v9 := Tryd.zeroValue9 }
/-- How many bits. -/
theorem Tryd.bits_Len8 (x : Int) (w : World) (h0 : 0 ≤ x) (h1 : x ≤ 255) :
    Calls Tryd.prog 67 #[.int .u8 x] w fun e w' => e = .returned (.int .i64 (Lib.bitLen x.toNat)) ∧ w' = w := Any.bits_Len8 Tryd.lays126 x w h0 h1
def Tryd.lays131_ren : Go.Shelf.Ren := ⟨fun | 131 => 60 | 126 => 67 | n => n, fun | 5 => 5 | 3 => 3 | 9 => 9 | n => n, fun | n => n⟩
theorem Tryd.lays131 : Go.Proofs.Lays.n131 Tryd.prog Tryd.lays131_ren := {
  mixed := by kernel_rfl
  f126 := Tryd.func67.trans (congrArg some (by kernel_rfl))
  f131 := Tryd.func60.trans (congrArg some (by kernel_rfl))
  t3 := Tryd.underlying3
  a3 := Tryd.isAgg3
  z3 := Tryd.sizeOf3
  v3 := Tryd.zeroValue3
  t5 := Tryd.underlying5
  a5 := Tryd.isAgg5
  z5 := Tryd.sizeOf5
  v5 := Tryd.zeroValue5
  t9 := Tryd.underlying9
  a9 := Tryd.isAgg9
  z9 := Tryd.sizeOf9
  v9 := Tryd.zeroValue9 }
/-- How many zero bits lead. -/
theorem Tryd.bits_LeadingZeros8 (x : Int) (w : World) (h0 : 0 ≤ x) (h1 : x ≤ 255) :
    Calls Tryd.prog 60 #[.int .u8 x] w fun e w' => e = .returned (.int .i64 (8 - (Lib.bitLen x.toNat : Int))) ∧ w' = w := Any.bits_LeadingZeros8 Tryd.lays131 x w h0 h1
end Go.Proofs
/- Contracts of length and gather of package code. -/
namespace Go.Proofs.YtajnedkjmgjjbaaDoor
open Go Go.RowKit

/-- How many octets a first one announces; 0 if it can't be one. -/
def lenI (c : Int) : Int := if c < 128 then 1 else if c < 192 then 0 else if c < 224 then 2 else if c < 240 then 3 else if c < 248 then 4 else 0

theorem lz_all : ∀ c : Fin 256, (Lib.bitLen (255 - c.val) : Int) = if c.val < 128 then 8 else if c.val < 192 then 7 else if c.val < 224 then 6 else if c.val < 240 then 5 else if c.val < 248 then 4 else (Lib.bitLen (255 - c.val) : Int) := by decide +kernel
theorem lz_top : ∀ c : Fin 8, Lib.bitLen c.val ≤ 3 := by decide +kernel

theorem xor255 : ∀ c : Fin 256, (255 ^^^ c.val : Nat) = 255 - c.val := by decide +kernel
theorem u8_not {c : Int} (h0 : 0 ≤ c) (h1 : c ≤ 255) : bits BinOp.xor IntKind.u8 IntKind.u8.max c = 255 - c := by
  rw [show IntKind.u8.max = 255 from rfl, u8_xor 255 c (by omega) (by omega) h0 (by omega)]
  have := xor255 ⟨c.toNat, by omega⟩
  simp only at this
  rw [show (255 : Int).toNat = 255 from rfl, this]
  omega
theorem length_lo (c m : Int) (w : World) (h0 : 0 ≤ c) (h1 : c ≤ 255) (hm : m = 0 ∨ m = 2 ∨ m = 3 ∨ m = 4)
    (hb : 8 - (Lib.bitLen (255 - c).toNat : Int) = m) : Calls Tryd.prog 45 #[.int .u8 c] w fun e w' => e = .returned (.int .i64 (if m = 0 then 1 else m)) ∧ w = w' := by
  have hl := fun w => Tryd.bits_LeadingZeros8 (255 - c) w (by omega) (by omega)
  rw [hb] at hl
  clear hb
  have HL := Lib.hid hl; clear hl
  have e1 := u8_not h0 h1
  rcases hm with rfl | rfl | rfl | rfl
  all_goals
    go_enter Tryd.func45, Tryd.ntmps45
    go_wp2_with fail
    refine (HL.out _).mono ?_; rintro e w' ⟨rfl, rfl⟩
    go_wp2_with fail
    go_ret
    exact ⟨by simp, rfl⟩

theorem length_hi (c m : Int) (w : World) (h0 : 0 ≤ c) (h1 : c ≤ 255) (hm : m = 1 ∨ 5 ≤ m)
    (hb : 8 - (Lib.bitLen (255 - c).toNat : Int) = m) : Calls Tryd.prog 45 #[.int .u8 c] w fun e w' => e = .returned (.int .i64 0) ∧ w = w' := by
  have hl := fun w => Tryd.bits_LeadingZeros8 (255 - c) w (by omega) (by omega)
  rw [hb] at hl
  clear hb
  have HL := Lib.hid hl; clear hl
  have e1 := u8_not h0 h1
  have b1 : (m == 0) = false := by simp; omega
  have b2 : (m == 2) = false := by simp; omega
  have b3 : (m == 3) = false := by simp; omega
  have b4 : (m == 4) = false := by simp; omega
  clear hm
  go_enter Tryd.func45, Tryd.ntmps45
  go_wp2_with fail
  refine (HL.out _).mono ?_; rintro e w' ⟨rfl, rfl⟩
  go_wp2_with fail
  go_ret
  exact ⟨rfl, rfl⟩

theorem length_any (c : Int) (w : World) (h0 : 0 ≤ c) (h1 : c < 256) : Calls Tryd.prog 45 #[.int .u8 c] w fun e w' => e = .returned (.int .i64 (lenI c)) ∧ w = w' := by
  have ha := lz_all ⟨c.toNat, by omega⟩
  simp only at ha
  rw [show 255 - c.toNat = (255 - c).toNat by omega] at ha
  have ht : 248 ≤ c → Lib.bitLen (255 - c).toNat ≤ 3 := fun h => lz_top ⟨(255 - c).toNat, by omega⟩
  rcases (show c < 128 ∨ (128 ≤ c ∧ c < 192) ∨ (192 ≤ c ∧ c < 224) ∨ (224 ≤ c ∧ c < 240) ∨ (240 ≤ c ∧ c < 248) ∨ 248 ≤ c by omega) with h | h | h | h | h | h
  · rw [if_pos (by omega)] at ha
    have := length_lo c 0 w h0 (by omega) (by omega) (by omega)
    rw [show lenI c = 1 by unfold lenI; rw [if_pos (by omega)]]
    exact this
  · rw [if_neg (by omega), if_pos (by omega)] at ha
    rw [show lenI c = 0 by unfold lenI; rw [if_neg (by omega), if_pos (by omega)]]
    exact length_hi c 1 w h0 (by omega) (by omega) (by omega)
  · rw [if_neg (by omega), if_neg (by omega), if_pos (by omega)] at ha
    rw [show lenI c = 2 by unfold lenI; rw [if_neg (by omega), if_neg (by omega), if_pos (by omega)]]
    exact length_lo c 2 w h0 (by omega) (by omega) (by omega)
  · rw [if_neg (by omega), if_neg (by omega), if_neg (by omega), if_pos (by omega)] at ha
    rw [show lenI c = 3 by unfold lenI; rw [if_neg (by omega), if_neg (by omega), if_neg (by omega), if_pos (by omega)]]
    exact length_lo c 3 w h0 (by omega) (by omega) (by omega)
  · rw [if_neg (by omega), if_neg (by omega), if_neg (by omega), if_neg (by omega), if_pos (by omega)] at ha
    rw [show lenI c = 4 by unfold lenI; rw [if_neg (by omega), if_neg (by omega), if_neg (by omega), if_neg (by omega), if_pos (by omega)]]
    exact length_lo c 4 w h0 (by omega) (by omega) (by omega)
  · have h3 := ht h
    rw [show lenI c = 0 by unfold lenI; rw [if_neg (by omega), if_neg (by omega), if_neg (by omega), if_neg (by omega), if_neg (by omega)]]
    exact length_hi c (8 - (Lib.bitLen (255 - c).toNat : Int)) w h0 (by omega) (by omega) rfl
end Go.Proofs.YtajnedkjmgjjbaaDoor
/- The contract of gather of package code. -/
namespace Go.Proofs.YtajnedkjmgjjbaaDoor
open Go Go.RowKit

/-- What the octets behind the first one say, put behind r. -/
def gat : Int → List Int → Int × Bool
  | r, [] => (r, true)
  | r, c :: t => if 128 ≤ c ∧ c < 192 then gat (r * 64 + (c - 128)) t else (0, false)

/-- What of a first octet's bits is its code point's. -/
def headI (n c : Int) : Int := if n = 1 then c % 128 else if n = 2 then c % 64 else if n = 3 then c % 32 else c % 16

theorem and127 {c : Int} (h0 : 0 ≤ c) (h1 : c < 256) : bits .and .u8 c 127 = c % 128 := bits_mask .u8 8 (by decide) wraps_u8 7 (by decide) c h0 h1

set_option maxHeartbeats 400000 in
theorem gather_1 (b o cap : Nat) (n x : Int) (w : World) (hn : n = 1 ∨ n = 2 ∨ n = 3 ∨ n = 4) (hcap : 1 ≤ cap) (hcm : cap ≤ maxLen) (hx0 : 0 ≤ x) (hx1 : x < 256)
    (hc : w.cell? ⟨b, o, none⟩ = some (.int .u8 x)) :
    Calls Tryd.prog 46 #[.slice (some ⟨b, o, none⟩) 1 cap, .int .i64 n] w fun e w' => e = .returned (.tuple #[.int .i64 (headI n x), .bool true]) ∧ ∃ q, w' = w.drewN q := by
  have e1 := and127 hx0 hx1
  have e2 := u8_and63 x hx0 hx1
  have e3 := u8_and31 x hx0 hx1
  have e4 := u8_and15 x hx0 hx1
  unfold maxLen at hcm
  by_cases h1 : cap = 1
  · subst h1
    rcases hn with rfl | rfl | rfl | rfl
    all_goals
      go_enter Tryd.func46, Tryd.ntmps46
      go_wp2
      go_quiet (fail)
      go_wp2
      go_rounds 1
      go_ret2
      exact ⟨by simp [headI], _, rfl⟩
  · rcases hn with rfl | rfl | rfl | rfl
    all_goals
      go_enter Tryd.func46, Tryd.ntmps46
      go_wp2
      go_quiet (fail)
      go_wp2
      go_rounds 1
      go_ret2
      exact ⟨by simp [headI], _, rfl⟩

/-- How great the number can be before round k. -/
def Room (k : Nat) (r : Int) : Prop := 0 ≤ r ∧ (k = 0 → r < 128) ∧ (k = 1 → r < 8192) ∧ (k = 2 → r < 524288) ∧ (k = 3 → r < 33554432)
theorem Room.lt {k : Nat} {r : Int} (h : Room k r) (hk : k ≤ 3) : 0 ≤ r ∧ r < 33554432 := by unfold Room at h; omega
theorem Room.next {k : Nat} {r c : Int} (h : Room k r) (h0 : 0 ≤ c) (h1 : c < 64) (hk : k < 3) : Room (k + 1) (r * 64 + c) := by unfold Room at *; omega
theorem headI_room (n x : Int) : Room 0 (headI n x) := by
  unfold Room headI
  refine ⟨?_, ?_, ?_, ?_, ?_⟩ <;> (split <;> (try split) <;> (try split) <;> omega)

set_option maxHeartbeats 1000000 in
theorem gather_n (b o m cap : Nat) (n x : Int) (t : List Int) (w : World) (hn : n = 1 ∨ n = 2 ∨ n = 3 ∨ n = 4) (hm : m = t.length) (hm1 : 1 ≤ m) (hm3 : m ≤ 3) (hcap : m + 1 ≤ cap) (hcm : cap ≤ maxLen) (hx0 : 0 ≤ x) (hx1 : x < 256)
    (hc : w.cell? ⟨b, o, none⟩ = some (.int .u8 x)) (hct : ∀ j, j < m → w.cell? ⟨b, o + 1 + j, none⟩ = some (.int .u8 (t.getD j 0))) (hby : ∀ c ∈ t, 0 ≤ c ∧ c < 256) :
    Calls Tryd.prog 46 #[.slice (some ⟨b, o, none⟩) ((m + 1 : Nat) : Nat) cap, .int .i64 n] w fun e w' => e = .returned (.tuple #[.int .i64 (gat (headI n x) t).1, .bool (gat (headI n x) t).2]) ∧ ∃ q, w' = w.drewN q := by
  have e1 := and127 hx0 hx1
  have e2 := u8_and63 x hx0 hx1
  have e3 := u8_and31 x hx0 hx1
  have e4 := u8_and15 x hx0 hx1
  unfold maxLen at hcm
  have hne : ¬ cap = 1 := by omega
  have hroom := headI_room n x
  obtain ⟨h, hh⟩ : ∃ h, h = headI n x := ⟨_, rfl⟩
  rw [← hh] at hroom ⊢
  have HH := Lib.hid hh; clear hh
  have HM := Lib.hid hm; clear hm
  have HR := Lib.hid hroom; clear hroom
  have HT := Lib.hid hct; clear hct
  have HB := Lib.hid hby; clear hby
  rcases hn with rfl | rfl | rfl | rfl
  all_goals
    go_enter Tryd.func46, Tryd.ntmps46
    go_wp2
    go_quiet (fail)
    go_wp2
    go_loop [6, 19] (fun vr vi => ∃ (k : Nat) (r : Int), k ≤ m ∧ vi = .int .i64 k ∧ vr = .int .i64 r ∧ Hid (Room k r) ∧ Hid (gat r (t.drop k) = gat h t)) (fun _ vi => m - (intOf vi).toNat)
    case atStart => exact ⟨0, h, Nat.zero_le _, rfl, by rw [HH.out]; simp [headI], HR, Lib.hid (by simp)⟩
    case round =>
      obtain ⟨k, r, hk, rfl, rfl, HK, HG⟩ := hrel
      by_cases hlt : k < m
      · have c1 := HT.out k hlt
        obtain ⟨c, hc'⟩ : ∃ c, c = t.getD k 0 := ⟨_, rfl⟩
        rw [← hc'] at c1
        have hk' : k < t.length := by have := HM.out; omega
        have hg : t[k] = c := by rw [hc']; simp [List.getD, hk']
        have hcr := HB.out c (by rw [← hg]; exact List.getElem_mem hk')
        have hd : t.drop k = c :: t.drop (k + 1) := by rw [← hg]; exact List.drop_eq_getElem_cons hk'
        obtain ⟨hc0, hc1⟩ := hcr
        have hrm := HK.out.lt (by omega)
        obtain ⟨hr0, hr1⟩ := hrm
        have HD := Lib.hid hd
        clear hd hg hc' hk'
        by_cases hcont : 128 ≤ c ∧ c < 192
        · have hq : (c / 64 != 2) = false := by rw [bne_eq_false_iff_eq]; omega
          have e6 := u8_and63 c hc0 hc1
          have e7 := i64_or6 (x := r * 64) (y := c % 64) (by omega) (by omega) (by omega) (by omega) (by omega)
          have e8 : 0 ≤ c % 64 := by omega
          have e9 : c % 64 < 64 := by omega
          have HN := Lib.hid (HK.out.next e8 e9 (by omega))
          have HC := Lib.hid hcont; clear hcont
          go_wp2
          go_round
          case rel =>
            refine ⟨k + 1, r * 64 + c % 64, by omega, by go_num, rfl, HN, Lib.hid ?_⟩
            rw [← HG.out, HD.out, gat, if_pos HC.out, show c - 128 = c % 64 by have := HC.out; omega]
          case measure => simp [intOf]; omega
        · have hq : (c / 64 != 2) = true := by rw [bne_iff_ne]; omega
          have HC := Lib.hid hcont; clear hcont
          go_wp2
          go_ret2
          exact ⟨by rw [← HG.out, HD.out, gat, if_neg HC.out]; rfl, _, rfl⟩
      · go_wp2
        go_ret2
        exact ⟨by rw [← HG.out, List.drop_eq_nil_of_le (by have := HM.out; omega)]; simp [gat], _, rfl⟩
end Go.Proofs.YtajnedkjmgjjbaaDoor
