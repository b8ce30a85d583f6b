/- The way of telling by context: one without hits. -/
import Derived.Test.YtebmafghekfllaaDoorModD18
namespace Go.Proofs.YtebmafghekfllaaDoor
open Go Go.RowKit
set_option linter.unusedVariables false
set_option maxRecDepth 20000
def F4 (g cb cg cn : Nat) : Nat → Prop := fun q => q = g ∨ q = cb ∨ q = cg ∨ q = cn
section
variable {w0 w w' : World} {g ca cb cs ct cf cg cn b a beh : Nat} {st : Option Int} {rs : List Rw} {en ov : Bool}
theorem pow_on4 (hT : Pow18 w0) (hb : Below w0.heap.size w0 w) (hF : ∀ q, F4 g cb cg cn q → w0.heap.size ≤ q) (W : World) (hM : Moved (F4 g cb cg cn) w W) : Pow18 W ∧ Below w0.heap.size w0 W := by
  have h := hb.trans (hM.below (B := w0.heap.size) hF hb.size)
  exact ⟨hT.on h, h⟩
theorem Moved.wide {F F' : Nat → Prop} {w w' : World} (h : Moved F w w') (hF : ∀ q, F q → F' q) : Moved F' w w' := ⟨h.os, h.tape, h.output, h.size, fun q hq hn => h.block q hq fun e => hn (hF q e)⟩
theorem Moved.tr {F : Nat → Prop} {w w' w'' : World} (h : Moved F w w') (k : Moved F w' w'') : Moved F w w'' := Moved.trans (F' := F) ⟨h, fun k h => .inl h⟩ k
set_option maxHeartbeats 4000000 in
theorem ctx_wait (h : Ct3 w g ca cb cs ct cf cg cn b a 0 st rs en ov) (x : Rw) (A : Option Addr) (c : Nat) (hl : rs.length ≤ b) (hb : b ≤ 16) (hz : x.tx.size ≤ 60) :
    Calls Tryd.prog 32 #[recV x.n x.p x.tx, .slice A 0 c, .pointer (some ⟨ca, 0, none⟩), .pointer (some ⟨cb, 0, none⟩), .pointer (some ⟨cs, 0, none⟩), .pointer (some ⟨ct, 0, none⟩), .pointer (some ⟨cf, 0, none⟩)] w fun e w' => e = .returned (.slice none 0 0) ∧ Ct3 w' g ca cb cs ct cf cg cn b a 0 st (if b = 0 then rs else (if rs.length = b then rs.drop 1 else rs) ++ [x]) en ov ∧ Moved (F4 g cb cg cn) w w' := by
  obtain ⟨rs', hrs⟩ : ∃ rs', rs' = (if b = 0 then rs else (if rs.length = b then rs.drop 1 else rs) ++ [x]) := ⟨_, rfl⟩
  rw [← hrs]
  obtain ⟨W0, hW0⟩ : ∃ W0, W0 = w.alloc (.cells #[.int .i64 x.n, .int .i64 x.p, .string x.tx] 31) := ⟨_, rfl⟩
  obtain ⟨gx, hgx⟩ : ∃ gx, gx = w.heap.size := ⟨_, rfl⟩
  have hb1 : Below w.heap.size w W0 := by rw [hW0]; exact (Below.refl _ _).alloc (Nat.le_refl _) _
  have h0 := h.below hb1
  have hbx : W0.heap[gx]? = some (.cells #[.int .i64 x.n, .int .i64 x.p, .string x.tx] 31 (0, 0)) := by rw [hW0, hgx]; exact heap_alloc_new _ _
  have HH := Lib.hid h0
  have HM0 : Hid (Moved (F4 g cb cg cn) w W0) := Lib.hid (by rw [hW0]; exact (Moved.refl _ w).alloc _)
  have HP : Hid (∀ W : World, Below W0.heap.size W0 W → Calls Tryd.prog 34 #[.pointer (some ⟨g, 2, none⟩), .agg #[.int .i64 x.n, .int .i64 x.p, .string x.tx], .int .i64 (b : Int)] W fun e w' => e = .returned (.tuple #[]) ∧ TelM w' g (fn3 ca cb cs ct cf) .nilFunc rs' en ov ∧ Moved (fun q => q = g) W w') := Lib.hid (fun W hbW => by
    rw [hrs]
    have h0 := h0.below hbW
    by_cases hb0 : b = 0
    · rw [if_pos hb0, hb0]
      exact (put_no x W g).mono fun e w' hh => ⟨hh.1, h0.tel.below hh.2, Moved.of_below hh.2 _⟩
    · rw [if_neg hb0]
      by_cases hlb : rs.length = b
      · rw [if_pos hlb]
        rcases rs with _ | ⟨y, r⟩
        · exact absurd hlb.symm hb0
        · have := put_full h0.tel x hz
          rw [← hlb]
          exact this
      · rw [if_neg hlb]
        exact put_more h0.tel x b (by omega) hb hz)
  have gl := h0.lt
  have gxl := (Array.getElem?_eq_some_iff.1 hbx).1
  have d0 : W0.cell? ⟨cb, 0, none⟩ = some (.int .i64 0) := cell_of_row W0 cb 0 _ _ (0, 0) h0.ctx.hb
  have gn : gx ≠ g := by have := h.tel.lt; omega
  have hne := h0.ne.1
  have g0 : ∀ w', Moved (fun q => q = g) W0 w' → w'.cell? ⟨gx, 0, none⟩ = some (.int .i64 x.n) := fun w' hb => cell_of_row w' gx 0 _ _ (0, 0) ((hb.block gx gxl gn).trans hbx)
  have g1 : ∀ w', Moved (fun q => q = g) W0 w' → w'.cell? ⟨gx, 1, none⟩ = some (.int .i64 x.p) := fun w' hb => cell_of_row w' gx 1 _ _ (0, 0) ((hb.block gx gxl gn).trans hbx)
  have g2 : ∀ w', Moved (fun q => q = g) W0 w' → w'.cell? ⟨gx, 2, none⟩ = some (.string x.tx) := fun w' hb => cell_of_row w' gx 2 _ _ (0, 0) ((hb.block gx gxl gn).trans hbx)
  have g3 : ∀ w', Moved (fun q => q = g) W0 w' → w'.cell? ⟨ct, 0, none⟩ = some (.pointer (some ⟨g, 0, none⟩)) := fun w' hb => cell_of_row w' ct 0 _ _ (0, 0) ((hb.block ct gl.2.2.2.2.1 hne.2.2.2.1).trans h0.ctx.ht)
  have g4 : ∀ w', Moved (fun q => q = g) W0 w' → w'.cell? ⟨cf, 0, none⟩ = some (.int .i64 (b : Int)) := fun w' hb => cell_of_row w' cf 0 _ _ (0, 0) ((hb.block cf gl.2.2.2.2.2.1 hne.2.2.2.2.1).trans h0.ctx.hf)
  have hB0 : Below W0.heap.size W0 W0.drew := below_drewN (Below.refl _ _) 1
  have hS0 : Moved (fun q => q = g) W0 W0.drew := Moved.of_below hB0 _
  clear gn hne
  clear gl gxl
  rw [hW0] at d0
  clear h0 hb1 hbx h hl hrs
  have HW := Lib.hid (And.intro hW0 hgx)
  have hgx2 := hgx
  unfold recV
  go_enter Tryd.func32, Tryd.ntmps32
  clear hgx hgx2 hW0
  go_wp2_with fail
  rw [← HW.out.1, ← HW.out.2]
  clear d0
  go_region_held (fun w' => Moved (fun q => q = g) W0 w') (assumption) (first
    | (go_at_call 34; (with_reducible refine (HP.out W0.drew hB0).mono ?_); rintro e w1 ⟨rfl, hT1, hM1⟩; have hS1 : Moved (fun q => q = g) W0 w1 := Moved.tr hS0 hM1; have H1 := Lib.hid (And.intro hT1 hM1); clear hT1 hM1))
  simp only [Exit.then]
  go_wp2_with fail
  go_ret
  have h2 : Ct3 W0.drew g ca cb cs ct cf cg cn b a 0 st rs en ov := HH.out.below hB0
  exact ⟨rfl, h2.moveT H1.out.2 H1.out.1, Moved.tr HM0.out.drew (H1.out.2.wide fun q hq => .inl hq)⟩
set_option maxHeartbeats 4000000 in
theorem ctx_behind (h : Ct3 w g ca cb cs ct cf cg cn b a (beh + 1) st rs en ov) (x : Rw) (A : Option Addr) (c : Nat) (hk : beh ≤ 16) (hT : Pow18 w0) (hb : Below w0.heap.size w0 w) (hF : ∀ q, F4 g cb cg cn q → w0.heap.size ≤ q) (h0 : -9223372036854775808 ≤ x.n) (h1 : x.n ≤ 9223372036854775807) (hz : x.tx.size ≤ 60) :
    Calls Tryd.prog 32 #[recV x.n x.p x.tx, .slice A 0 c, .pointer (some ⟨ca, 0, none⟩), .pointer (some ⟨cb, 0, none⟩), .pointer (some ⟨cs, 0, none⟩), .pointer (some ⟨ct, 0, none⟩), .pointer (some ⟨cf, 0, none⟩)] w fun e w' => ∃ A2 c2, e = .returned (.slice A2 (shw ⟨#[45]⟩ st [x]).1.length c2) ∧ RecW w' w.heap.size 9 1 (.slice A2 (shw ⟨#[45]⟩ st [x]).1.length c2) (strs (shw ⟨#[45]⟩ st [x]).1) ∧ Ct3 w' g ca cb cs ct cf cg cn b a beh (shw ⟨#[45]⟩ st [x]).2 rs en ov ∧ Moved (F4 g cb cg cn) w w' := by
  obtain ⟨W0, hW0⟩ : ∃ W0, W0 = w.alloc (.cells #[.int .i64 x.n, .int .i64 x.p, .string x.tx] 31) := ⟨_, rfl⟩
  obtain ⟨gx, hgx⟩ : ∃ gx, gx = w.heap.size := ⟨_, rfl⟩
  have hb1 : Below w.heap.size w W0 := by rw [hW0]; exact (Below.refl _ _).alloc (Nat.le_refl _) _
  have hh := h.below hb1
  have hbx : W0.heap[gx]? = some (.cells #[.int .i64 x.n, .int .i64 x.p, .string x.tx] 31 (0, 0)) := by rw [hW0, hgx]; exact heap_alloc_new _ _
  have hxcb : gx ≠ cb := by have := h.lt.2.2.1; omega
  obtain ⟨W1, hW1⟩ : ∃ W1, W1 = W0.setCell ⟨cb, 0, none⟩ (.int .i64 (beh : Int)) := ⟨_, rfl⟩
  have hh1 : Ct3 W1 g ca cb cs ct cf cg cn b a beh st rs en ov := by rw [hW1]; exact hh.setB beh
  have hbx1 : W1.heap[gx]? = some (.cells #[.int .i64 x.n, .int .i64 x.p, .string x.tx] 31 (0, 0)) := by rw [hW1]; exact (heap_setCell_other _ _ _ _ hxcb).trans hbx
  have hM1 : Moved (F4 g cb cg cn) w W1 := by rw [hW1, hW0]; exact ((Moved.refl _ w).alloc _).setCell (.inl (.inr (.inl rfl))) _
  obtain ⟨W2, hW2⟩ : ∃ W2, W2 = W1.alloc (.cells #[.int .i64 x.n, .int .i64 x.p, .string x.tx] 31) := ⟨_, rfl⟩
  have hb2 : Below W1.heap.size W1 W2 := by rw [hW2]; exact (Below.refl _ _).alloc (Nat.le_refl _) _
  have hh2 := hh1.below hb2
  have hM2 : Moved (F4 g cb cg cn) w W2 := Moved.tr hM1 (Moved.of_below hb2 _)
  have hrd : ReadR 0 W2 (some ⟨W1.heap.size, 0, none⟩) 1 3 ([x].map Rw.rcs) := by rw [hW2]; exact read_one (heap_alloc_new W1 (.cells x.rcs.toArray 31)) x.rwide
  obtain ⟨hT2, hB2⟩ := pow_on4 hT hb hF W2 hM2
  have hl1 := hh1.lt
  have HS := Lib.hid (show_any hT hB2 (hF cg (.inr (.inr (.inl rfl)))) (hF cn (.inr (.inr (.inr rfl)))) hh2.ctx.sh ⟨#[45]⟩ (by decide) [x] (some ⟨W1.heap.size, 0, none⟩) 1 1 hrd (fun b' o' e => by injection e with e; injection e with e; omega) (by decide) (fun y hy => by rw [List.mem_singleton.1 hy]; exact ⟨h0, h1, hz⟩))
  have HF := Lib.hid (And.intro hh2 (And.intro hM2 (Nat.le_trans hM1.size hb2.size)))
  have hgl := hh.lt
  have d0 : W0.cell? ⟨cb, 0, none⟩ = some (.int .i64 ((beh + 1 : Nat) : Int)) := cell_of_row W0 cb 0 _ _ (0, 0) hh.ctx.hb
  have d1 : W0.frozen? ⟨cb, 0, none⟩ = false := by simp [World.frozen?, hh.ctx.hb]
  have hwr : IntKind.i64.wrap (((beh + 1 : Nat) : Int) - 1) = (beh : Int) := by rw [IntKind.wrap_i64]; omega
  have hpos : (0 : Int) < ((beh + 1 : Nat) : Int) := by omega
  have c0 : W1.cell? ⟨cs, 0, none⟩ = some (fnS cg cn) := cell_of_row W1 cs 0 _ _ (0, 0) hh1.ctx.hs
  have c1 := cell_of_row W1 gx 0 _ _ (0, 0) hbx1
  have c2 := cell_of_row W1 gx 1 _ _ (0, 0) hbx1
  have c3 := cell_of_row W1 gx 2 _ _ (0, 0) hbx1
  unfold fnS at c0
  obtain ⟨o1, ho1⟩ : ∃ o1, o1 = shw ⟨#[45]⟩ st [x] := ⟨_, rfl⟩
  rw [← ho1] at HS ⊢
  have HW := Lib.hid (And.intro hW0 (And.intro hgx (And.intro hW1 hW2)))
  rw [hW1, hW0] at c0
  rw [hW1, hW0, hgx] at c1 c2 c3
  rw [hW0] at d0 d1
  obtain ⟨bk, hbk⟩ : ∃ bk : Int, bk = ((beh + 1 : Nat) : Int) := ⟨_, rfl⟩
  rw [← hbk] at d0 hwr hpos
  clear hW0 hgx hW1 hW2 hb1 hh hbx hxcb hh1 hbx1 hM1 hb2 hh2 hM2 hrd hT2 hB2 hl1 hgl h hT hb hF ho1 hbk h0 h1 hk hz
  unfold recV
  go_enter Tryd.func32, Tryd.ntmps32
  go_wp2_with fail
  have hsz : w.heap.size + 1 = W1.heap.size := by rw [HW.out.2.2.1, HW.out.1]; simp
  rw [← HW.out.1, ← HW.out.2.2.1, ← HW.out.2.2.2, hsz]
  (with_reducible refine HS.out.mono ?_); rintro e w3 ⟨A2, c2, rfl, hr3, hs3, hm3⟩
  have H3 := Lib.hid (And.intro hr3 (And.intro hs3 hm3))
  clear hr3 hs3 hm3 hsz
  go_wp2_with fail
  go_ret
  obtain ⟨hr3, hs3, hm3⟩ := H3.out
  obtain ⟨hh2, hM2, hle⟩ := HF.out
  exact ⟨A2, c2, rfl, hr3.base hle, hh2.moveS hm3 hs3, Moved.tr hM2 (hm3.wide fun q hq => .inr (.inr hq))⟩
end
end Go.Proofs.YtebmafghekfllaaDoor
