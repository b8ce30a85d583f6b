/- The ways of telling: the first; the count. -/
import Derived.Test.YtebmafghekfllaaDoorModO18
import Derived.Test.YtebmafghekfllaaDoorModE18
import Derived.Test.YtebmafghekfllaaDoorModV18
namespace Go.Proofs.YtebmafghekfllaaDoor
open Go Go.RowKit
set_option linter.unusedVariables false
set_option maxRecDepth 20000
section
variable {w0 w w' : World} {g : Nat} {tv ev : Value} {rs : List Rw} {en ov : Bool}
/-- Enough, and over. -/
theorem TelM.stop (h : TelM w g tv ev rs en ov) : TelM ((w.setCell ⟨g, 51, none⟩ (.bool true)).setCell ⟨g, 52, none⟩ (.bool true)) g tv ev rs true true := by
  have h1 : ∀ o, o ≠ 51 → (w.setCell ⟨g, 51, none⟩ (.bool true)).cell? ⟨g, o, none⟩ = w.cell? ⟨g, o, none⟩ := fun o ho => World.cell?_setCell_other _ _ _ _ (by intro e; injection e with _ e; exact ho e.symm)
  have h2 : ∀ o, o ≠ 52 → ((w.setCell ⟨g, 51, none⟩ (.bool true)).setCell ⟨g, 52, none⟩ (.bool true)).cell? ⟨g, o, none⟩ = (w.setCell ⟨g, 51, none⟩ (.bool true)).cell? ⟨g, o, none⟩ := fun o ho => World.cell?_setCell_other _ _ _ _ (by intro e; injection e with _ e; exact ho e.symm)
  have h3 := fun o (a : o ≠ 51) (b : o ≠ 52) => (h2 o b).trans (h1 o a)
  have hle := h.le
  refine ⟨hp_set rfl (hp_set rfl h.hp), (h3 0 (by decide) (by decide)).trans h.c0, (h3 1 (by decide) (by decide)).trans h.c1, fun j x hx i v hv => ?_, (h3 50 (by decide) (by decide)).trans h.cm, (h2 51 (by decide)).trans (World.cell?_setCell_same _ _ _ h.ce), World.cell?_setCell_same _ _ _ ((h1 52 (by decide)).trans h.co), h.le⟩
  have hj := (List.getElem?_eq_some_iff.1 hx).1
  have hi : i < 3 := (List.getElem?_eq_some_iff.1 hv).1
  exact (h3 _ (by omega) (by omega)).trans (h.cr j x hx i v hv)
theorem TelM.over_ (h : TelM w g tv ev rs en ov) : TelM (w.setCell ⟨g, 52, none⟩ (.bool true)) g tv ev rs en true := by
  have h2 : ∀ o, o ≠ 52 → (w.setCell ⟨g, 52, none⟩ (.bool true)).cell? ⟨g, o, none⟩ = w.cell? ⟨g, o, none⟩ := fun o ho => World.cell?_setCell_other _ _ _ _ (by intro e; injection e with _ e; exact ho e.symm)
  have hle := h.le
  refine ⟨hp_set rfl h.hp, (h2 0 (by decide)).trans h.c0, (h2 1 (by decide)).trans h.c1, fun j x hx i v hv => ?_, (h2 50 (by decide)).trans h.cm, (h2 51 (by decide)).trans h.ce, World.cell?_setCell_same _ _ _ h.co, h.le⟩
  have hj := (List.getElem?_eq_some_iff.1 hx).1
  have hi : i < 3 := (List.getElem?_eq_some_iff.1 hv).1
  exact (h2 _ (by omega)).trans (h.cr j x hx i v hv)
theorem TelM.fz (h : TelM w g tv ev rs en ov) (o : Nat) : w.frozen? ⟨g, o, none⟩ = false := by
  obtain ⟨cs, e, _⟩ := h.hp
  simp [World.frozen?, e]
theorem fst_no (x : Rw) (A : Option Addr) (c bt : Nat) (w : World) : Calls Tryd.prog 28 #[recV x.n x.p x.tx, .slice A 0 c, .pointer (some ⟨bt, 0, none⟩)] w fun e w' => e = .returned (.slice none 0 0) ∧ Below w.heap.size w w' := by
  have HB := Lib.hid ((Below.refl w.heap.size w).alloc (Nat.le_refl _) (.cells #[.int .i64 x.n, .int .i64 x.p, .string x.tx] 31))
  unfold recV
  go_enter Tryd.func28, Tryd.ntmps28
  go_wp2_with fail
  go_ret
  exact ⟨rfl, HB.out⟩
set_option maxHeartbeats 4000000 in
theorem fst_yes (x : Rw) (A : Option Addr) (z c bt : Nat) (h : TelM w g tv ev rs en ov) (hbt : w.heap[bt]? = some (.cells #[.pointer (some ⟨g, 0, none⟩)] 25 (0, 0))) (hz : 0 < z) (hT : Pow18 w0) (hb0 : Below w0.heap.size w0 w) (hg0 : w0.heap.size ≤ g)
    (h0 : -9223372036854775808 ≤ x.n) (h1 : x.n ≤ 9223372036854775807) (ht : x.tx.size ≤ 60) : Calls Tryd.prog 28 #[recV x.n x.p x.tx, .slice A z c, .pointer (some ⟨bt, 0, none⟩)] w fun e w' => ∃ A2 c2, e = .returned (.slice A2 1 c2) ∧ RecW w' w.heap.size 9 1 (.slice A2 1 c2) (strs [lineF x]) ∧ TelM w' g tv ev rs true true ∧ Moved (fun q => q = g) w w' := by
  obtain ⟨W0, hW0⟩ : ∃ W0, W0 = w.alloc (.cells #[.int .i64 x.n, .int .i64 x.p, .string x.tx] 31) := ⟨_, rfl⟩
  obtain ⟨gx, hgx⟩ : ∃ gx, gx = w.heap.size := ⟨_, rfl⟩
  have hb1 : Below w.heap.size w W0 := by rw [hW0]; exact (Below.refl _ _).alloc (Nat.le_refl _) _
  have hP : PutM W0 g gx x tv ev rs en ov := ⟨h.below hb1, by rw [hgx]; have := h.lt; omega, by rw [hW0, hgx]; exact heap_alloc_new _ _⟩
  have hbl := (Array.getElem?_eq_some_iff.1 hbt).1
  have hbt0 := (hb1.block bt hbl).trans hbt
  have HP := Lib.hid hP
  have HBT := Lib.hid hbt0
  have HM0 : Hid (Moved (fun q => q = g) w W0) := Lib.hid (by rw [hW0]; exact (Moved.refl _ w).alloc _)
  have HPW := Lib.hid fun (W : World) (hM : Moved (fun q => q = g) w W) => (hT.on (hb0.trans (hM.below (B := w0.heap.size) (fun k hk => by rw [hk]; exact hg0) hb0.size)) : Pow18 W)
  have HN := Lib.hid (And.intro h0 (And.intro h1 ht))
  have hzi : ¬ (z : Int) = 0 := by omega
  clear hb1 hP hbl hbt0 hbt h hT hb0 hg0 h0 h1 ht
  unfold recV
  go_enter Tryd.func28, Tryd.ntmps28
  go_wp2_with fail
  rw [← hW0, ← hgx]
  clear hW0
  have HGX := Lib.hid hgx
  clear hgx
  have b0 : W0.drew.cell? ⟨bt, 0, none⟩ = some (.pointer (some ⟨g, 0, none⟩)) := cell_of_row W0 bt 0 _ _ (0, 0) HBT.out
  have b1 : W0.drew.cell? ⟨g, 51, none⟩ = some (.bool en) := HP.out.tel.ce
  have b2 : W0.drew.cell? ⟨g, 52, none⟩ = some (.bool ov) := HP.out.tel.co
  have b3 : W0.drew.frozen? ⟨g, 51, none⟩ = false := HP.out.tel.fz 51
  have b4 : W0.drew.frozen? ⟨g, 52, none⟩ = false := HP.out.tel.fz 52
  have b2' : W0.cell? ⟨g, 52, none⟩ = some (.bool ov) := HP.out.tel.co
  have b4' : W0.frozen? ⟨g, 52, none⟩ = false := HP.out.tel.fz 52
  have b5 : ¬ bt = g := by
    intro e
    obtain ⟨cs, e1, e2, _⟩ := HP.out.tel.hp
    have := HBT.out
    rw [e, e1] at this
    injection this with this
    injection this with e3 e4 _
    exact absurd e4 (by decide)
  have b5' : ¬ g = bt := fun e => b5 e.symm
  have b0' : W0.cell? ⟨bt, 0, none⟩ = some (.pointer (some ⟨g, 0, none⟩)) := b0
  go_region
  obtain ⟨W3, hW3⟩ : ∃ W3, W3 = ((W0.setCell ⟨g, 51, none⟩ (.bool true)).setCell ⟨g, 52, none⟩ (.bool true)).drew := ⟨_, rfl⟩
  have h3 : PutM W3 g gx x tv ev rs true true := by
    rw [hW3]
    exact ⟨HP.out.tel.stop.keep rfl, HP.out.ne, (heap_setCell_other _ _ _ _ HP.out.ne).trans ((heap_setCell_other _ _ _ _ HP.out.ne).trans HP.out.box)⟩
  have HM3 : Hid (Moved (fun q => q = g) w W3) := Lib.hid (by rw [hW3]; exact ((HM0.out.setCell (.inl rfl) _).setCell (.inl rfl) _).drew)
  rw [← hW3]
  clear hW3 b0 b1 b2 b3 b4 b2' b4' b5 b5' b0'
  have HP3 := Lib.hid h3
  have e0 := cell_of_row W3 gx 0 _ _ (0, 0) h3.box
  have e1 := cell_of_row W3 gx 1 _ _ (0, 0) h3.box
  have e2 := cell_of_row W3 gx 2 _ _ (0, 0) h3.box
  clear h3
  have HL := Lib.hid (line_any x.n x.p x.tx ⟨#[58]⟩ x.tx W3 (HPW.out W3 HM3.out) HN.out.1 HN.out.2.1 (by decide) (by have := HN.out.2.2; omega))
  unfold recV at HL
  simp only [Exit.then]
  go_wp2_with fail
  (with_reducible refine HL.out.mono ?_); rintro e w4 ⟨rfl, hb4⟩
  have HB4 := Lib.hid hb4
  clear hb4 e0 e1 e2
  go_wp2_with fail
  go_ret
  have hb5 : Below W3.heap.size W3 (w4.alloc (.cells #[.string (itoaS x.n ++ ⟨#[58]⟩ ++ x.tx)] 9)) := HB4.out.alloc HB4.out.size _
  refine ⟨_, _, rfl, one_str w4 (Nat.le_trans HM3.out.size HB4.out.size) _, HP3.out.tel.below hb5, Moved.trans (F' := fun q => q = g) ⟨HM3.out, fun k h => .inl h⟩ (Moved.of_below hb5 _)⟩
/-- The count. -/
theorem cnt_no (x : Rw) (A : Option Addr) (c cr ch : Nat) (w : World) : Calls Tryd.prog 29 #[recV x.n x.p x.tx, .slice A 0 c, .pointer (some ⟨cr, 0, none⟩), .pointer (some ⟨ch, 0, none⟩)] w fun e w' => e = .returned (.slice none 0 0) ∧ Below w.heap.size w w' := by
  have HB := Lib.hid ((Below.refl w.heap.size w).alloc (Nat.le_refl _) (.cells #[.int .i64 x.n, .int .i64 x.p, .string x.tx] 31))
  unfold recV
  go_enter Tryd.func29, Tryd.ntmps29
  go_wp2_with fail
  go_ret
  exact ⟨rfl, HB.out⟩
set_option maxHeartbeats 4000000 in
theorem cnt_yes (x : Rw) (A : Option Addr) (z c cr ch r k : Nat) (hr : w.heap[cr]? = some (.cells #[.int .i64 (r : Int)] 3 (0, 0))) (hh : w.heap[ch]? = some (.cells #[.int .i64 (k : Int)] 3 (0, 0))) (hne : cr ≠ ch) (hz : 0 < z) (hz2 : z ≤ 10) (hr2 : r ≤ 10000) (hk2 : k ≤ 10000) :
    Calls Tryd.prog 29 #[recV x.n x.p x.tx, .slice A z c, .pointer (some ⟨cr, 0, none⟩), .pointer (some ⟨ch, 0, none⟩)] w fun e w' => e = .returned (.slice none 0 0) ∧ w'.heap[cr]? = some (.cells #[.int .i64 ((r + 1 : Nat) : Int)] 3 (0, 0)) ∧ w'.heap[ch]? = some (.cells #[.int .i64 ((k + z : Nat) : Int)] 3 (0, 0)) ∧ Moved (fun q => q = cr ∨ q = ch) w w' := by
  obtain ⟨W0, hW0⟩ : ∃ W0, W0 = w.alloc (.cells #[.int .i64 x.n, .int .i64 x.p, .string x.tx] 31) := ⟨_, rfl⟩
  have hr0 : W0.heap[cr]? = some (.cells #[.int .i64 (r : Int)] 3 (0, 0)) := by rw [hW0]; exact at_up hr _
  have hh0 : W0.heap[ch]? = some (.cells #[.int .i64 (k : Int)] 3 (0, 0)) := by rw [hW0]; exact at_up hh _
  have HM0 : Hid (Moved (fun q => q = cr ∨ q = ch) w W0) := Lib.hid (by rw [hW0]; exact (Moved.refl _ w).alloc _)
  have hr1 : (W0.setCell ⟨cr, 0, none⟩ (.int .i64 ((r : Int) + 1))).heap[cr]? = some (.cells #[.int .i64 ((r + 1 : Nat) : Int)] 3 (0, 0)) := by
    rw [heap_setCell_same W0 cr 0 _ _ _ hr0]
    rfl
  have hh1 : (W0.setCell ⟨cr, 0, none⟩ (.int .i64 ((r : Int) + 1))).heap[ch]? = some (.cells #[.int .i64 (k : Int)] 3 (0, 0)) := (heap_setCell_other _ _ _ _ hne.symm).trans hh0
  have hh2 : ((W0.setCell ⟨cr, 0, none⟩ (.int .i64 ((r : Int) + 1))).setCell ⟨ch, 0, none⟩ (.int .i64 ((k : Int) + (z : Int)))).heap[ch]? = some (.cells #[.int .i64 ((k + z : Nat) : Int)] 3 (0, 0)) := by
    rw [heap_setCell_same _ ch 0 _ _ _ hh1]
    rfl
  have hr2' : ((W0.setCell ⟨cr, 0, none⟩ (.int .i64 ((r : Int) + 1))).setCell ⟨ch, 0, none⟩ (.int .i64 ((k : Int) + (z : Int)))).heap[cr]? = some (.cells #[.int .i64 ((r + 1 : Nat) : Int)] 3 (0, 0)) := (heap_setCell_other _ _ _ _ hne).trans hr1
  have HF := Lib.hid (And.intro hr2' (And.intro hh2 (((HM0.out.setCell (p := ⟨cr, 0, none⟩) (.inl (.inl rfl)) (.int .i64 ((r : Int) + 1))).setCell (p := ⟨ch, 0, none⟩) (.inl (.inr rfl)) (.int .i64 ((k : Int) + (z : Int)))))))
  have w1 : IntKind.i64.wrap ((r : Int) + 1) = (r : Int) + 1 := by rw [IntKind.wrap_i64]; omega
  have w2 : IntKind.i64.wrap ((k : Int) + (z : Int)) = (k : Int) + (z : Int) := by rw [IntKind.wrap_i64]; omega
  have b0 := cell_of_row W0 cr 0 _ _ (0, 0) hr0
  have b1 := cell_of_row W0 ch 0 _ _ (0, 0) hh0
  have b2 : W0.frozen? ⟨cr, 0, none⟩ = false := by simp [World.frozen?, hr0]
  have b3 : W0.frozen? ⟨ch, 0, none⟩ = false := by simp [World.frozen?, hh0]
  rw [hW0] at b0 b1 b2 b3
  have hzi : (0 : Int) < (z : Int) := by omega
  rw [hW0] at HF
  clear hr0 hh0 hr1 hh1 hh2 hr2' hr hh
  unfold recV
  go_enter Tryd.func29, Tryd.ntmps29
  go_wp2_with fail
  go_ret
  exact ⟨rfl, HF.out⟩
set_option maxHeartbeats 4000000 in
theorem cnt_end (cr ch r k : Nat) (hr : w.heap[cr]? = some (.cells #[.int .i64 (r : Int)] 3 (0, 0))) (hh : w.heap[ch]? = some (.cells #[.int .i64 (k : Int)] 3 (0, 0))) (hr2 : r ≤ 10000) (hk2 : k ≤ 10000) (hT : Pow18 w) :
    Calls Tryd.prog 30 #[.pointer (some ⟨cr, 0, none⟩), .pointer (some ⟨ch, 0, none⟩)] w fun e w' => ∃ A c, e = .returned (.slice A 1 c) ∧ RecW w' w.heap.size 9 1 (.slice A 1 c) (strs [itoaS (r : Int) ++ ⟨#[32]⟩ ++ itoaS (k : Int)]) ∧ Below w.heap.size w w' := by
  have zr := itoaS_size r (by omega)
  have zk := itoaS_size k (by omega)
  have HR := Lib.hid fun (w' : World) (hb : Below w.heap.size w w') => itoa_on hT (r : Int) (by omega) (by omega) w' hb
  have HK := Lib.hid fun (w' : World) (hb : Below w.heap.size w w') => itoa_on hT (k : Int) (by omega) (by omega) w' hb
  obtain ⟨sr, hsr⟩ : ∃ s, s = itoaS (r : Int) := ⟨_, rfl⟩
  obtain ⟨sk, hsk⟩ : ∃ s, s = itoaS (k : Int) := ⟨_, rfl⟩
  rw [← hsr] at HR zr ⊢
  rw [← hsk] at HK zk ⊢
  clear hsr hsk
  have lr := (Array.getElem?_eq_some_iff.1 hr).1
  have lh := (Array.getElem?_eq_some_iff.1 hh).1
  have g0 : ∀ w', Below w.heap.size w w' → w'.cell? ⟨cr, 0, none⟩ = some (.int .i64 (r : Int)) := fun w' hb => cell_of_row w' cr 0 _ _ (0, 0) ((hb.block cr lr).trans hr)
  have g1 : ∀ w', Below w.heap.size w w' → w'.cell? ⟨ch, 0, none⟩ = some (.int .i64 (k : Int)) := fun w' hb => cell_of_row w' ch 0 _ _ (0, 0) ((hb.block ch lh).trans hh)
  have l1 : ¬ 9223372036854775807 < sr.size + 1 := by omega
  have l2 : ¬ 9223372036854775807 < sr.size + 1 + sk.size := by omega
  have hS0 : Below w.heap.size w w.drew := below_drewN (Below.refl _ _) 1
  clear hr hh hT lr lh
  go_enter Tryd.func30, Tryd.ntmps30
  go_wp2_with fail
  go_region_held (fun w' => Below w.heap.size w w') (assumption) (first
    | (go_at_call 26; (with_reducible refine (HK.out wA hS1).mono ?_); rintro e wB ⟨rfl, hB⟩; have hS2 := hS1.trans (hB.mono hS1.size); have HSA := Lib.hid (hS2.alloc hS2.size (.cells #[.string (sr ++ (⟨#[32]⟩ : ByteArray) ++ sk)] 9)); clear hB)
    | (go_at_call 26; (with_reducible refine (HR.out w.drew hS0).mono ?_); rintro e wA ⟨rfl, hA⟩; have hS1 := hS0.trans (hA.mono hS0.size); clear hA))
  simp only [Exit.then]
  go_wp2_with fail
  go_ret
  exact ⟨_, _, rfl, one_str wB hS2.size _, HSA.out⟩
end
end Go.Proofs.YtebmafghekfllaaDoor
