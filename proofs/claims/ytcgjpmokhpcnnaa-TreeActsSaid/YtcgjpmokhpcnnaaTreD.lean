/- The document's tree: its block, two rows of whole numbers that grow and are stored to; New, Is, Under. -/
import Derived.Test.YtcgjpmokhpcnnaaTreP
namespace Go.Proofs.Ytcgjpmokhpcnnaa
open Go Go.RowKit
set_option linter.unusedVariables false
set_option maxRecDepth 20000

theorem info_num : (Try.prog.info? 3).map (fun i => (i.zero, i.size, i.bytes)) = some (some (.int .i64 0), 1, 8) := by kernel_rfl
theorem num_cells : Try.prog.cellsOf 3 = 1 := by kernel_rfl
/-- Two rows of whole numbers in a block of two fields: the document's tree. -/
structure TDoc (w : World) (B : Nat) (D : Nat → Prop) (r : Nat) (VU VC : Value) (up ca : List Int) : Prop where
  low : ∀ k, D k → B ≤ k ∧ k < w.heap.size
  dr : D r
  du : ∀ k, VU.ownBlock = some k → D k
  dc : ∀ k, VC.ownBlock = some k → D k
  blk : w.heap[r]? = some (.cells #[VU, VC] 40 (0, 0))
  ru : RecW w 0 3 1 VU (nums1 up)
  rc : RecW w 0 3 1 VC (nums1 ca)
  ap : ∀ k, VU.ownBlock = some k → VC.ownBlock ≠ some k
section
variable {w w' : World} {B r : Nat} {D : Nat → Prop} {VU VC : Value} {up ca : List Int}
theorem TDoc.lt (h : TDoc w B D r VU VC up ca) : r < w.heap.size := (h.low r h.dr).2
theorem TDoc.c0 (h : TDoc w B D r VU VC up ca) : w.cell? ⟨r, 0, none⟩ = some VU := cell_of_row w r 0 _ _ (0, 0) h.blk
theorem TDoc.c1 (h : TDoc w B D r VU VC up ca) : w.cell? ⟨r, 1, none⟩ = some VC := cell_of_row w r 1 _ _ (0, 0) h.blk
theorem TDoc.fz (h : TDoc w B D r VU VC up ca) (j : Nat) : w.frozen? ⟨r, j, none⟩ = false := by have := h.blk; simp [World.frozen?, this]
theorem TDoc.neu (h : TDoc w B D r VU VC up ca) : VU.ownBlock ≠ some r := row_ne_blk h.ru.1 h.blk (by decide)
theorem TDoc.nec (h : TDoc w B D r VU VC up ca) : VC.ownBlock ≠ some r := row_ne_blk h.rc.1 h.blk (by decide)
theorem TDoc.keep (h : TDoc w B D r VU VC up ca) (hs : ∀ k, D k → w'.heap[k]? = w.heap[k]?) (hz : w.heap.size ≤ w'.heap.size) : TDoc w' B D r VU VC up ca where
  low := fun k hk => ⟨(h.low k hk).1, Nat.lt_of_lt_of_le (h.low k hk).2 hz⟩
  dr := h.dr
  du := h.du
  dc := h.dc
  blk := (hs r h.dr).trans h.blk
  ru := h.ru.keep fun k _ e => hs k (h.du k e)
  rc := h.rc.keep fun k _ e => hs k (h.dc k e)
  ap := h.ap
theorem TDoc.below (h : TDoc w B D r VU VC up ca) (hb : Below w.heap.size w w') : TDoc w' B D r VU VC up ca := h.keep (fun k hk => hb.block k (h.low k hk).2) hb.size
theorem TDoc.moved (h : TDoc w B D r VU VC up ca) {F : Nat → Prop} (hm : Moved F w w') (hd : ∀ k, D k → ¬ F k) : TDoc w' B D r VU VC up ca := h.keep (fun k hk => hm.block k (h.low k hk).2 (hd k hk)) hm.size
/-- A cause is stored. -/
theorem TDoc.put {b n c j : Nat} (h : TDoc w B D r VU (.slice (some ⟨b, 0, none⟩) n c) up ca) {y : Int} (hj : ca[j]? = some y) (x : Int) : TDoc (w.setCell ⟨b, j, none⟩ (.int .i64 x)) B D r VU (.slice (some ⟨b, 0, none⟩) n c) up (ca.set j x) where
  low := fun k hk => by simpa using h.low k hk
  dr := h.dr
  du := h.du
  dc := h.dc
  blk := (Below.heap_setCell _ _ _ _ (show r ≠ b by have := h.nec; simpa [Value.ownBlock] using fun e => this (by rw [e]; rfl))).trans h.blk
  ru := h.ru.keep fun k _ e => Below.heap_setCell _ _ _ _ (show k ≠ b from fun e' => h.ap k e (by rw [e']; rfl))
  rc := h.rc.setNum hj x
  ap := h.ap
/-- The parents' row grows. -/
theorem TDoc.growU (h : TDoc w B D r VU VC up ca) {VU' : Value} {up' : List Int} (hg : w.grownBy w' VU.ownBlock) (ho : RecW w' 0 3 1 VU' (nums1 up')) (hat : ∀ k, VU'.ownBlock = some k → VU.ownBlock = some k ∨ w.heap.size ≤ k) :
    TDoc (w'.setCell ⟨r, 0, none⟩ VU') B (fun k => D k ∨ (w.heap.size ≤ k ∧ k < w'.heap.size)) r VU' VC up' ca := by
  have hgg := (hg.block r h.lt (fun e => h.neu e.symm)).trans h.blk
  have hz := hg.size
  refine ⟨fun k hk => ?_, .inl h.dr, fun k hk => ?_, fun k hk => .inl (h.dc k hk), heap_setCell_same w' r 0 _ _ _ hgg, ?_, ?_, fun k hk e => ?_⟩
  · have : (w'.setCell ⟨r, 0, none⟩ VU').heap.size = w'.heap.size := by simp
    rw [this]
    rcases hk with hk | hk
    · have := h.low k hk; omega
    · have := h.low r h.dr; omega
  · rcases hat k hk with h1 | h1
    · exact .inl (h.du k h1)
    · exact .inr ⟨h1, (row_lt ho.1 hk).2⟩
  · exact ho.keep fun k _ e => Below.heap_setCell _ _ _ _ (fun e' => row_ne_blk ho.1 hgg (by decide) (by rw [e, e']))
  · refine (h.rc.keep fun k hk e => hg.block k hk (fun e' => h.ap k e'.symm e)).keep fun k _ e => Below.heap_setCell _ _ _ _ (fun e' => h.nec (by rw [e, e']))
  · rcases hat k hk with h1 | h1
    · exact h.ap k h1 e
    · have := (h.low k (h.dc k e)).2; omega
/-- The causes' row grows. -/
theorem TDoc.growC (h : TDoc w B D r VU VC up ca) {VC' : Value} {ca' : List Int} (hg : w.grownBy w' VC.ownBlock) (ho : RecW w' 0 3 1 VC' (nums1 ca')) (hat : ∀ k, VC'.ownBlock = some k → VC.ownBlock = some k ∨ w.heap.size ≤ k) :
    TDoc (w'.setCell ⟨r, 1, none⟩ VC') B (fun k => D k ∨ (w.heap.size ≤ k ∧ k < w'.heap.size)) r VU VC' up ca' := by
  have hgg := (hg.block r h.lt (fun e => h.nec e.symm)).trans h.blk
  have hz := hg.size
  refine ⟨fun k hk => ?_, .inl h.dr, fun k hk => .inl (h.du k hk), fun k hk => ?_, heap_setCell_same w' r 1 _ _ _ hgg, ?_, ?_, fun k hk e => ?_⟩
  · have : (w'.setCell ⟨r, 1, none⟩ VC').heap.size = w'.heap.size := by simp
    rw [this]
    rcases hk with hk | hk
    · have := h.low k hk; omega
    · have := h.low r h.dr; omega
  · rcases hat k hk with h1 | h1
    · exact .inl (h.dc k h1)
    · exact .inr ⟨h1, (row_lt ho.1 hk).2⟩
  · refine (h.ru.keep fun k hk e => hg.block k hk (fun e' => h.ap k e e'.symm)).keep fun k _ e => Below.heap_setCell _ _ _ _ (fun e' => h.neu (by rw [e, e']))
  · exact ho.keep fun k _ e => Below.heap_setCell _ _ _ _ (fun e' => row_ne_blk ho.1 hgg (by decide) (by rw [e, e']))
  · rcases hat k e with h1 | h1
    · exact h.ap k hk h1
    · have := (h.low k (h.du k hk)).2; omega
theorem dis_any (h : TDoc w B D r VU VC up ca) (n : Int) (hl : up.length ≤ 100000) :
    Calls Try.prog 21 #[.pointer (some ⟨r, 0, none⟩), .int .i64 n] w fun e w' => e = .returned (.bool (isB up n)) ∧ w = w' := by
  have c0 := h.c0
  obtain ⟨A, c, hV, -, -, -⟩ := h.ru.slice
  rw [nums1_length] at hV
  subst hV
  obtain ⟨m, hm⟩ : ∃ m, m = up.length := ⟨_, rfl⟩
  have e0 : isB up n = (decide (0 ≤ n) && decide (n < (m : Int))) := by rw [hm]; rfl
  rw [e0]
  rw [← hm] at c0 hl
  clear h hm e0
  by_cases h0 : 0 ≤ n
  · have d0 : decide (0 ≤ n) = true := by simpa using h0
    rw [d0, Bool.true_and]
    go_enter Try.func21, Try.ntmps21
    go_wp2_with fail
    go_ret
    exact ⟨rfl, rfl⟩
  · have d0 : decide (0 ≤ n) = false := by simpa using h0
    rw [d0, Bool.false_and]
    go_enter Try.func21, Try.ntmps21
    go_wp2_with fail
    go_ret
    exact ⟨rfl, rfl⟩
set_option maxHeartbeats 2000000 in
theorem dunder_any (h : TDoc w B D r VU VC up ca) (hw : WfUp up) (k n : Int) (h0 : 0 ≤ k) (hk : k < (up.length : Int)) (hl : up.length ≤ 100000) :
    Calls Try.prog 22 #[.pointer (some ⟨r, 0, none⟩), .int .i64 k, .int .i64 n] w fun e w' => e = .returned (.bool (undB up k n)) ∧ w = w' := by
  have c0 := h.c0
  have HU := Lib.hid h.ru
  have HW := Lib.hid hw
  obtain ⟨A, c, hV, hcl, hcm, -⟩ := h.ru.slice
  rw [nums1_length] at hV hcl
  subst hV
  obtain ⟨m, hm⟩ : ∃ m, m = up.length := ⟨_, rfl⟩
  have HM := Lib.hid hm
  rw [← hm] at c0 hl hk
  clear h hw hcl hcm hm
  go_enter Try.func22, Try.ntmps22
  go_wp2
  go_loopw [1] (fun vk wr => ∃ q : Int, vk = .int .i64 q ∧ 0 ≤ q ∧ q < (m : Int) ∧ Hid (undB up k n = undB up q n ∧ w = wr)) (fun vk _ => (intOf vk).toNat)
  case atStart => exact ⟨k, rfl, h0, hk, Lib.hid ⟨rfl, rfl⟩⟩
  case round =>
    obtain ⟨q, rfl, q0, q1, HO⟩ := hrel
    obtain ⟨he, rfl⟩ := HO.out
    have HE := Lib.hid he
    clear he
    by_cases hq : 0 < q
    · obtain ⟨j, rfl⟩ : ∃ j : Nat, q = (j : Int) := ⟨q.toNat, by omega⟩
      obtain ⟨y, hy⟩ : ∃ y, up[j]? = some y := ⟨_, List.getElem?_eq_getElem (by rw [← HM.out]; omega)⟩
      obtain ⟨b, c', hV, _, hbw, hc, _, hlc, hcm⟩ := HU.out.num hy
      injection hV with hA _ hcc
      subst hA hcc
      have e1 : up.getD j 0 = y := by simp [List.getD, hy]
      obtain ⟨p0, p1⟩ := HW.out.step (k := (j : Int)) hq (by rw [← HM.out]; exact q1)
      have hst := undB_step (n := n) HW.out hq (by rw [← HM.out]; exact q1)
      rw [Int.toNat_natCast, e1] at hst p0 p1
      have HST := Lib.hid hst
      clear hst hy e1 hlc
      by_cases hyn : y = n
      · subst hyn
        go_wp2_with fail
        go_ret
        rw [HE.out, HST.out, if_pos trivial]
        exact ⟨rfl, rfl⟩
      · have hyb : (y == n) = false := by simpa using hyn
        go_wp2_with fail
        refine ⟨⟨y, rfl, p0, by omega, Lib.hid ⟨?_, trivial⟩⟩, by simp [intOf]; omega⟩
        rw [HE.out, HST.out, if_neg hyn]
    · have hq0 : q = 0 := by omega
      subst hq0
      go_wp2_with fail
      go_ret
      rw [HE.out, undB_root]
      exact ⟨rfl, rfl⟩
end
end Go.Proofs.Ytcgjpmokhpcnnaa
