/- The contract of the source's give. -/
import Derived.Test.YtgmaiickfpgeoaaSrc
import Derived.BigRegion
namespace Go.Proofs.Ytgmaiickfpgeoaa
open Go Go.RowKit
set_option linter.unusedVariables false

/-- What the answer's copy leaves of the world. -/
theorem src_after {w w4 w5 : World} {B U g : Nat} {ps : List (List Int)} {e G L : Int} {v : Value} {n : Nat} {xs : List Value} (hs : Src w4 B U g ps e G L) (ht : Touch B U w w4) (hsz : w4.heap.size = w.heap.size) (hown : w5.ownsRow w4.heap.size 5 1 v n xs) (hb : Below w4.heap.size w4 w5) :
    w5.ownsRow w.heap.size 5 1 v n xs ∧ Src w5 B U g ps e G L ∧ Touch B U w w5 :=
  ⟨own_mono1 hown (by omega), hs.below hb hs.2.2.1, ht.trans (Touch.of_below hb (Nat.le_trans (Nat.le_of_lt (Nat.lt_of_le_of_lt hs.1 hs.2.1)) hs.2.2.1))⟩

set_option maxHeartbeats 1000000 in
theorem give_part {w : World} {B U g gl o pc b ob d : Nat} {cur : Array Value} {p : List Int} {ps : List (List Int)} {e given left : Int} (h : SrcC w B U g gl o pc b ob d cur p ps e given left) (n : Nat) (h0 : 0 < n) (hn : n < p.length)
    (hG : 0 ≤ given ∧ given ≤ 1000000) (hL : -1000000 ≤ left ∧ left ≤ 1000000) :
    Calls Try.prog 21 #[.pointer (some ⟨g, 0, none⟩), .int .i64 (n : Int)] w fun e' w' => ∃ v, e' = .returned v ∧ w'.ownsRow w.heap.size 5 1 v n ((p.take n).map (Value.int .u8)) ∧ Src w' B U g (p.drop n :: ps) e (given + n) (left - n) ∧ Touch B U w w' := by
  have c0 := h.c0
  have c2 := h.c2
  have c3 := h.c3
  have cl := h.cl
  have fz2 := h.fz 2
  have fz3 := h.fz 3
  have fl := h.fl o
  have hne := h.hne
  have hne2 : g ≠ gl := fun e => hne e.symm
  obtain ⟨r1, r2, r3, r4, r5, r6, r7, r8, r9⟩ := h.len
  have hfr := slice_at b ob p.length d n (by omega) (by omega)
  have hup := fun w => slice_upto (some ⟨b, ob, none⟩) p.length d n (by omega) w
  have hfew := h.few
  obtain ⟨m, hm⟩ : ∃ m, m = ps.length + 1 := ⟨_, rfl⟩
  rw [← hm] at c0
  have hm0 : 0 < m := by omega
  have hm1 : m ≤ 1000 := by omega
  have hlt : decide ((n : Int) < (p.length : Int)) = true := by simp; omega
  have hcl := fun w' (hr : RowI .u8 w' (some ⟨b, ob, none⟩) n (p.take n)) => clone_any (some ⟨b, ob, none⟩) n d (p.take n) w' hr (fun h => by cases h) (by omega)
  have HCL := Lib.hid hcl; clear hcl
  have H := Lib.hid h; clear h
  have HR := Lib.hid r5; clear r5
  have HM := Lib.hid hm; clear hm
  clear hfew
  go_enter Try.func21, Try.ntmps21
  go_wp2_with fail
  go_region
  go_wp2_with fail
  obtain ⟨W4, hW4⟩ : ∃ W4, W4 = ((((w.setCell ⟨gl, o, none⟩ (.slice (some ⟨b, ob + n, none⟩) (p.length - n) (d - n))).setCell ⟨g, 2, none⟩ (.int .i64 (given + n))).setCell ⟨g, 3, none⟩ (.int .i64 (left - n))).drew) := ⟨_, rfl⟩
  have hheap : W4.heap = ((((w.setCell ⟨gl, o, none⟩ (.slice (some ⟨b, ob + n, none⟩) (p.length - n) (d - n))).setCell ⟨g, 2, none⟩ (.int .i64 (given + n))).setCell ⟨g, 3, none⟩ (.int .i64 (left - n)))).heap := by rw [hW4]; rfl
  have ht : Touch B U w W4 := by
    rw [hW4]
    exact Touch.drewN ((((Touch.refl B U w).setCell (p := ⟨gl, o, none⟩) H.out.lB H.out.lU _).setCell (p := ⟨g, 2, none⟩) H.out.hB H.out.hU _).setCell (p := ⟨g, 3, none⟩) H.out.hB H.out.hU _) 1
  have hs4 := H.out.part n hn (given + n) (left - n) hheap
  have hsz : W4.heap.size = w.heap.size := by rw [hheap]; simp [World.setCell]
  have hr4 : RowI .u8 W4 (some ⟨b, ob, none⟩) p.length p := by
    refine ⟨rfl, fun _ => ?_⟩
    obtain ⟨b', o', hA, hl, hc⟩ := HR.out.2 r3
    injection hA with hA
    injection hA with e1 e2
    subst e1; subst e2
    refine ⟨b, ob, rfl, by rw [hsz]; exact hl, fun j hj => ?_⟩
    rw [← hc j hj]
    refine World.cell?_of_block ?_
    show W4.heap[b]? = _
    rw [hheap, Below.heap_setCell _ _ _ _ (by simpa using r8), Below.heap_setCell _ _ _ _ (by simpa using r8), Below.heap_setCell _ _ _ _ (by simpa using r9)]
  rw [← hW4]
  have HT := Lib.hid ht; clear ht
  have HS4 := Lib.hid hs4; clear hs4
  clear hW4 hheap
  refine (HCL.out _ (hr4.to (by omega))).mono ?_; rintro e' w5 ⟨v, rfl, hown, hb5⟩
  have hfin := Lib.hid (src_after HS4.out HT.out hsz hown hb5)
  clear hown hb5 hsz hr4
  go_wp2_with fail
  go_ret
  exact ⟨v, rfl, hfin.out.1, hfin.out.2.1, hfin.out.2.2⟩

set_option maxHeartbeats 1000000 in
theorem give_last {w : World} {B U g gl o pc b ob d : Nat} {cur : Array Value} {p : List Int} {ps : List (List Int)} {e given left : Int} (h : SrcC w B U g gl o pc b ob d cur p ps e given left) (n : Nat) (hn : n = p.length)
    (hG : 0 ≤ given ∧ given ≤ 1000000) (hL : -1000000 ≤ left ∧ left ≤ 1000000) :
    Calls Try.prog 21 #[.pointer (some ⟨g, 0, none⟩), .int .i64 (n : Int)] w fun e' w' => ∃ v, e' = .returned v ∧ w'.ownsRow w.heap.size 5 1 v n ((p.take n).map (Value.int .u8)) ∧ Src w' B U g ps e (given + n) (left - n) ∧ Touch B U w w' := by
  have c0 := h.c0
  have c2 := h.c2
  have c3 := h.c3
  have cl := h.cl
  have fz0 := h.fz 0
  have fz2 := h.fz 2
  have fz3 := h.fz 3
  have hne := h.hne
  have hne2 : g ≠ gl := fun e => hne e.symm
  obtain ⟨r1, r2, r3, r4, r5, r6, r7, r8, r9⟩ := h.len
  have hup := fun w => slice_upto (some ⟨b, ob, none⟩) p.length d p.length (by omega) w
  have hfew := h.few
  have hcap := h.cap
  obtain ⟨o', ho', hfr⟩ := list_from gl o (ps.length + 1) pc (by omega) hcap
  obtain ⟨m, hm⟩ : ∃ m, m = ps.length + 1 := ⟨_, rfl⟩
  rw [← hm] at c0 hfr
  have hm0 : 0 < m := by omega
  have hm1 : m ≤ 1000 := by omega
  subst hn
  have hcl := fun w' (hr : RowI .u8 w' (some ⟨b, ob, none⟩) p.length (p.take p.length)) => clone_any (some ⟨b, ob, none⟩) p.length d (p.take p.length) w' hr (fun h => by cases h) (by omega)
  have HCL := Lib.hid hcl; clear hcl
  have H := Lib.hid h; clear h
  have HR := Lib.hid r5; clear r5
  have HM := Lib.hid hm; clear hm
  have HO := Lib.hid ho'; clear ho'
  clear hfew
  go_enter Try.func21, Try.ntmps21
  go_wp2_with fail
  obtain ⟨W4, hW4⟩ : ∃ W4, W4 = (((w.setCell ⟨g, 0, none⟩ (.slice (some ⟨gl, o', none⟩) (m - 1) (pc - 1))).setCell ⟨g, 2, none⟩ (.int .i64 (given + p.length))).setCell ⟨g, 3, none⟩ (.int .i64 (left - p.length))) := ⟨_, rfl⟩
  have hheap : W4.heap = (((w.setCell ⟨g, 0, none⟩ (.slice (some ⟨gl, o', none⟩) ps.length (pc - 1))).setCell ⟨g, 2, none⟩ (.int .i64 (given + p.length))).setCell ⟨g, 3, none⟩ (.int .i64 (left - p.length))).heap := by rw [hW4, HM.out]; rfl
  have ht : Touch B U w W4 := by
    rw [hW4]
    exact (((Touch.refl B U w).setCell (p := ⟨g, 0, none⟩) H.out.hB H.out.hU _).setCell (p := ⟨g, 2, none⟩) H.out.hB H.out.hU _).setCell (p := ⟨g, 3, none⟩) H.out.hB H.out.hU _
  have hs4 := H.out.last o' (fun h => HO.out (by omega)) (given + p.length) (left - p.length) hheap
  have hsz : W4.heap.size = w.heap.size := by rw [hheap]; simp [World.setCell]
  have hr4 : RowI .u8 W4 (some ⟨b, ob, none⟩) p.length p := by
    refine ⟨rfl, fun _ => ?_⟩
    obtain ⟨b', o', hA, hl, hc⟩ := HR.out.2 r3
    injection hA with hA
    injection hA with e1 e2
    subst e1; subst e2
    refine ⟨b, ob, rfl, by rw [hsz]; exact hl, fun j hj => ?_⟩
    rw [← hc j hj]
    refine World.cell?_of_block ?_
    show W4.heap[b]? = _
    rw [hheap, Below.heap_setCell _ _ _ _ (by simpa using r8), Below.heap_setCell _ _ _ _ (by simpa using r8), Below.heap_setCell _ _ _ _ (by simpa using r8)]
  rw [← hW4]
  have HT := Lib.hid ht; clear ht
  have HS4 := Lib.hid hs4; clear hs4
  clear hW4 hheap
  refine (HCL.out _ (hr4.to (Nat.le_refl _))).mono ?_; rintro e' w5 ⟨v, rfl, hown, hb5⟩
  have hfin := Lib.hid (src_after HS4.out HT.out hsz hown hb5)
  clear hown hb5 hsz hr4
  go_wp2_with fail
  go_ret
  exact ⟨v, rfl, hfin.out.1, hfin.out.2.1, hfin.out.2.2⟩

/-- give: the next n octets of the piece it is in. -/
theorem give_any {w : World} {B U g : Nat} {p : List Int} {ps : List (List Int)} {e given left : Int} (h : Src w B U g (p :: ps) e given left) (hf : Full (p :: ps)) (n : Nat) (h0 : 0 < n) (hn : n ≤ p.length)
    (hG : 0 ≤ given ∧ given ≤ 1000000) (hL : -1000000 ≤ left ∧ left ≤ 1000000) :
    Calls Try.prog 21 #[.pointer (some ⟨g, 0, none⟩), .int .i64 (n : Int)] w fun e' w' => ∃ v, e' = .returned v ∧ w'.ownsRow w.heap.size 5 1 v n ((p.take n).map (Value.int .u8)) ∧ Src w' B U g (dropP n (p :: ps)) e (given + n) (left - n) ∧ Touch B U w w' := by
  obtain ⟨gl, o, pc, b, ob, d, cur, hc⟩ := h.cons
  rw [dropP_first p ps n hf hn]
  by_cases hlt : n < p.length
  · rw [if_pos hlt]
    exact give_part hc n h0 hlt hG hL
  · rw [if_neg hlt]
    exact give_last hc n (by omega) hG hL
end Go.Proofs.Ytgmaiickfpgeoaa
