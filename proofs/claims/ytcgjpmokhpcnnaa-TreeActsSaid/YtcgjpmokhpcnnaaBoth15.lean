/- Both trees side by side: the program's and the document's, other blocks beside them. -/
import Derived.Test.YtcgjpmokhpcnnaaTprC
import Derived.Test.YtcgjpmokhpcnnaaTreC
import Derived.Test.YtcgjpmokhpcnnaaLawFull15
import Derived.Test.YtcgjpmokhpcnnaaTreW
import Derived.Test.YtcgjpmokhpcnnaaActs15
namespace Go.Proofs.Ytcgjpmokhpcnnaa
open Go Go.RowKit
set_option linter.unusedVariables false
set_option maxRecDepth 20000

/-- Both trees behind a world, and other blocks. -/
def Both15 (w0 w : World) (cs : List (Nat × Obj)) (g r : Nat) (up ca up2 ca2 : List Int) : Prop :=
  ∃ F D, TreS TPt w0 w F g up ca ∧ TDS w w0.heap.size D r up2 ca2 ∧ (WfUp up2 ∧ ca2.length = up2.length ∧ up2.length ≤ 256) ∧ (∀ k, D k → ¬ F k) ∧ ∀ p ∈ cs, w.heap[p.1]? = some p.2 ∧ ¬ F p.1 ∧ ¬ D p.1
theorem TDS.keep {w w' : World} {B r : Nat} {D : Nat → Prop} {up ca : List Int} (h : TDS w B D r up ca) (hs : ∀ k, D k → w'.heap[k]? = w.heap[k]?) (hz : w.heap.size ≤ w'.heap.size) : TDS w' B D r up ca := by
  obtain ⟨VU, VC, h⟩ := h
  exact ⟨VU, VC, h.keep hs hz⟩
theorem TDS.low {w : World} {B r : Nat} {D : Nat → Prop} {up ca : List Int} (h : TDS w B D r up ca) : ∀ k, D k → B ≤ k ∧ k < w.heap.size := by
  obtain ⟨VU, VC, h⟩ := h
  exact h.low
theorem heap_lt {w : World} {k : Nat} {o : Obj} (h : w.heap[k]? = some o) : k < w.heap.size := (Array.getElem?_eq_some_iff.1 h).1
section
variable {w0 w w' : World} {cs : List (Nat × Obj)} {g r : Nat} {up ca up2 ca2 : List Int}
theorem Both15.to (h : Both15 w0 w cs g r up ca up2 ca2) : Below w0.heap.size w0 w := by
  obtain ⟨F, D, h, _⟩ := h
  exact h.to
theorem Both15.tre (h : Both15 w0 w cs g r up ca up2 ca2) : Tre TPt w0 w g up ca := by
  obtain ⟨F, D, h, _⟩ := h
  exact ⟨F, h⟩
theorem Both15.at (h : Both15 w0 w cs g r up ca up2 ca2) {p : Nat × Obj} (hp : p ∈ cs) : w.heap[p.1]? = some p.2 := by
  obtain ⟨F, D, _, _, _, _, h⟩ := h
  exact (h p hp).1
theorem Both15.free (h : Both15 w0 w cs g r up ca up2 ca2) : Both15 w0 w [] g r up ca up2 ca2 := by
  obtain ⟨F, D, h1, h2, h3, h4, _⟩ := h
  exact ⟨F, D, h1, h2, h3, h4, fun p hp => nomatch hp⟩
theorem Both15.below (h : Both15 w0 w cs g r up ca up2 ca2) (hb : Below w.heap.size w w') : Both15 w0 w' cs g r up ca up2 ca2 := by
  obtain ⟨F, D, h1, h2, h3, h4, h5⟩ := h
  exact ⟨F, D, TreS.keep treF h1 (fun k hk => hb.block k (treF.low h1.p k hk)) hb.size (h1.to.trans (hb.mono h1.to.size)), h2.keep (fun k hk => hb.block k (h2.low k hk).2) hb.size, h3, h4, fun p hp => ⟨(hb.block p.1 (heap_lt (h5 p hp).1)).trans (h5 p hp).1, (h5 p hp).2⟩⟩
/-- A block is made. -/
theorem Both15.alloc (h : Both15 w0 w cs g r up ca up2 ca2) (o : Obj) : Both15 w0 (w.alloc o) ((w.heap.size, o) :: cs) g r up ca up2 ca2 := by
  have hb := (Below.refl w.heap.size w).alloc (Nat.le_refl _) o
  obtain ⟨F, D, h1, h2, h3, h4, h5⟩ := h.below hb
  obtain ⟨F', D', g1, g2, _⟩ := id h
  obtain ⟨F, D, h1, h2, h3, h4, h5⟩ := h
  refine ⟨F, D, TreS.keep treF h1 (fun k hk => hb.block k (treF.low h1.p k hk)) hb.size (h1.to.trans (hb.mono h1.to.size)), h2.keep (fun k hk => hb.block k (h2.low k hk).2) hb.size, h3, h4, fun p hp => ?_⟩
  rcases List.mem_cons.1 hp with rfl | hp
  · exact ⟨heap_alloc_new w o, fun e => by have := treF.low h1.p _ e; omega, fun e => by have := (h2.low _ e).2; omega⟩
  · exact ⟨(hb.block p.1 (heap_lt (h5 p hp).1)).trans (h5 p hp).1, (h5 p hp).2⟩
/-- The program's tree takes a step. -/
theorem Both15.stepP {F F' D : Nat → Prop} {up' ca' : List Int} (h1 : TreS TPt w0 w F g up ca) (h2 : TDS w w0.heap.size D r up2 ca2) (h3 : WfUp up2 ∧ ca2.length = up2.length ∧ up2.length ≤ 256) (h4 : ∀ k, D k → ¬ F k) (h5 : ∀ p ∈ cs, w.heap[p.1]? = some p.2 ∧ ¬ F p.1 ∧ ¬ D p.1)
    (hp : TPt w' F' g up' ca') (hs : Step F F' w w') (hw : WfUp up') (hc : ca'.length = up'.length) (hu : up'.length ≤ 256) : Both15 w0 w' cs g r up' ca' up2 ca2 := by
  refine ⟨F', D, h1.step hp hs hw hc hu, h2.keep (fun k hk => hs.1.block k (h2.low k hk).2 (h4 k hk)) hs.1.size, h3, fun k hk hf => ?_, fun p hp => ?_⟩
  · rcases hs.2 k hf with e | e
    · exact h4 k hk e
    · have := (h2.low k hk).2; omega
  · have hlt := heap_lt (h5 p hp).1
    refine ⟨(hs.1.block p.1 hlt (h5 p hp).2.1).trans (h5 p hp).1, fun hf => ?_, (h5 p hp).2.2⟩
    rcases hs.2 _ hf with e | e
    · exact (h5 p hp).2.1 e
    · omega
/-- The document's tree takes a step. -/
theorem Both15.stepD {F D D' : Nat → Prop} {up' ca' : List Int} (h1 : TreS TPt w0 w F g up ca) (h2 : TDS w w0.heap.size D r up2 ca2) (h4 : ∀ k, D k → ¬ F k) (h5 : ∀ p ∈ cs, w.heap[p.1]? = some p.2 ∧ ¬ F p.1 ∧ ¬ D p.1)
    (hp : TDS w' w0.heap.size D' r up' ca') (hs : Step D D' w w') (h3 : WfUp up' ∧ ca'.length = up'.length ∧ up'.length ≤ 256) : Both15 w0 w' cs g r up ca up' ca' := by
  have hlow := treF.low h1.p
  refine ⟨F, D', TreS.keep treF h1 (fun k hk => hs.1.block k (hlow k hk) (fun e => h4 k e hk)) hs.1.size (h1.to.trans (hs.1.below (fun k hk => (h2.low k hk).1) h1.to.size)), hp, h3, fun k hk hf => ?_, fun p hp => ?_⟩
  · rcases hs.2 k hk with e | e
    · exact h4 k e hf
    · have := hlow k hf; omega
  · have hlt := heap_lt (h5 p hp).1
    refine ⟨(hs.1.block p.1 hlt (h5 p hp).2.2).trans (h5 p hp).1, (h5 p hp).2.1, fun hf => ?_⟩
    rcases hs.2 _ hf with e | e
    · exact (h5 p hp).2.2 e
    · omega
/-- Both begin. -/
theorem bNewD (h : Tre TPt w0 w g up ca) : Calls Try.prog 9 #[] w fun e w' => ∃ r, e = .returned (.pointer (some ⟨r, 0, none⟩)) ∧ Both15 w0 w' [] g r up ca [-1] [0] := by
  obtain ⟨F, h⟩ := h
  refine (dnew_any w).mono fun e w' hh => ?_
  obtain ⟨r, D, he, hd, hb⟩ := hh
  have hdl := hd.low
  refine ⟨r, he, F, D, TreS.keep treF h (fun k hk => hb.block k (treF.low h.p k hk)) hb.size (h.to.trans (hb.mono h.to.size)), ?_, ⟨wf_one, rfl, by decide⟩, fun k hk hf => ?_, fun p hp => nomatch hp⟩
  · obtain ⟨VU, VC, hd⟩ := hd
    exact ⟨VU, VC, { hd with low := fun k hk => ⟨Nat.le_trans h.to.size (hd.low k hk).1, (hd.low k hk).2⟩ }⟩
  · have := (hdl k hk).1
    have := treF.low h.p k hf
    omega
theorem bAddP (h : Both15 w0 w cs g r up ca up2 ca2) (n : Int) : Calls Try.prog 10 #[.pointer (some ⟨g, 0, none⟩), .int .i64 n] w fun e w' => e = .returned (.tuple #[.int .i64 (addX up n), .int .i64 (addE up n)]) ∧ Both15 w0 w' cs g r (addU up n) (addC up ca n) up2 ca2 := by
  obtain ⟨F, D, h1, h2, h3, h4, h5⟩ := h
  refine (treF.add n h1.p h1.wf h1.cl h1.ul).mono fun e w' hh => ?_
  obtain ⟨he, F', hp, hs⟩ := hh
  exact ⟨he, Both15.stepP h1 h2 h3 h4 h5 hp hs (addU_wf h1.wf n) (addU_len h1.cl n) (addU_le h1.ul n)⟩
theorem bAddD (h : Both15 w0 w cs g r up ca up2 ca2) (n : Int) : Calls Try.prog 11 #[.pointer (some ⟨r, 0, none⟩), .int .i64 n] w fun e w' => e = .returned (.tuple #[.int .i64 (addX up2 n), .int .i64 (addE up2 n)]) ∧ Both15 w0 w' cs g r up ca (addU up2 n) (addC up2 ca2 n) := by
  obtain ⟨F, D, h1, h2, h3, h4, h5⟩ := h
  refine (dadd_any h2 h3.2.1 n h3.2.2).mono fun e w' hh => ?_
  obtain ⟨he, D', hp, hs⟩ := hh
  exact ⟨he, Both15.stepD h1 h2 h4 h5 hp hs ⟨addU_wf h3.1 n, addU_len h3.2.1 n, addU_le h3.2.2 n⟩⟩
theorem bCanP (h : Both15 w0 w cs g r up ca up2 ca2) (n cause : Int) : Calls Try.prog 12 #[.pointer (some ⟨g, 0, none⟩), .int .i64 n, .int .i64 cause] w fun e w' => e = .returned (.tuple #[.int .i64 (if canE up n cause = 0 then (canN up ca n up.length : Int) else 0), .int .i64 (canE up n cause)]) ∧ Both15 w0 w' cs g r up (if canE up n cause = 0 then canC up ca n cause up.length else ca) up2 ca2 := by
  obtain ⟨F, D, h1, h2, h3, h4, h5⟩ := h
  refine (treF.can n cause h1.p h1.wf h1.cl h1.ul).mono fun e w' hh => ?_
  obtain ⟨he, F', hp, hs⟩ := hh
  exact ⟨he, Both15.stepP h1 h2 h3 h4 h5 hp hs h1.wf (by split <;> simp [canC_length, h1.cl]) h1.ul⟩
theorem bCanD (h : Both15 w0 w cs g r up ca up2 ca2) (n cause : Int) : Calls Try.prog 13 #[.pointer (some ⟨r, 0, none⟩), .int .i64 n, .int .i64 cause] w fun e w' => e = .returned (.tuple #[.int .i64 (if canE up2 n cause = 0 then (canN up2 ca2 n up2.length : Int) else 0), .int .i64 (canE up2 n cause)]) ∧ Both15 w0 w' cs g r up ca up2 (if canE up2 n cause = 0 then canC up2 ca2 n cause up2.length else ca2) := by
  obtain ⟨F, D, h1, h2, h3, h4, h5⟩ := h
  refine (dcan_any h2 h3.1 h3.2.1 n cause (by omega)).mono fun e w' hh => ?_
  obtain ⟨he, hp, hs⟩ := hh
  exact ⟨he, Both15.stepD h1 h2 h4 h5 hp hs ⟨h3.1, by split <;> simp [canC_length, h3.2.1], h3.2.2⟩⟩
/-- Below, of both. -/
theorem bBelP (h : Both15 w0 w cs g r up ca up2 ca2) (n : Int) : Calls Try.prog 16 #[.pointer (some ⟨g, 0, none⟩), .int .i64 n] w fun e w' => ∃ A c, e = .returned (.slice A (belL up n up.length).length c) ∧ RecW w' w.heap.size 3 1 (.slice A (belL up n up.length).length c) (nums1 (belL up n up.length)) ∧ Below w.heap.size w w' := by
  obtain ⟨F, D, h1, _⟩ := h
  refine (below_any h1.p h1.wf h1.cl n (by have := h1.ul; omega)).mono fun e w' hh => ?_
  obtain ⟨U, he, hr, hb⟩ := hh
  obtain ⟨A, c, hU, -⟩ := hr.slice
  rw [nums1_length] at hU
  subst hU
  exact ⟨A, c, he, hr, hb⟩
theorem bBelD (h : Both15 w0 w cs g r up ca up2 ca2) (n : Int) : Calls Try.prog 17 #[.pointer (some ⟨r, 0, none⟩), .int .i64 n] w fun e w' => ∃ A c, e = .returned (.slice A (belL up2 n up2.length).length c) ∧ RecW w' w.heap.size 3 1 (.slice A (belL up2 n up2.length).length c) (nums1 (belL up2 n up2.length)) ∧ Below w.heap.size w w' := by
  obtain ⟨F, D, _, h2, h3, _⟩ := h
  refine (dbelow_any h2 h3.1 n (by have := h3.2.2; omega)).mono fun e w' hh => ?_
  obtain ⟨U, he, hr, hb⟩ := hh
  obtain ⟨A, c, hU, -⟩ := hr.slice
  rw [nums1_length] at hU
  subst hU
  exact ⟨A, c, he, hr, hb⟩
/-- The document's two rows. -/
theorem Both15.doc (h : Both15 w0 w cs g r up ca up2 ca2) : ∃ A c A2 c2, w.cell? ⟨r, 0, none⟩ = some (.slice A up2.length c) ∧ w.cell? ⟨r, 1, none⟩ = some (.slice A2 up2.length c2) ∧
    ∀ k, k < up2.length → ∃ b b2, A = some ⟨b, 0, none⟩ ∧ A2 = some ⟨b2, 0, none⟩ ∧ w.cell? ⟨b, k, none⟩ = some (.int .i64 (up2.getD k 0)) ∧ w.cell? ⟨b2, k, none⟩ = some (.int .i64 (ca2.getD k 0)) := by
  obtain ⟨F, D, _, ⟨VU, VC, h2⟩, h3, _⟩ := h
  have c0 := h2.c0
  have c1 := h2.c1
  obtain ⟨A, c, hV, -⟩ := h2.ru.slice
  obtain ⟨A2, c2, hV2, -⟩ := h2.rc.slice
  rw [nums1_length] at hV hV2
  rw [h3.2.1] at hV2
  subst hV hV2
  refine ⟨A, c, A2, c2, c0, c1, fun k hk => ?_⟩
  obtain ⟨b, c', e1, _, _, d1, _⟩ := h2.ru.num (j := k) (x := up2.getD k 0) (by simp [List.getD, List.getElem?_eq_getElem hk])
  obtain ⟨b2, c2', e2, _, _, d2, _⟩ := h2.rc.num (j := k) (x := ca2.getD k 0) (by simp [List.getD, List.getElem?_eq_getElem (show k < ca2.length by rw [h3.2.1]; exact hk)])
  injection e1 with e1 _ _
  injection e2 with e2 _ _
  exact ⟨b, b2, e1, e2, d1, d2⟩
theorem Both15.lens (h : Both15 w0 w cs g r up ca up2 ca2) : ca.length = up.length ∧ up.length ≤ 256 ∧ 0 < up.length := by
  obtain ⟨F, D, h1, _⟩ := h
  exact ⟨h1.cl, h1.ul, h1.wf.1⟩
end
set_option maxHeartbeats 1000000 in
/-- Two slices that read as the same list. -/
theorem ints15 (A D : Option Addr) (n c d B B2 : Nat) (xs : List Int) (w : World) (hA : RecW w B 3 1 (.slice A n c) (nums1 xs)) (hD : RecW w B2 3 1 (.slice D n d) (nums1 xs)) (hn : n ≤ 1000) (hxn : xs.length = n) :
    Calls Try.prog 15 #[.slice A n c, .slice D n d] w fun e w' => e = .returned (.bool true) ∧ Below w.heap.size w w' := by
  have HA := Lib.hid hA
  have HD := Lib.hid hD
  have HX := Lib.hid hxn
  clear hA hD hxn
  go_enter Try.func15, Try.ntmps15
  go_wp2_with fail
  go_loopw [5] (fun v5 wr => ∃ (i q : Nat), i ≤ n ∧ v5 = .int .i64 (i : Int) ∧ Hid (w.drewN q = wr)) (fun v5 _ => n - (intOf v5).toNat)
  case atStart => exact ⟨0, 0, by omega, rfl, Lib.hid rfl⟩
  case round =>
    obtain ⟨i, q, hi, rfl, HQ⟩ := hrel
    by_cases hlt : i < n
    · obtain ⟨x, hx⟩ : ∃ x, xs[i]? = some x := ⟨_, List.getElem?_eq_getElem (by rw [HX.out]; exact hlt)⟩
      obtain ⟨b1, c1, e1, _, _, k1, _⟩ := HA.out.num hx
      obtain ⟨b2, c2, e2, _, _, k2, _⟩ := HD.out.num hx
      injection e1 with e1 e1b e1c
      injection e2 with e2 e2b e2c
      subst e1 e2
      clear e1b e1c e2b e2c hx
      have k1 : wr.cell? ⟨b1, i, none⟩ = some (.int .i64 x) := by rw [← HQ.out]; exact k1
      have k2 : wr.cell? ⟨b2, i, none⟩ = some (.int .i64 x) := by rw [← HQ.out]; exact k2
      have hl1 : (i : Int) < (n : Int) := by omega
      have hl0 : (0 : Int) ≤ (i : Int) := by omega
      go_wp2_with fail
      go_quiet (fail)
      go_wp2_with fail
      refine ⟨⟨i + 1, q + nq, by omega, by go_num, Lib.hid (by rw [← HQ.out]; simp)⟩, by simp [intOf]; omega⟩
    · have HB : Hid (Below w.heap.size w wr) := Lib.hid (by rw [← HQ.out]; exact below_drewN (Below.refl _ _) q)
      go_wp2_with fail
      go_ret
      exact ⟨rfl, HB.out⟩
end Go.Proofs.Ytcgjpmokhpcnnaa
