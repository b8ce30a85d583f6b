/- The program's tree: the nodes below one, one way up the numbers. -/
import Derived.Test.YtcgjpmokhpcnnaaTprA
import Derived.Test.YtcgjpmokhpcnnaaTreB
namespace Go.Proofs.Ytcgjpmokhpcnnaa
open Go Go.RowKit
set_option linter.unusedVariables false
set_option maxRecDepth 20000

theorem info_bool15 : (Try.prog.info? 4).map (fun i => (i.zero, i.size, i.bytes)) = some (some (.bool false), 1, 1) := by kernel_rfl
/-- Is k the node n, or below it, and of the first m? -/
def inF (up : List Int) (n m k : Nat) : Bool := decide (k < m) && (decide (k = n) || undB up (k : Int) (n : Int))
section
variable {up ca : List Int}
theorem bel_none (hw : WfUp up) {n : Nat} (hn : n < up.length) : belL up (n : Int) (n + 1) = [] := by
  unfold belL
  rw [List.filter_eq_nil_iff.2 fun k hk => ?_]
  · rfl
  · have hk := List.mem_range.1 hk
    intro h
    simp only [Bool.and_eq_true] at h
    have := undB_lt hw (n : Int) k (k : Int) (by omega) (by omega) (by omega) h.2
    omega
theorem inF_begin (hw : WfUp up) {n : Nat} (hn : n < up.length) (k : Nat) : (if k = n then Value.bool true else Value.bool false) = Value.bool (inF up n (n + 1) k) := by
  unfold inF
  by_cases h : k = n
  · subst h; simp
  · rw [if_neg h]
    by_cases h1 : k < n + 1
    · have : undB up (k : Int) (n : Int) = false := by
        rcases hu : undB up (k : Int) (n : Int) with _ | _
        · rfl
        · have := undB_lt hw (n : Int) k (k : Int) (by omega) (by omega) (by omega) hu
          omega
      simp [this, h]
    · simp [h1]
/-- A node is below, if the one above it is the node, or below. -/
theorem inF_up (hw : WfUp up) {n i : Nat} (hni : n < i) (hi : i < up.length) : ∃ p : Nat, up.getD i 0 = (p : Int) ∧ p < i ∧ inF up n i p = undB up (i : Int) (n : Int) := by
  obtain ⟨p0, p1⟩ := hw.2.2 i (by omega) hi
  have hst := undB_step (n := (n : Int)) (k := (i : Int)) hw (by omega) (by omega)
  rw [Int.toNat_natCast] at hst
  rw [hst]
  obtain ⟨q, hq⟩ : ∃ q, q = up.getD i 0 := ⟨_, rfl⟩
  rw [← hq] at p0 p1 ⊢
  obtain ⟨p, rfl⟩ : ∃ p : Nat, q = (p : Int) := ⟨q.toNat, by omega⟩
  refine ⟨p, rfl, by omega, ?_⟩
  unfold inF
  rw [show decide (p < i) = true by simpa using p1, Bool.true_and]
  by_cases h : p = n
  · simp [h]
  · have h2 : ¬ (p : Int) = (n : Int) := by omega
    rw [if_neg h2]
    simp [h]
theorem inF_next {n i : Nat} (hni : n < i) (k : Nat) : inF up n (i + 1) k = if k = i then undB up (i : Int) (n : Int) else inF up n i k := by
  unfold inF
  by_cases h : k = i
  · subst h
    have : ¬ k = n := by omega
    simp [this]
  · rw [if_neg h]
    have : decide (k < i + 1) = decide (k < i) := by
      by_cases h1 : k < i
      · simp [h1, show k < i + 1 by omega]
      · simp [h1, show ¬ k < i + 1 by omega]
    rw [this]
end
section
variable {w w' : World} {g : Nat} {F : Nat → Prop} {V : Value} {up ca : List Int}
set_option maxHeartbeats 2000000 in
theorem below_no (h : TPr w F g V up ca) (hc : ca.length = up.length) (n : Int) (hl : up.length ≤ 1000) (hn : isB up n = false) :
    Calls Try.prog 16 #[.pointer (some ⟨g, 0, none⟩), .int .i64 n] w fun e w' => e = .returned (.slice none 0 0) ∧ w = w' := by
  have HI := Lib.hid (has_any h hc n (by omega))
  rw [hn] at HI
  clear h hn hc
  go_enter Try.func16, Try.ntmps16
  go_wp2_with (go_at_call 20; refine HI.out.mono ?_; rintro e w1 ⟨rfl, rfl⟩)
  go_ret
  exact ⟨rfl, rfl⟩
set_option maxHeartbeats 4000000 in
theorem below_yes (h : TPr w F g V up ca) (hw : WfUp up) (hc : ca.length = up.length) (n : Nat) (hl : up.length ≤ 1000) (hn : n < up.length) :
    Calls Try.prog 16 #[.pointer (some ⟨g, 0, none⟩), .int .i64 (n : Int)] w fun e w' => ∃ U, e = .returned U ∧ RecW w' w.heap.size 3 1 U (nums1 (belL up (n : Int) up.length)) ∧ Below w.heap.size w w' := by
  have hib : isB up (n : Int) = true := by simp [isB, hn]
  have HI := Lib.hid (has_any h hc (n : Int) (by omega))
  rw [hib] at HI
  have c0 := h.c0
  obtain ⟨b, c, hV, hc2, hcm, hbw, _, _⟩ := h.at hc hn
  subst hV
  obtain ⟨m, hm⟩ : ∃ m, m = up.length := ⟨_, rfl⟩
  have hb0 := (Below.refl w.heap.size w).alloc (Nat.le_refl _) (.cells (madeCells #[.bool false] m) 4)
  have hr0 := World.rowIs_made w (.bool false) m 4
  have hmk := run_make_row' (P := Try.prog) 58 4 (.bool false) 1 Try.underlying58 info_bool15 rfl .i64 .i64 m (by omega) (by omega)
  have hmk0 := hmk w
  have hsz := (hb0.cell (p := ⟨g, 0, none⟩) h.lt).trans c0
  have hn' : n < m := by omega
  have e0 := hr0.cell hn'
  have e1 := hr0.frozen n
  have HR := Lib.hid ((hr0.set n (.bool true)).congr fun k hk => inF_begin hw (n := n) hn k)
  have HB := Lib.hid (hb0.setCell (p := ⟨w.heap.size, n, none⟩) (Nat.le_refl _) (.bool true))
  obtain ⟨W, hW⟩ : ∃ W, W = w.alloc (.cells (madeCells #[.bool false] m) 4) := ⟨_, rfl⟩
  rw [← hW] at hmk0 hsz e0 e1 HR HB
  have HH := Lib.hid h
  rw [← hm] at c0 hl hn hsz ⊢
  have HW := Lib.hid hw
  have HM := Lib.hid hm
  have HC := Lib.hid hc
  have hib2 := Lib.hid hib
  obtain ⟨s, hs⟩ : ∃ s, s = w.heap.size := ⟨_, rfl⟩
  rw [← hs] at hmk0 e0 e1 HR HB ⊢
  have HS := Lib.hid hs
  have hcl := node_cells
  clear h hw hm hc hr0 hb0 hmk hib hW hs hn'
  go_enter Try.func16, Try.ntmps16
  go_wp2_with (go_at_call 20; refine HI.out.mono ?_; rintro e w1 ⟨rfl, rfl⟩)
  clear HI c0 e0 e1 hmk0 hsz
  go_loopw [5, 7] (fun vo vk wr => ∃ (i n0 c0 : Nat) (A0 : Option Addr), vo = .slice A0 n0 c0 ∧ vk = .int .i64 (i : Int) ∧ n + 1 ≤ i ∧ i ≤ m ∧ n0 ≤ i ∧ Hid (RecW wr s 3 1 (.slice A0 n0 c0) (nums1 (belL up (n : Int) i)) ∧ Below s w wr ∧ wr.rowIs s 4 m (fun k => .bool (inF up n i k)))) (fun _ vk _ => m - (intOf vk).toNat)
  case atStart => exact ⟨n + 1, 0, 0, none, rfl, by go_num, Nat.le_refl _, hn, Nat.zero_le _, Lib.hid ⟨by rw [bel_none HW.out (by rw [← HM.out]; exact hn)]; exact RecW.nil _ _ _ _, HB.out, HR.out⟩⟩
  case round =>
    obtain ⟨i, n0, c0, A0, rfl, rfl, hi1, hi, hn0, HO⟩ := hrel
    clear HR HB
    have c1 := (HH.out.below (by rw [← HS.out]; exact HO.out.2.1)).c0
    rw [← HM.out] at c1
    by_cases hl' : i < m
    · obtain ⟨p, hp, hpi, hin⟩ := inF_up HW.out (n := n) (i := i) (by omega) (by rw [← HM.out]; exact hl')
      obtain ⟨b', c', hV, _, _, _, d0, _⟩ := (HH.out.below (w' := wr) (by rw [← HS.out]; exact HO.out.2.1)).at HC.out (k := i) (by rw [← HM.out]; exact hl')
      rw [← HM.out] at hV
      injection hV with hV _ hcc
      injection hV with hV
      injection hV with hV _ _
      subst hV hcc
      rw [hp] at d0
      obtain ⟨hr, hb, hrow⟩ := HO.out
      have f0 := hrow.cell (show p < m by omega)
      have f1 := hrow.cell hl'
      have f2 := hrow.frozen i
      simp only [hin] at f0
      by_cases hu : undB up (i : Int) (n : Int) = true
      · rw [hu] at f0
        have hlen := belL_length up (n : Int) i
        have hn0' : (belL up (n : Int) i).length = n0 := by
          obtain ⟨_, _, e, _⟩ := hr.slice
          rw [nums1_length] at e
          injection e with _ e _
          exact e.symm
        have hneb : (Value.slice A0 n0 c0).ownBlock ≠ some s := by
          obtain ⟨cs, hcs, _, _⟩ := hrow
          exact row_ne_blk hr.1 hcs (by decide)
        obtain ⟨X, hX⟩ : ∃ X, X = wr.setCell ⟨s, i, none⟩ (.bool true) := ⟨_, rfl⟩
        have hrX : RecW X s 3 1 (.slice A0 n0 c0) (nums1 (belL up (n : Int) i)) := by rw [hX]; exact hr.keep fun k _ e => Below.heap_setCell _ _ _ _ (fun e' => hneb (by rw [e, e']))
        have hbX : Below s w X := by rw [hX]; exact hb.setCell (p := ⟨s, i, none⟩) (Nat.le_refl _) _
        have hrowX : X.rowIs s 4 m (fun k => .bool (inF up n (i + 1) k)) := by
          rw [hX]
          refine (hrow.set i (.bool true)).congr fun k hk => ?_
          rw [inF_next (by omega), hu]
          split <;> rfl
        have hsX : s ≤ X.heap.size := by rw [HS.out]; exact hbX.size
        obtain ⟨A1, q1, w1, app1, r1, g1, hat1⟩ := grow1 hrX (i : Int) (by omega) hsX
        rw [hn0', show X.heap.size = wr.heap.size by rw [hX]; simp] at app1
        rw [hn0'] at r1 hat1
        have HA := Lib.hid app1
        have hbl : belL up (n : Int) (i + 1) = belL up (n : Int) i ++ [(i : Int)] := by rw [belL_succ, hib2.out, hu]; rfl
        have HF : Hid (RecW w1 s 3 1 (.slice A1 (n0 + 1) q1) (nums1 (belL up (n : Int) (i + 1))) ∧ Below s w w1 ∧ w1.rowIs s 4 m (fun k => .bool (inF up n (i + 1) k))) := Lib.hid ⟨by rw [hbl]; exact r1, (hbX.alloc hsX _).grown g1 (Nat.le_trans hsX (by simp)) fun b hb' => (row_lt hrX.1 hb').1, (hrowX.alloc _).of_block (g1.block s (by have := hrowX.lt; simp; omega) (fun e => hneb e.symm))⟩
        rw [hX] at HA
        clear app1 r1 g1 hat1 hr hb hrow hu hbl hlen hn0' hneb hX hrX hbX hrowX hsX hin hp
        go_wp2_with (at_builtin; refine wpList_append_run rfl (.tmp 46) (.tmp 48) 38 rfl rfl _ _ _ _ rfl rfl HA.out ?_)
        exact ⟨⟨i + 1, n0 + 1, q1, A1, rfl, by go_num, by omega, by omega, by omega, HF⟩, by simp [intOf]; omega⟩
      · have hu' : undB up (i : Int) (n : Int) = false := by simpa using hu
        rw [hu'] at f0
        have hbl : belL up (n : Int) (i + 1) = belL up (n : Int) i := by rw [belL_succ, hu']; simp
        have HF : Hid (RecW wr s 3 1 (.slice A0 n0 c0) (nums1 (belL up (n : Int) (i + 1))) ∧ Below s w wr ∧ wr.rowIs s 4 m (fun k => .bool (inF up n (i + 1) k))) := Lib.hid ⟨by rw [hbl]; exact hr, hb, hrow.congr fun k hk => by
          rw [inF_next (by omega)]
          split
          · rename_i h; subst h; rw [hu', show inF up n k k = false by simp [inF]]
          · rfl⟩
        clear hr hb hrow hu hu' hbl hin hp
        go_wp2_with fail
        exact ⟨⟨i + 1, n0, c0, A0, rfl, by go_num, by omega, by omega, by omega, HF⟩, by simp [intOf]; omega⟩
    · have hkm : i = m := by omega
      subst hkm
      go_wp2_with fail
      go_ret
      exact ⟨_, rfl, HO.out.1, HO.out.2.1⟩
theorem below_any (h : TPt w F g up ca) (hw : WfUp up) (hc : ca.length = up.length) (n : Int) (hl : up.length ≤ 1000) :
    Calls Try.prog 16 #[.pointer (some ⟨g, 0, none⟩), .int .i64 n] w fun e w' => ∃ U, e = .returned U ∧ RecW w' w.heap.size 3 1 U (nums1 (belL up n up.length)) ∧ Below w.heap.size w w' := by
  obtain ⟨V, h⟩ := h
  by_cases hn : isB up n = true
  · obtain ⟨n0, n1⟩ : 0 ≤ n ∧ n < (up.length : Int) := by simpa [isB] using hn
    obtain ⟨j, rfl⟩ : ∃ j : Nat, n = (j : Int) := ⟨n.toNat, by omega⟩
    exact below_yes h hw hc j hl (by omega)
  · have hn' : isB up n = false := by simpa using hn
    refine (below_no h hc n hl hn').mono ?_
    rintro e w' ⟨rfl, rfl⟩
    have : belL up n up.length = [] := by
      unfold belL
      rw [List.filter_eq_nil_iff.2 fun k _ => by rw [hn']; simp]
      rfl
    rw [this]
    exact ⟨_, rfl, RecW.nil _ _ _ _, Below.refl _ _⟩
end
end Go.Proofs.Ytcgjpmokhpcnnaa
