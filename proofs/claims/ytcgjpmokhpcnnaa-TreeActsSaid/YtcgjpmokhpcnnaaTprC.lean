/- The program's tree: a node is cancelled, with all below it; all that the laws ask of it. -/
import Derived.Test.YtcgjpmokhpcnnaaTprB
import Derived.Test.YtcgjpmokhpcnnaaTprK
namespace Go.Proofs.Ytcgjpmokhpcnnaa
open Go Go.RowKit
set_option linter.unusedVariables false
set_option maxRecDepth 20000
section
variable {w w' : World} {g : Nat} {F : Nat → Prop} {V : Value} {up ca : List Int}
/-- A cause is stored. -/
theorem TPr.put {b n c j : Nat} (h : TPr w F g (.slice (some ⟨b, 0, none⟩) n c) up ca) (hj : j < up.length) (hc : ca.length = up.length) (x : Int) : TPr (w.setCell ⟨b, j * 2 + 1, none⟩ (.int .i64 x)) F g (.slice (some ⟨b, 0, none⟩) n c) up (ca.set j x) where
  low := fun k hk => by simpa using h.low k hk
  fg := h.fg
  fv := h.fv
  blk := (Below.heap_setCell _ _ _ _ (show g ≠ b by have := h.ne; simpa [Value.ownBlock] using fun e => this (by rw [e]; rfl))).trans h.blk
  row := by
    have hu : up[j]? = some (up.getD j 0) := by simp [List.getD, List.getElem?_eq_getElem hj]
    have hca : ca[j]? = some (ca.getD j 0) := by simp [List.getD, List.getElem?_eq_getElem (show j < ca.length by omega)]
    have := h.row.put (nodC_at hu hca) (i := 1) (by omega) (.int .i64 x) rfl
    rw [← nodC_set hu]
    exact this
set_option maxHeartbeats 2000000 in
theorem can_no (h : TPr w F g V up ca) (hc : ca.length = up.length) (n cause : Int) (hl : up.length ≤ 1000) (hn : ¬ (isB up n = true ∧ cause ≠ 0)) :
    Calls Try.prog 12 #[.pointer (some ⟨g, 0, none⟩), .int .i64 n, .int .i64 cause] w fun e w' => e = .returned (.tuple #[.int .i64 0, .int .i64 2]) ∧ w = w' := by
  have HI := Lib.hid (has_any h hc n (by omega))
  clear h hc
  by_cases hi : isB up n = true
  · have hc : cause = 0 := by
      rcases Int.decEq cause 0 with h0 | h0
      · exact absurd ⟨hi, h0⟩ hn
      · exact h0
    subst hc
    rw [hi] at HI
    clear hi hn
    go_enter Try.func12, Try.ntmps12
    go_wp2_with (go_at_call 20; refine HI.out.mono ?_; rintro e w1 ⟨rfl, rfl⟩)
    go_ret2
    exact ⟨rfl, rfl⟩
  · have hi' : isB up n = false := by simpa using hi
    rw [hi'] at HI
    clear hi hi' hn
    go_enter Try.func12, Try.ntmps12
    go_wp2_with (go_at_call 20; refine HI.out.mono ?_; rintro e w1 ⟨rfl, rfl⟩)
    go_ret2
    exact ⟨rfl, rfl⟩
set_option maxHeartbeats 4000000 in
theorem can_yes (h : TPr w F g V up ca) (hw : WfUp up) (hc : ca.length = up.length) (j : Nat) (cause : Int) (hl : up.length ≤ 1000) (hj : j < up.length) (h0 : cause ≠ 0) :
    Calls Try.prog 12 #[.pointer (some ⟨g, 0, none⟩), .int .i64 (j : Int), .int .i64 cause] w fun e w' => e = .returned (.tuple #[.int .i64 (canN up ca (j : Int) up.length : Int), .int .i64 0]) ∧ TPt w' F g up (canC up ca (j : Int) cause up.length) ∧ Step F F w w' := by
  have hib : isB up (j : Int) = true := by simp [isB, hj]
  have HI := Lib.hid (has_any h hc (j : Int) (by omega))
  rw [hib] at HI
  have HBL := Lib.hid (below_any ⟨V, h⟩ hw hc (j : Int) hl)
  obtain ⟨b, c, hV, _, _, hbw, _, _⟩ := h.at hc hj
  subst hV
  obtain ⟨hT1, hT2⟩ := turn_all (cause := cause) hw hc hj
  rw [← hT1, ← hT2]
  have hN : turnN cause (allL up j) ca ≤ (allL up j).length := by
    rw [(turn_spec (cause := cause) (allL up j) ca (allL_nodup hw hj) (fun x hx => by
      unfold allL at hx
      rcases List.mem_append.1 hx with hx | hx
      · have := bel_bounds hx; omega
      · rw [List.mem_singleton] at hx; omega)).2.2]
    exact List.countP_le_length
  have HX := Lib.hid (fun x hx => by
      unfold allL at hx
      rcases List.mem_append.1 hx with hx | hx
      · have := bel_bounds hx; exact ⟨this.1, this.2⟩
      · rw [List.mem_singleton] at hx; omega : ∀ x ∈ allL up j, 0 ≤ x ∧ x.toNat < up.length)
  have hxl : (allL up j).length = (belL up (j : Int) up.length).length + 1 := by simp [allL]
  have hbl := belL_length up (j : Int) up.length
  obtain ⟨m, hm⟩ : ∃ m, m = up.length := ⟨_, rfl⟩
  have HM := Lib.hid hm
  have HC := Lib.hid hc
  have HH := Lib.hid h
  have hcb : (cause == 0) = false := by simpa using h0
  have hcl := node_cells
  rw [← hm] at hl HH
  clear hw hc hT1 hT2 hib h
  go_enter Try.func12, Try.ntmps12
  go_wp2_with (go_at_call 20; refine HI.out.mono ?_; rintro e w1 ⟨rfl, rfl⟩)
  refine HBL.out.mono ?_; rintro e w1 ⟨U, rfl, hu, hb⟩
  obtain ⟨A0, c0, hU, -⟩ := hu.slice
  rw [nums1_length] at hU
  subst hU
  obtain ⟨A1, q1, w2, app1, r1, g1, hat1⟩ := grow1 hu (j : Int) (by omega) hb.size
  have hb2 : Below w.heap.size w w2 := (hb.alloc hb.size _).grown g1 (Nat.le_trans hb.size (by simp)) fun k hk => (row_lt hu.1 hk).1
  obtain ⟨N, hNN⟩ : ∃ N, N = (allL up j).length := ⟨_, rfl⟩
  rw [show belL up (j : Int) up.length ++ [(j : Int)] = allL up j from rfl] at r1
  rw [← hxl, ← hNN] at app1 r1
  rw [← hNN] at hN
  have hN2 : N ≤ 1001 := by omega
  have HA := Lib.hid app1
  have HQ := Lib.hid (And.intro (HH.out.below hb2) (And.intro (show Step F F w w2 from ⟨Moved.of_below hb2 F, fun _ h => .inl h⟩) r1))
  have HNN := Lib.hid hNN
  clear HBL HI hu hb app1 r1 g1 hat1 hb2 hxl hNN hbl
  go_wp2_with (at_builtin; refine wpList_append_run rfl (.tmp 21) (.tmp 23) 38 rfl rfl _ _ _ _ rfl rfl HA.out ?_)
  clear HA hbw
  go_loopw [8, 10, 26] (fun v8 v10 v26 wr => ∃ (i z : Nat) (ca2 : List Int), v8 = .int .i64 (z : Int) ∧ v26 = .int .i64 (i : Int) ∧ i ≤ N ∧ z ≤ i ∧ Hid (turnC cause (allL up j) ca = turnC cause ((allL up j).drop i) ca2 ∧ turnN cause (allL up j) ca = z + turnN cause ((allL up j).drop i) ca2 ∧ ca2.length = up.length ∧ TPr wr F g (.slice (some ⟨b, 0, none⟩) m c) up ca2 ∧ Step F F w wr ∧ RecW wr w.heap.size 3 1 (.slice A1 N q1) (nums1 (allL up j)))) (fun _ _ v26 _ => N - (intOf v26).toNat)
  case atStart => exact ⟨0, 0, ca, rfl, rfl, Nat.zero_le _, Nat.le_refl _, Lib.hid ⟨rfl, by rw [List.drop_zero, Nat.zero_add], HC.out, HQ.out.1, HQ.out.2.1, HQ.out.2.2⟩⟩
  case round =>
    obtain ⟨i, z, ca2, rfl, rfl, hi, hz, HO⟩ := hrel
    clear HQ
    by_cases hl' : i < N
    · obtain ⟨t1, t2, hc2, T, ST, RL⟩ := HO.out
      obtain ⟨x, hx⟩ : ∃ x, (allL up j)[i]? = some x := ⟨_, List.getElem?_eq_getElem (by rw [← HNN.out]; exact hl')⟩
      obtain ⟨x0, x1⟩ := HX.out x (List.mem_of_getElem? hx)
      obtain ⟨k, rfl⟩ : ∃ k : Nat, x = (k : Int) := ⟨x.toNat, by omega⟩
      rw [Int.toNat_natCast] at x1
      have hdr : (allL up j).drop i = (k : Int) :: (allL up j).drop (i + 1) := by
        obtain ⟨h1, h2⟩ := List.getElem?_eq_some_iff.1 hx
        rw [List.drop_eq_getElem_cons h1, h2]
      rw [hdr, turnC_cons] at t1
      rw [hdr, turnN_cons] at t2
      unfold turn1 at t1 t2
      rw [Int.toNat_natCast] at t1 t2
      obtain ⟨bL, cL, hVL, _, _, hcx, _⟩ := RL.num hx
      injection hVL with hVL hVN hVc
      subst hVL hVc
      obtain ⟨b', c', hV, _, _, _, _, d1⟩ := T.at hc2 x1
      injection hV with hV _ hVc
      injection hV with hV
      injection hV with hV _ _
      subst hV hVc
      have c0' := T.c0
      have hfr : wr.frozen? ⟨b, k * 2 + 1, none⟩ = false := by
        have h := T.row.1
        rw [nodC_length hc2, ← HM.out] at h
        exact h.frozenAt _
      have hne : (Value.slice (some ⟨bL, 0, none⟩) N q1).ownBlock ≠ some b := row_ne_row RL.1 T.row.1 (by decide) rfl
      have hkm : k < m := by rw [HM.out]; exact x1
      obtain ⟨y, hy⟩ : ∃ y, y = ca2.getD k 0 := ⟨_, rfl⟩
      rw [← hy] at d1 t1 t2
      by_cases hyz : y = 0
      · rw [if_pos hyz] at t1 t2
        rw [if_pos hyz] at t2
        have HF : Hid (turnC cause (allL up j) ca = turnC cause ((allL up j).drop (i + 1)) (ca2.set k cause) ∧ turnN cause (allL up j) ca = (z + 1) + turnN cause ((allL up j).drop (i + 1)) (ca2.set k cause) ∧ (ca2.set k cause).length = up.length ∧ TPr (wr.setCell ⟨b, k * 2 + 1, none⟩ (.int .i64 cause)) F g (.slice (some ⟨b, 0, none⟩) m c) up (ca2.set k cause) ∧ Step F F w (wr.setCell ⟨b, k * 2 + 1, none⟩ (.int .i64 cause)) ∧ RecW (wr.setCell ⟨b, k * 2 + 1, none⟩ (.int .i64 cause)) w.heap.size 3 1 (.slice (some ⟨bL, 0, none⟩) N q1) (nums1 (allL up j))) :=
          Lib.hid ⟨t1, by rw [t2]; omega, by simp [hc2], T.put x1 hc2 cause, ⟨ST.1.setCell (.inl (T.fv b rfl)) _, fun _ h => .inl h⟩, RL.keep fun q _ e => Below.heap_setCell _ _ _ _ (fun e' => hne (by rw [e, e']))⟩
        subst hyz
        clear t1 t2 T ST RL hx hdr hne hy hc2 HO hVN x0 x1
        go_wp2_with fail
        exact ⟨⟨i + 1, z + 1, _, by go_num, by go_num, by omega, by omega, HF⟩, by simp [intOf]; omega⟩
      · rw [if_neg hyz] at t1 t2
        rw [if_neg hyz] at t2
        have HF : Hid (turnC cause (allL up j) ca = turnC cause ((allL up j).drop (i + 1)) ca2 ∧ turnN cause (allL up j) ca = z + turnN cause ((allL up j).drop (i + 1)) ca2 ∧ ca2.length = up.length ∧ TPr wr F g (.slice (some ⟨b, 0, none⟩) m c) up ca2 ∧ Step F F w wr ∧ RecW wr w.heap.size 3 1 (.slice (some ⟨bL, 0, none⟩) N q1) (nums1 (allL up j))) :=
          Lib.hid ⟨t1, by rw [t2]; omega, hc2, T, ST, RL⟩
        have hyb : (y == 0) = false := by simpa using hyz
        clear t1 t2 T ST RL hx hdr hne hy hc2 HO hVN x0 x1 hyz hfr
        go_wp2_with fail
        exact ⟨⟨i + 1, z, _, rfl, by go_num, by omega, by omega, HF⟩, by simp [intOf]; omega⟩
    · have hiN : i = N := by omega
      subst hiN
      have hdr : (allL up j).drop i = [] := List.drop_of_length_le (by rw [← HNN.out]; exact Nat.le_refl _)
      obtain ⟨t1, t2, hc2, T, ST, RL⟩ := HO.out
      rw [hdr] at t1 t2
      simp only [turnC, turnN, Nat.add_zero] at t1 t2
      have HF : Hid (turnN cause (allL up j) ca = z ∧ TPt wr F g up (turnC cause (allL up j) ca) ∧ Step F F w wr) := Lib.hid ⟨t2, by rw [t1]; exact ⟨_, T⟩, ST⟩
      clear t1 t2 T ST RL hdr hc2 HO
      go_wp2_with fail
      go_ret2
      rw [HF.out.1]
      exact ⟨rfl, HF.out.2⟩
theorem can_any (h : TPt w F g up ca) (hw : WfUp up) (hc : ca.length = up.length) (n cause : Int) (hl : up.length ≤ 1000) :
    Calls Try.prog 12 #[.pointer (some ⟨g, 0, none⟩), .int .i64 n, .int .i64 cause] w fun e w' => e = .returned (.tuple #[.int .i64 (if canE up n cause = 0 then (canN up ca n up.length : Int) else 0), .int .i64 (canE up n cause)]) ∧ ∃ F', TPt w' F' g up (if canE up n cause = 0 then canC up ca n cause up.length else ca) ∧ Step F F' w w' := by
  obtain ⟨V, h⟩ := h
  by_cases hn : isB up n = true ∧ cause ≠ 0
  · have e : canE up n cause = 0 := by unfold canE; rw [if_pos hn]
    rw [e, if_pos rfl, if_pos rfl]
    obtain ⟨n0, n1⟩ : 0 ≤ n ∧ n < (up.length : Int) := by simpa [isB] using hn.1
    obtain ⟨j, rfl⟩ : ∃ j : Nat, n = (j : Int) := ⟨n.toNat, by omega⟩
    refine (can_yes h hw hc j cause hl (by omega) hn.2).mono ?_
    rintro e w' ⟨h1, h2, h3⟩
    exact ⟨h1, F, h2, h3⟩
  · have e : canE up n cause = 2 := by unfold canE; rw [if_neg hn]
    rw [e, if_neg (by decide), if_neg (by decide)]
    refine (can_no h hc n cause hl hn).mono ?_
    rintro e w' ⟨rfl, rfl⟩
    exact ⟨rfl, F, ⟨V, h⟩, Step.refl _ _⟩
end
theorem drewN_zero (w : World) : w = w.drewN 0 := rfl
/-- The program's tree answers as it should. -/
theorem treF : TreF TPt where
  fr := fun ⟨V, h⟩ hs hz => ⟨V, h.keep hs hz⟩
  low := fun ⟨V, h⟩ => h.low
  new := fun w => new_any w
  add := fun n h hw hc hl => add_any h hc n hl
  can := fun n cause h hw hc hl => can_any h hw hc n cause (by omega)
  cau := fun n ⟨V, h⟩ hw hc hl => (cause_any h hc n (by omega)).mono fun e w' hh => ⟨hh.1, 0, hh.2 ▸ drewN_zero _⟩
  par := fun n ⟨V, h⟩ hw hc hl => (parent_any h hc n (by omega)).mono fun e w' hh => ⟨hh.1, 0, hh.2 ▸ drewN_zero _⟩
  siz := fun ⟨V, h⟩ hw hc hl => (size_any h hc (by omega)).mono fun e w' hh => ⟨hh.1, 0, hh.2 ▸ drewN_zero _⟩
  bel := fun {w F g up ca} n h hw hc hl => (below_any h hw hc n (by omega)).mono fun e w' hh => by
    obtain ⟨U, he, hr, hb⟩ := hh
    obtain ⟨V, h⟩ := h
    exact ⟨U, F, he, hr, ⟨V, h.below hb⟩, ⟨Moved.of_below hb F, fun _ h => .inl h⟩, fun k hk hF => by
      have := h.low k hF
      have := (row_lt hr.1 hk).1
      omega⟩
end Go.Proofs.Ytcgjpmokhpcnnaa
