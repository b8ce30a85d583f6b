/- The program's Has of package set. -/
import Derived.Test.YtegcebgoiocakaaM05
import Derived.Test.YtegcebgoiocakaaM07
import Derived.Test.YtegcebgoiocakaaM09
import Derived.Deep.DeepCutAuto
import Derived.Deep.CutBlock
import Derived.Lib.SliceRun
namespace Go.Proofs.Ytegcebgoiocakaa
open Go Go.RowKit
set_option linter.unusedVariables false
set_option maxRecDepth 20000

/-- Has's look at one range. -/
theorem slook_any (x y r : Int) (g : Nat) (W : World) (hg : W.cell? ⟨g, 0, none⟩ = some (.int .i64 r)) (hlt : g < W.heap.size) :
    Calls Try.prog 96 #[.agg #[.int .i64 x, .int .i64 y], .pointer (some ⟨g, 0, none⟩)] W fun e w' => e = .returned (.bool (decide (x ≤ r ∧ r ≤ y))) ∧ Below W.heap.size W w' := by
  have hg2 := ((Below.refl W.heap.size W).alloc (Nat.le_refl _) (.cells #[.int .i64 x, .int .i64 y] 103)).cell (p := ⟨g, 0, none⟩) hlt
  rw [hg] at hg2
  have HB := Lib.hid ((Below.refl W.heap.size W).alloc (Nat.le_refl _) (.cells #[.int .i64 x, .int .i64 y] 103))
  clear hg
  generalize hB : decide (x ≤ r ∧ r ≤ y) = B
  go_enter Try.func96, Try.ntmps96
  by_cases h1 : x ≤ r
  · by_cases h2 : r ≤ y
    · have HF : Hid (B = true) := Lib.hid (hB ▸ decide_eq_true ⟨h1, h2⟩)
      clear hB
      go_wp2
      go_ret
      rw [HF.out]
      exact ⟨rfl, HB.out⟩
    · have HF : Hid (B = false) := Lib.hid (hB ▸ decide_eq_false (by omega))
      clear hB
      go_wp2
      go_ret
      rw [HF.out]
      exact ⟨rfl, HB.out⟩
  · have HF : Hid (B = false) := Lib.hid (hB ▸ decide_eq_false (by omega))
    clear hB
    go_wp2
    go_ret
    rw [HF.out]
    exact ⟨rfl, HB.out⟩

set_option maxHeartbeats 1000000 in
theorem sindex_any (s : List (Int × Int)) (A : Option Addr) (n c : Nat) (r : Int) (g : Nat) (W : World) (hin : RowG W A n s) (hn : n ≤ 2000000) (hg : W.cell? ⟨g, 0, none⟩ = some (.int .i64 r)) (hlt : g < W.heap.size) :
    Calls Try.prog 104 #[.slice A n c, .func (.func 96) #[] #[.pointer (some ⟨g, 0, none⟩)]] W fun e w' => ∃ i : Int, e = .returned (.int .i64 i) ∧ decide (0 ≤ i) = (s.any fun p => decide (p.1 ≤ r ∧ r ≤ p.2)) ∧ Below W.heap.size W w' := by
  have HR := Lib.hid hin; clear hin
  have HG := Lib.hid (And.intro hg hlt); clear hg hlt
  go_enter Try.func104, Try.ntmps104
  go_wp2
  go_loopw [8] (fun vi wr => ∃ (k : Nat), vi = .int .i64 (k : Int) ∧ k ≤ n ∧ Hid (((s.take k).any fun p => decide (p.1 ≤ r ∧ r ≤ p.2)) = false ∧ Below W.heap.size W wr)) (fun vi _ => n - (intOf vi).toNat)
  case atStart => exact ⟨0, rfl, Nat.zero_le _, Lib.hid ⟨rfl, Below.refl _ _⟩⟩
  case round =>
    obtain ⟨k, rfl, hk, HO⟩ := hrel
    by_cases hl : k < n
    · obtain ⟨b, o, rfl, hbw, hc⟩ := HR.out.2 (by omega)
      obtain ⟨c0, c1⟩ := hc k hl
      have d0 := (HO.out.2.cell (p := ⟨b, o + k * 2, none⟩) hbw).trans c0
      have d1 := (HO.out.2.cell (p := ⟨b, o + k * 2 + 1, none⟩) hbw).trans c1
      have hts := take_snoc (t := s) (k := k) (by have := HR.out.1; omega)
      have hm : s.getD k (0, 0) ∈ s := by rw [getD_in k (by have := HR.out.1; omega)]; exact List.getElem_mem _
      obtain ⟨p, hp⟩ : ∃ p, p = s.getD k (0, 0) := ⟨_, rfl⟩
      rw [← hp] at d0 d1 hts hm
      obtain ⟨x, y⟩ := p
      have HT := Lib.hid (And.intro hts hm)
      clear hc c0 c1 hp hts hm
      dsimp only at d0 d1
      have HC := Lib.hid (slook_any x y r g wr ((HO.out.2.cell (p := ⟨g, 0, none⟩) HG.out.2).trans HG.out.1) (Nat.lt_of_lt_of_le HG.out.2 HO.out.2.size))
      by_cases hxy : x ≤ r ∧ r ≤ y
      · go_wp2_with (go_at_call 96; refine HC.out.mono ?_; rintro e w1 ⟨rfl, hb1⟩; rw [decide_eq_true hxy]; have HB1 := Lib.hid (HO.out.2.trans (hb1.mono HO.out.2.size)); clear hb1)
        go_ret
        refine ⟨k, rfl, ?_, HB1.out⟩
        rw [decide_eq_true (by omega)]
        exact (List.any_eq_true.2 ⟨(x, y), HT.out.2, decide_eq_true hxy⟩).symm
      · go_wp2_with (go_at_call 96; refine HC.out.mono ?_; rintro e w1 ⟨rfl, hb1⟩; rw [decide_eq_false hxy]; have HB1 := Lib.hid (And.intro (show ((s.take (k + 1)).any fun p => decide (p.1 ≤ r ∧ r ≤ p.2)) = false by rw [HT.out.1, List.any_append, HO.out.1]; simp only [List.any_cons, List.any_nil, Bool.or_false, Bool.false_or]; exact decide_eq_false hxy) (HO.out.2.trans (hb1.mono HO.out.2.size))); clear hb1)
        exact ⟨⟨k + 1, by go_num, by omega, HB1⟩, by simp [intOf]; omega⟩
    · have hkn : k = n := by omega
      subst hkn
      have HF : Hid ((s.any fun p => decide (p.1 ≤ r ∧ r ≤ p.2)) = false) := Lib.hid (by
        have := HO.out.1
        rwa [List.take_of_length_le (by have := HR.out.1; omega)] at this)
      go_wp2
      go_ret
      exact ⟨-1, rfl, by rw [HF.out]; rfl, HO.out.2⟩

set_option maxHeartbeats 1000000 in
theorem shas_any (s : List (Int × Int)) (A : Option Addr) (n c : Nat) (r : Int) (W : World) (hin : RowG W A n s) (hn : n ≤ 2000000) :
    Calls Try.prog 81 #[.slice A n c, .int .i64 r] W fun e w' => e = .returned (.bool (hasL s r)) ∧ Below W.heap.size W w' := by
  have hb : Below W.heap.size W (W.alloc (.cells #[.int .i64 r] 3)) := (Below.refl _ _).alloc (Nat.le_refl _) _
  have HC := Lib.hid (sindex_any s A n c r W.heap.size _ (hin.below hb (Nat.le_refl _)) hn (by rw [cell_of_row _ W.heap.size 0 _ _ (0, 0) (heap_alloc_new W _)]; rfl) (by simp))
  have HB := Lib.hid hb
  clear hb hin
  go_enter Try.func81, Try.ntmps81
  by_cases h0 : r < 0
  · have HF : Hid (hasL s r = false) := Lib.hid (by
      cases hx : hasL s r with
      | false => rfl
      | true => have := hasL_in hx; omega)
    go_wp2
    go_ret
    rw [HF.out]
    exact ⟨rfl, HB.out⟩
  · by_cases h1 : r > 1114111
    · have HF : Hid (hasL s r = false) := Lib.hid (by
        cases hx : hasL s r with
        | false => rfl
        | true => have := hasL_in hx; omega)
      go_wp2
      go_ret
      rw [HF.out]
      exact ⟨rfl, HB.out⟩
    · have HF : Hid (hasL s r = (s.any fun p => decide (p.1 ≤ r ∧ r ≤ p.2))) := Lib.hid (by
        unfold hasL
        congr 1
        funext p
        apply decide_eq_decide.2
        omega)
      go_wp2_with (first
        | (go_at_call 95; go_in)
        | (go_at_call 104; refine HC.out.mono ?_; rintro e w1 ⟨i, rfl, hi, hb1⟩; have HI := Lib.hid (And.intro hi (then_ HB.out hb1)); clear hi hb1))
      go_ret
      rw [HF.out, ← HI.out.1]
      exact ⟨rfl, HI.out.2⟩
end Go.Proofs.Ytegcebgoiocakaa
/- A walk's step. -/
namespace Go.Proofs.Ytegcebgoiocakaa
open Go Go.RowKit
set_option linter.unusedVariables false
set_option maxRecDepth 20000

theorem spot_elem : Try.prog.elem 88 = 125 := by kernel_rfl
theorem spot_size (w : World) : (sizeOf 125).run Try.prog w = .ok 2 w := by kernel_rfl
theorem spot_slice : Try.prog.underlying 88 = some (.slice (Try.prog.elem 88)) := by rw [spot_elem]; exact Try.underlying88
theorem spots_upto (A : Option Addr) (n c h : Nat) (hh : h ≤ c) (w : World) :
    (Instr.slice 88 (.slice A n c) none (some (.int .i64 (h : Int))) none).run Try.prog w = .ok (.slice A h c) w := by
  have hr := run_slice_h (P := Try.prog) (w := w) (t := 88) (a := A) (len := n) (cap := c) (ht := spot_slice) (kh := .i64) (h := (h : Int)) (h0 := by omega) (h2 := by omega)
  rw [hr, spot_elem, spot_size]
  have ha : (if c = 0 then A else A.map fun x => x.add (0 * 2)) = A := by
    split
    · rfl
    · cases A <;> simp [Addr.add]
  simp [Result.andThen, sliced]
  simpa using ha
/-- []byte(s), as functions of the world. -/
theorem bytes_fun (s : ByteArray) (hs : s.size ≤ maxLen) : ∃ (fA : World → Option Addr) (fc : World → Nat) (fW : World → World), ∀ w, (convert 9 80 (.string s)).run Try.prog w = .ok (.slice (fA w) s.size (fc w)) (fW w) ∧ RowI .u8 (fW w) (fA w) s.size (nums s) ∧ s.size ≤ fc w ∧ fc w ≤ maxLen ∧ Below w.heap.size w (fW w) := by
  have h : ∀ w, ∃ x : Option Addr × Nat × World, (convert 9 80 (.string s)).run Try.prog w = .ok (.slice x.1 s.size x.2.1) x.2.2 ∧ RowI .u8 x.2.2 x.1 s.size (nums s) ∧ s.size ≤ x.2.1 ∧ x.2.1 ≤ maxLen ∧ Below w.heap.size w x.2.2 := fun w => by
    obtain ⟨A, c, w', h1, h2, h3, h4, h5⟩ := bytes_run s w hs
    exact ⟨(A, c, w'), h1, h2, h3, h4, h5⟩
  obtain ⟨f, hf⟩ := Classical.axiomOfChoice h
  exact ⟨fun w => (f w).1, fun w => (f w).2.1, fun w => (f w).2.2, hf⟩
/-- A row cut to nothing. -/
theorem own_cut0 {w : World} {B : Nat} {A : Option Addr} {n c : Nat} {xs : List (Nat × Nat)} (h : w.ownsRow B 125 2 (.slice A n c) n (cellsS xs)) : w.ownsRow B 125 2 (.slice A 0 c) 0 (cellsS []) ∧ (Value.slice A 0 c).ownBlock = (Value.slice A n c).ownBlock := by
  rcases h.2 with ⟨e, h0⟩ | ⟨b, cap, cur, e, hB, hb, hnc, hcm, hcs, ht⟩
  · injection e with e1 e2 e3
    subst e1; subst e3
    exact ⟨⟨rfl, .inl ⟨rfl, rfl⟩⟩, rfl⟩
  · injection e with e1 _ e3
    subst e1; subst e3
    exact ⟨⟨rfl, .inr ⟨b, c, cur, rfl, hB, hb, Nat.zero_le _, hcm, hcs, rfl⟩⟩, rfl⟩
/-- The two rows change places, the one that is met now begins anew. -/
theorem WalkC.swap {B g mb : Nat} {e : WEnv} {w : World} {at_ : Nat} {H : Option Addr} {hn hc : Nat} {here : List (Nat × Nat)} {L : Option Addr} {ln lc : Nat} {last : List (Nat × Nat)} {met : List Int} (h : WalkC B g mb e w at_ H hn hc here L ln lc last met) (tq : Nat) :
    WalkC B g mb e (((w.setCell ⟨g, 3, none⟩ (.int .i64 (tq : Int))).setCell ⟨g, 4, none⟩ (.slice L 0 lc)).setCell ⟨g, 5, none⟩ (.slice H hn hc)).drew tq L 0 lc [] H hn hc here met ∧
    Tch B g mb w (((w.setCell ⟨g, 3, none⟩ (.int .i64 (tq : Int))).setCell ⟨g, 4, none⟩ (.slice L 0 lc)).setCell ⟨g, 5, none⟩ (.slice H hn hc)).drew := by
  have hoth : ∀ k, k ≠ g → (((w.setCell ⟨g, 3, none⟩ (.int .i64 (tq : Int))).setCell ⟨g, 4, none⟩ (.slice L 0 lc)).setCell ⟨g, 5, none⟩ (.slice H hn hc)).heap[k]? = w.heap[k]? := fun k hk =>
    (Below.heap_setCell _ _ _ _ hk).trans ((Below.heap_setCell _ _ _ _ hk).trans (Below.heap_setCell _ _ _ _ hk))
  have hb : Below B w (((w.setCell ⟨g, 3, none⟩ (.int .i64 (tq : Int))).setCell ⟨g, 4, none⟩ (.slice L 0 lc)).setCell ⟨g, 5, none⟩ (.slice H hn hc)).drew :=
    ((((Below.refl B w).setCell (p := ⟨g, 3, none⟩) h.hB _).setCell (p := ⟨g, 4, none⟩) h.hB _).setCell (p := ⟨g, 5, none⟩) h.hB _).drew
  have hg0 := heap_setCell_same w g 3 _ _ (.int .i64 (tq : Int)) h.hg
  have hg1 := heap_setCell_same _ g 4 _ _ (.slice L 0 lc) hg0
  have hg2 := heap_setCell_same _ g 5 _ _ (.slice H hn hc) hg1
  obtain ⟨o1, o2⟩ := own_cut0 h.old
  have h1 : WalkC B g mb e (((w.setCell ⟨g, 3, none⟩ (.int .i64 (tq : Int))).setCell ⟨g, 4, none⟩ (.slice L 0 lc)).setCell ⟨g, 5, none⟩ (.slice H hn hc)).drew tq L 0 lc [] H hn hc here met := by
    refine ⟨hg2.trans rfl, (hoth mb (Ne.symm h.lt.2.2)).trans h.hm, h.hml, h.hB, h.hBm, row_keep o1 fun k hk hv => hoth k fun e => row_ne_blk o1 h.hg (by decide) (by rw [hv, e]), row_keep h.row fun k hk hv => hoth k fun e => row_ne_blk h.row h.hg (by decide) (by rw [hv, e]), fun b h1 h2 => h.ne b h2 (o2 ▸ h1), h.ins.below hb, h.ways.below hb, h.win, h.small⟩
  exact ⟨h1, tch_of h h1 hb fun k hk k1 k2 k3 k4 => ⟨hoth k k1, by rw [o2]; exact k4, k3⟩⟩
set_option maxHeartbeats 8000000 in
theorem step_any {full : Prop} {B g mb : Nat} {e : WEnv} {w : World} {at_ : Nat} {here : List (Nat × Nat)} {last : SRow} {met : List Int} (h : WalkS B g mb e w at_ here last met) (hnd : (here.map Prod.fst).Nodup) (hin : ∀ x ∈ here, x.1 < e.n)
    (tq lo hi : Nat) (hlo : min at_ tq = lo) (hhi : max at_ tq = hi) (hT : hi ≤ e.T.size) (hfr : full → ∀ x ∈ met, x ≠ (tq : Int)) (r : Int) (hr : r = (getI (((nums e.T).drop lo).take (hi - lo))).1) :
    Calls Try.prog 49 #[.pointer (some ⟨g, 0, none⟩), .int .i64 (tq : Int)] w fun en w' => en = .returned (.tuple #[]) ∧ ∃ here' last' met', WalkM full B g mb e w' tq here' last' met' ∧ Tch B g mb w w' ∧ MetIn tq met met' ∧ (full → Steps (WE e.p e.W e.T.size tq) (meets e.p e.W r here) here') := by
  obtain ⟨H, hn, hc, hC⟩ := h
  obtain ⟨c0, c1, c2, c3, c4, c5, c6, hf⟩ := hC.cells
  obtain ⟨LA, Ln, Lc, Lx⟩ := last
  simp only at hC c5
  have hgl := hC.lt.1
  have hsm := hC.small.2.1
  obtain ⟨S, hS1, hS2, hcut⟩ := cut_str e.T (a := lo) (b := hi) (by omega) hT
  obtain ⟨fA, fc, fW, hcv⟩ := bytes_fun S (by unfold maxLen; omega)
  have hmin : min (at_ : Int) (tq : Int) = (lo : Int) := by omega
  have hmax : max (at_ : Int) (tq : Int) = (hi : Int) := by omega
  have hrun := fun w => (hcv w).1
  have k1 : ∀ w', Below w.heap.size w w' → w'.cell? ⟨g, 1, none⟩ = some (.string e.T) := fun w' hb => (hb.cell (p := ⟨g, 1, none⟩) hgl).trans c1
  have k3 : ∀ w', Below w.heap.size w w' → w'.cell? ⟨g, 3, none⟩ = some (.int .i64 (at_ : Int)) := fun w' hb => (hb.cell (p := ⟨g, 3, none⟩) hgl).trans c3
  have HF := Lib.hid fun (w' : World) (hb : Below w.heap.size w w') => hb.trans ((hcv w').2.2.2.2.mono hb.size)
  have HG := Lib.hid fun (w' : World) (hb : Below w.heap.size w w') => (get_any (fA w') S.size (fc w') (nums S) (fW w') (hcv w').2.1 (nums_byte S) (hcv w').2.2.1 (hcv w').2.2.2.1 (by omega)).mono (R' := fun en w'' => en = .returned (.tuple #[.int .i64 (getI (nums S)).1, .int .i64 (getI (nums S)).2]) ∧ Below w.heap.size w w'') fun en w'' ⟨h1, q, h2⟩ => ⟨h1, by rw [h2]; exact below_drewN (hb.trans ((hcv w').2.2.2.2.mono hb.size)) q⟩
  rw [hS2, ← hr] at HG
  obtain ⟨r2, hr2⟩ : ∃ r2, r2 = (getI (((nums e.T).drop lo).take (hi - lo))).2 := ⟨_, rfl⟩
  rw [← hr2, hS1] at HG
  rw [hS1] at hrun
  have hb0 : Below w.heap.size w w.drew := (Below.refl _ _).drew
  have HC := Lib.hid (And.intro hC (And.intro hnd (And.intro hin hfr)))
  have hb1 : (lo : Int) ≤ (hi : Int) := by omega
  have hb2 : (hi : Int) ≤ (e.T.size : Int) := by omega
  clear hS1 hC c0 c1 c2 c3 c4 c5 c6 hf hnd hin hfr hr hr2 hS2 hlo hhi hcv
  go_enter Try.func49, Try.ntmps49
  go_upto_region 0 with fail
  go_cut [4] (fun s4 wx => s4 = .int .i64 r ∧ Hid (Below w.heap.size w wx))
  case first =>
    -- FIRST
    go_region_held (fun w' => Below w.heap.size w w') (first | assumption | exact HF.out _ (by assumption)) (first
      | (go_at_call 38; (with_reducible refine (HG.out _ (by assumption)).mono ?_); rintro en w' ⟨rfl, hb'⟩))
    all_goals
      go_wp2_with fail
      go_meet
      exact ⟨rfl, Lib.hid (by assumption)⟩
  case rest =>
    obtain ⟨rfl, HW⟩ := hcut
    have hCc := HC.out.1.below HW.out
    obtain ⟨c0, c1, c2, c3, c4, c5, c6, hf⟩ := hCc.cells
    have f3 := hf 3
    have f4 := hf 4
    have f5 := hf 5
    have hsl := fun w => spots_upto LA Ln Lc 0 (Nat.zero_le _) w
    have HCc := Lib.hid hCc
    clear hCc c0 c1 c2 c6 hf hcut hrun k1 k3 hb0 hb1 hb2 hmin hmax HF HG
    go_wp2_with fail
    go_region
    obtain ⟨hS1, hS2⟩ := HCc.out.swap tq
    have hTw : Tch B g mb w wc := Tch.of_below HW.out (by have := HC.out.1.lt; have := HC.out.1.hB; omega) hgl
    have hT1 := hTw.trans hS2
    generalize (((wc.setCell ⟨g, 3, none⟩ (.int .i64 (tq : Int))).setCell ⟨g, 4, none⟩ (.slice LA 0 Lc)).setCell ⟨g, 5, none⟩ (.slice H hn hc)).drew = w1 at hS1 hT1 ⊢
    have d5 := hS1.cells.2.2.2.2.2.1
    have hM1 : WalkM full B g mb e w1 tq [] ⟨H, hn, hc, here⟩ met := ⟨⟨_, _, _, hS1⟩, fun i hi => by simp at hi, fun hf i hi => absurd rfl (HC.out.2.2.2 hf _ (List.mem_of_getElem? hi)), List.Pairwise.nil, fun x hx => by simp at hx⟩
    have HM1 := Lib.hid (And.intro hM1 hT1)
    have hnn : hn ≤ 1000 := by have := own_len HC.out.1.row; have := here_len HC.out.2.1 HC.out.2.2.1; have := HC.out.1.small.1; omega
    clear hS1 hS2 hTw hT1 hM1 c3 c4 c5 f3 f4 f5 hsl
    go_wp2_with fail
    go_loopw [57] (fun v57 wq => ∃ (k : Nat) (here1 : List (Nat × Nat)) (met1 : List Int), v57 = .int .i64 (k : Int) ∧ k ≤ hn ∧ Hid (WalkM full B g mb e wq tq here1 ⟨H, hn, hc, here⟩ met1 ∧ Tch B g mb w wq ∧ MetIn tq met met1 ∧ (full → Steps (WE e.p e.W e.T.size tq) (meets e.p e.W r (here.take k)) here1))) (fun v57 _ => hn - (intOf v57).toNat)
    case atStart => exact ⟨0, [], met, rfl, Nat.zero_le _, Lib.hid ⟨HM1.out.1, HM1.out.2, fun x hx => .inl hx, fun _ => .nil⟩⟩
    case round =>
      obtain ⟨k, here1, met1, rfl, hk, H1⟩ := hrel
      by_cases hlt : k < hn
      · have hhl : here.length = hn := own_len HC.out.1.row
        obtain ⟨s, hs⟩ : ∃ s, here[k]? = some s := ⟨_, List.getElem?_eq_getElem (by omega)⟩
        obtain ⟨H2, hn2, hc2, hC2⟩ := H1.out.1.s
        obtain ⟨bh, hH, _, _, _, s0, s1, _⟩ := spot_at hC2.old hs
        subst hH
        have hsn : s.1 < e.n := HC.out.2.2.1 s (List.mem_of_getElem? hs)
        obtain ⟨ws, hws⟩ : ∃ ws, e.W[s.1]? = some ws := ⟨_, List.getElem?_eq_getElem (by have := hC2.ways.1; omega)⟩
        have hk1 : (0 : Int) ≤ (k : Int) := by omega
        have hk2 : (k : Int) < (hn : Int) := by omega
        have hbX : Below wr.heap.size wr (wr.alloc (.cells #[.int .i64 (s.1 : Int), .int .i64 (s.2 : Int)] 125)) := (Below.refl _ _).alloc (Nat.le_refl _) _
        have hMX := H1.out.1.below hbX
        have hTX : Tch B g mb wr (wr.alloc (.cells #[.int .i64 (s.1 : Int), .int .i64 (s.2 : Int)] 125)) := Tch.of_below hbX (by have := hC2.lt; have := hC2.hB; omega) hC2.lt.1
        have hbox := heap_alloc_new wr (.cells #[.int .i64 (s.1 : Int), .int .i64 (s.2 : Int)] 125)
        have hnow : ¬ Owned g (wr.alloc (.cells #[.int .i64 (s.1 : Int), .int .i64 (s.2 : Int)] 125)) wr.heap.size := fun ho => by
          rcases ((hC2.below hbX).owned _).1 ho with e1 | e1
          · have := (row_lt hC2.row e1).2; omega
          · have := (row_lt hC2.old e1).2; omega
        have hng : wr.heap.size ≠ g ∧ wr.heap.size ≠ mb := ⟨by have := hC2.lt; omega, by have := hC2.lt; omega⟩
        have HH := Lib.hid (And.intro hs (And.intro hws (And.intro hsn hhl)))
        have HX := Lib.hid (And.intro hMX (H1.out.2.1.trans hTX))
        clear hC2 hs hws hbX hMX hTX hhl
        go_wp2_with fail
        generalize wr.alloc (.cells #[.int .i64 (s.1 : Int), .int .i64 (s.2 : Int)] 125) = X at hbox hnow HX ⊢
        generalize wr.heap.size = nb at hbox hnow hng ⊢
        have HN := Lib.hid (And.intro hbox (And.intro hnow hng))
        obtain ⟨H3, hn3, hc3, hC3⟩ := HX.out.1.s
        have c2 := hC3.cells.2.2.1
        obtain ⟨bw, ow, Aj, nj, cj, hWA, _, w0, hrow⟩ := hC3.ways.one HH.out.2.1
        rw [hWA] at c2
        have b0 := cell_of_row X nb 0 _ _ (0, 0) hbox
        have hx1 : (0 : Int) ≤ (s.1 : Int) := by omega
        have hx2 : (s.1 : Int) < (e.n : Int) := by omega
        have hnj : (nj : Int) ≤ 1000000 := by have := hrow.1.2; omega
        have HR := Lib.hid hrow
        clear hC3 hrow hWA hbox hnow hng
        go_quiet (fail)
        go_wp2_with fail
        go_loopw [70] (fun v70 wq => ∃ (j : Nat) (here2 : List (Nat × Nat)) (met2 : List Int), v70 = .int .i64 (j : Int) ∧ j ≤ nj ∧ Hid (WalkM full B g mb e wq tq here2 ⟨some ⟨bh, 0, none⟩, hn, hc, here⟩ met2 ∧ Tch B g mb X wq ∧ MetIn tq met met2 ∧ (full → Steps (WE e.p e.W e.T.size tq) (meets e.p e.W r (here.take k) ++ ((ws.take j).filter (takes e.p r)).map fun w => (w.2, s.2)) here2))) (fun v70 _ => nj - (intOf v70).toNat)
        case atStart => exact ⟨0, here1, met1, rfl, Nat.zero_le _, Lib.hid ⟨HX.out.1.below (below_drewN (Below.refl _ _) _), (Tch.refl _ _ _ _).drewN _, H1.out.2.2.1, fun hf => by simpa using H1.out.2.2.2 hf⟩⟩
        case round =>
          obtain ⟨j, here2, met2, rfl, hj, H2⟩ := hrel
          by_cases hlj : j < nj
          · obtain ⟨y, hy⟩ : ∃ y, ws[j]? = some y := ⟨_, List.getElem?_eq_getElem (by have := HR.out.1.1; omega)⟩
            obtain ⟨H4, hn4, hc4, hC4⟩ := H2.out.1.s
            obtain ⟨ba, oa, hAj, _, y0, y1⟩ := (HR.out.below H2.out.2.1.1).one hy
            subst hAj
            have hyn := hC4.win.2 _ _ HH.out.2.1 y.1 y.2 (List.mem_of_getElem? hy)
            have hpl : e.p.length = e.n := by unfold WEnv.p; rw [List.length_map]; exact hC4.ins.1
            rw [hpl] at hyn
            obtain ⟨v, hv⟩ : ∃ v, e.l[y.1]? = some v := ⟨_, List.getElem?_eq_getElem (by have := hC4.ins.1; omega)⟩
            have hpv : e.p[y.1]? = some v.i := by unfold WEnv.p; rw [List.getElem?_map, hv]; rfl
            obtain ⟨bx, nw⟩ := H2.out.2.1.2 nb _ HN.out.1 HN.out.2.2.1 HN.out.2.2.2 HN.out.2.1
            have hbX : Below wr.heap.size wr (wr.alloc (.cells #[.int .i64 (y.1 : Int), .int .i64 (y.2 : Int)] 123)) := (Below.refl _ _).alloc (Nat.le_refl _) _
            have hMX := H2.out.1.below hbX
            have hTX : Tch B g mb wr (wr.alloc (.cells #[.int .i64 (y.1 : Int), .int .i64 (y.2 : Int)] 123)) := Tch.of_below hbX (by have := hC4.lt; have := hC4.hB; omega) hC4.lt.1
            have hbox2 := heap_alloc_new wr (.cells #[.int .i64 (y.1 : Int), .int .i64 (y.2 : Int)] 123)
            have hbx2 := hTX.2 nb _ bx HN.out.2.2.1 HN.out.2.2.2 nw
            have hj1 : (0 : Int) ≤ (j : Int) := by omega
            have hj2 : (j : Int) < (nj : Int) := by omega
            have HY := Lib.hid (And.intro hy (And.intro hyn (And.intro hv (And.intro hpv (And.intro hMX (hTX))))))
            clear hC4 hbX hy hv hpv hTX hpl hMX bx nw
            go_wp2_with fail
            generalize wr.alloc (.cells #[.int .i64 (y.1 : Int), .int .i64 (y.2 : Int)] 123) = X2 at hbox2 hbx2 HY ⊢
            generalize wr.heap.size = nb2 at hbox2 ⊢
            obtain ⟨H5, hn5, hc5, hC5⟩ := HY.out.2.2.2.2.1.s
            obtain ⟨bi, oi, hA, _, hbl, _, i0, i1, i2, i3⟩ := hC5.ins.one HY.out.2.2.1
            have e0 := hC5.cells.1
            rw [hA] at e0
            have b20 := cell_of_row X2 nb2 0 _ _ (0, 0) hbox2
            have hy1 : (0 : Int) ≤ (y.1 : Int) := by omega
            have hy2 : (y.1 : Int) < (e.n : Int) := by have := HY.out.2.1.1; omega
            have HB2 := Lib.hid (And.intro hbox2 hbx2)
            have al : ∀ {a : Addr} {u : Value}, X2.cell? a = some u → ∀ o, (X2.alloc o).cell? a = some u := fun h o => Lib.cell?_alloc_some o h
            have e0' := al e0
            have b20' := al b20
            have i0' := al i0
            have i1' := al i1
            have i2' := al i2
            have i3' := al i3
            clear hC5 hA hbox2 hbx2 y0 y1 al
            go_region
            have hb3 : Below X2.heap.size X2 (X2.alloc (.cells #[.int .i64 v.i.op, .slice v.A v.n v.c, .int .i64 v.i.x, .int .i64 v.i.y] 45)).drew := ((Below.refl _ _).alloc (Nat.le_refl _) _).drew
            have hbox3 : (X2.alloc (.cells #[.int .i64 v.i.op, .slice v.A v.n v.c, .int .i64 v.i.x, .int .i64 v.i.y] 45)).drew.heap[X2.heap.size]? = _ := hp_drew (heap_alloc_new X2 _)
            have hM3 := HY.out.2.2.2.2.1.below hb3
            have hg2 : g < X2.heap.size ∧ B ≤ X2.heap.size := by obtain ⟨_, _, _, hq⟩ := HY.out.2.2.2.2.1.s; have := hq.lt; have := hq.hB; omega
            have hT3 : Tch B g mb X2 (X2.alloc (.cells #[.int .i64 v.i.op, .slice v.A v.n v.c, .int .i64 v.i.x, .int .i64 v.i.y] 45)).drew := Tch.of_below hb3 hg2.2 hg2.1
            have hbox2 := (hb3.block nb2 (Array.getElem?_eq_some_iff.1 HB2.out.1).1).trans HB2.out.1
            have hbox1 := (hb3.block nb (Array.getElem?_eq_some_iff.1 HB2.out.2.1).1).trans HB2.out.2.1
            clear e0 e0' b20 b20' i0 i0' i1 i1' i2 i2' i3 i3' hbl hg2 hb3
            generalize (X2.alloc (.cells #[.int .i64 v.i.op, .slice v.A v.n v.c, .int .i64 v.i.x, .int .i64 v.i.y] 45)).drew = X3 at hbox3 hM3 hT3 hbox2 hbox1 ⊢
            generalize X2.heap.size = nb3 at hbox3 ⊢
            have n0 := cell_of_row X3 nb3 0 _ _ (0, 0) hbox3
            have n1 := cell_of_row X3 nb3 1 _ _ (0, 0) hbox3
            have hl2 := (Array.getElem?_eq_some_iff.1 hbox2).1
            have hl1 := (Array.getElem?_eq_some_iff.1 hbox1).1
            have m2 : ∀ w', Below X3.heap.size X3 w' → w'.cell? ⟨nb2, 1, none⟩ = some (.int .i64 (y.2 : Int)) := fun w' hb => (hb.cell (p := ⟨nb2, 1, none⟩) hl2).trans (cell_of_row X3 nb2 1 _ _ (0, 0) hbox2)
            have m1 : ∀ w', Below X3.heap.size X3 w' → w'.cell? ⟨nb, 1, none⟩ = some (.int .i64 (s.2 : Int)) := fun w' hb => (hb.cell (p := ⟨nb, 1, none⟩) hl1).trans (cell_of_row X3 nb 1 _ _ (0, 0) hbox1)
            have htk : ws.take (j + 1) = ws.take j ++ [y] := by rw [List.take_add_one, HY.out.1]; rfl
            have htv : takes e.p r y = (decide (v.i.op = 1) && hasL v.i.set r) := by unfold takes; rw [HY.out.2.2.2.1]
            have h3T : Tch B g mb X X3 := H2.out.2.1.trans (HY.out.2.2.2.2.2.trans hT3)
            have HM := Lib.hid (And.intro m2 (And.intro m1 (And.intro hM3 (And.intro h3T (And.intro htk htv)))))
            obtain ⟨H6, hn6, hc6, hC6⟩ := hM3.s
            have hset := hC6.ins.2.2 v (List.mem_of_getElem? HY.out.2.2.1)
            have HHas := Lib.hid (shas_any v.i.set v.A v.n v.c r X3 hset.1.1 hset.2)
            have hgX : g < X3.heap.size ∧ B ≤ X3.heap.size := by have := hC6.lt; have := hC6.hB; omega
            have HGX := Lib.hid hgX
            clear hC6 hset m2 m1 hM3 h3T htk htv hbox3 hT3 hbox2 hbox1 hl2 hl1 hgX
            obtain ⟨ob, hob⟩ : ∃ ob, ob = hasL v.i.set r := ⟨_, rfl⟩
            rw [← hob] at HHas HM
            clear hob
            by_cases hop : v.i.op = 1
            · rw [hop] at n0
              have HM2 : Hid (takes e.p r y = ob) := Lib.hid (by rw [HM.out.2.2.2.2.2, hop]; cases ob <;> rfl)
              clear hop
              cases ob with
              | true =>
                go_wp2_with (first
                  | (go_at_call 81; (with_reducible refine HHas.out.mono ?_); rintro en w7 ⟨rfl, hb7⟩; have q2 := HM.out.1 w7 hb7; have q1 := HM.out.2.1 w7 hb7; have HMt := Lib.hid (meet_any (HM.out.2.2.1.below hb7) y.2 s.2 HY.out.2.1.2); have HB7 := Lib.hid hb7; clear hb7)
                  | (go_at_call 45; (with_reducible refine HMt.out.mono ?_); rintro en w8 ⟨rfl, here3, met3, hM8, hT8, hI8, hS8⟩; have H8 := Lib.hid (And.intro hM8 (And.intro hT8 (And.intro hI8 hS8))); clear hM8 hT8 hI8 hS8))
                refine ⟨⟨j + 1, here3, met3, rfl, hlj, Lib.hid ⟨H8.out.1, (HM.out.2.2.2.1.trans (Tch.of_below HB7.out HGX.out.2 HGX.out.1)).trans H8.out.2.1, H2.out.2.2.1.trans H8.out.2.2.1, fun hf => ?_⟩⟩, by simp [intOf]; omega⟩
                rw [HM.out.2.2.2.2.1, List.filter_append, List.map_append, ← List.append_assoc]
                have hf1 : List.filter (takes e.p r) [y] = [y] := by simp [HM2.out]
                rw [hf1]
                exact .snoc (H2.out.2.2.2 hf) (H8.out.2.2.2 hf)
              | false =>
                go_wp2_with (go_at_call 81; (with_reducible refine HHas.out.mono ?_); rintro en w7 ⟨rfl, hb7⟩; have HB7 := Lib.hid hb7; clear hb7)
                refine ⟨⟨j + 1, here2, met2, rfl, hlj, Lib.hid ⟨HM.out.2.2.1.below HB7.out, HM.out.2.2.2.1.trans (Tch.of_below HB7.out HGX.out.2 HGX.out.1), H2.out.2.2.1, fun hf => ?_⟩⟩, by simp [intOf]; omega⟩
                rw [HM.out.2.2.2.2.1, List.filter_append]
                have hf1 : List.filter (takes e.p r) [y] = [] := by simp [HM2.out]
                rw [hf1, List.append_nil]
                exact H2.out.2.2.2 hf
            · have hop2 : (v.i.op == 1) = false := by simp [hop]
              have HM2 : Hid (takes e.p r y = false) := Lib.hid (by rw [HM.out.2.2.2.2.2, decide_eq_false hop]; rfl)
              clear hop
              go_wp2
              refine ⟨⟨j + 1, here2, met2, rfl, hlj, Lib.hid ⟨HM.out.2.2.1, HM.out.2.2.2.1, H2.out.2.2.1, fun hf => ?_⟩⟩, by simp [intOf]; omega⟩
              rw [HM.out.2.2.2.2.1, List.filter_append]
              have hf1 : List.filter (takes e.p r) [y] = [] := by simp [HM2.out]
              rw [hf1, List.append_nil]
              exact H2.out.2.2.2 hf
          · obtain rfl : j = nj := by omega
            go_wp2
            refine ⟨⟨k + 1, here2, met2, rfl, hlt, Lib.hid ⟨H2.out.1, HX.out.2.trans H2.out.2.1, H2.out.2.2.1, fun hf => ?_⟩⟩, by simp [intOf]; omega⟩
            have h4 := H2.out.2.2.2 hf
            rw [List.take_of_length_le (l := ws) (by rw [HR.out.1.1]; exact Nat.le_refl _)] at h4
            have htk : here.take (k + 1) = here.take k ++ [s] := by rw [List.take_add_one, HH.out.1]; rfl
            rw [htk, meets_snoc, List.getD, HH.out.2.1]
            simpa using h4
      · obtain rfl : k = hn := by omega
        have HH := Lib.hid (show here.length = k from own_len HC.out.1.row)
        go_wp2
        go_end0
        refine ⟨rfl, here1, _, met1, H1.out.1, H1.out.2.1, H1.out.2.2.1, fun hf => ?_⟩
        have h4 := H1.out.2.2.2 hf
        rwa [List.take_of_length_le (by rw [HH.out]; exact Nat.le_refl _)] at h4
end Go.Proofs.Ytegcebgoiocakaa
/- A walk's best and leave. -/
namespace Go.Proofs.Ytegcebgoiocakaa
open Go Go.RowKit
set_option linter.unusedVariables false
set_option maxRecDepth 20000

/-- The first of those that a test takes: -1, none does. -/
def FirstOf (P : Nat × Nat → Bool) (xs : List (Nat × Nat)) (i : Int) : Prop :=
  (i = -1 ∧ ∀ x ∈ xs, P x = false) ∨ ∃ (k : Nat) (x : Nat × Nat), i = (k : Int) ∧ xs[k]? = some x ∧ P x = true ∧ ∀ (j : Nat) (y : Nat × Nat), j < k → xs[j]? = some y → P y = false
/-- isFirst. -/
theorem isFirst_any (i : Nat) (w : World) (hi : (i : Int) ≤ 100000) : Calls Try.prog 55 #[.int .i64 (i : Int)] w fun en w' => en = .returned (.bool (decide (i = 0))) ∧ w = w' := by
  go_enter Try.func55, Try.ntmps55
  go_wp2
  go_ret
  refine ⟨?_, rfl⟩
  by_cases h : i = 0
  · subst h; rfl
  · have : ((i : Int) == 0) = false := by simp; omega
    simp [h]
/-- best's look, isMatch being asked. -/
theorem lookM_any {B g mb : Nat} {e : WEnv} {W : World} {at_ : Nat} {here : List (Nat × Nat)} {last : SRow} {met : List Int} (h : WalkS B g mb e W at_ here last met) {i f : Nat} {v : IV} (hv : e.l[i]? = some v) (bx : Nat) (hb : W.heap[bx]? = some (.cells #[.func (.func 47) #[.pointer (some ⟨g, 0, none⟩)] #[]] 82 (0, 0))) :
    Calls Try.prog 78 #[.agg #[.int .i64 (i : Int), .int .i64 (f : Int)], .pointer (some ⟨bx, 0, none⟩)] W fun en w' => en = .returned (.bool (decide (v.i.op = 0))) ∧ Below W.heap.size W w' := by
  have hbl := (Array.getElem?_eq_some_iff.1 hb).1
  have hB : Below W.heap.size W (W.alloc (.cells #[.int .i64 (i : Int), .int .i64 (f : Int)] 125)) := (Below.refl _ _).alloc (Nat.le_refl _) _
  have c0 : (W.alloc (.cells #[.int .i64 (i : Int), .int .i64 (f : Int)] 125)).cell? ⟨bx, 0, none⟩ = _ := cell_of_row _ bx 0 _ _ (0, 0) ((hB.block bx hbl).trans hb)
  have HM := Lib.hid (isMatch_any (h.below hB) hv)
  have HB := Lib.hid hB
  clear h hb hB
  obtain ⟨ob, hob⟩ : ∃ ob, ob = decide (v.i.op = 0) := ⟨_, rfl⟩
  rw [← hob] at HM ⊢
  clear hob
  go_enter Try.func78, Try.ntmps78
  go_wp2_with (go_at_call 47; (with_reducible refine HM.out.mono ?_); rintro en w7 ⟨rfl, rfl⟩)
  go_ret
  exact ⟨rfl, HB.out⟩
theorem lookF_any {W : World} {i f : Nat} (hi : (i : Int) ≤ 100000) (bx : Nat) (hb : W.heap[bx]? = some (.cells #[.func (.func 55) #[] #[]] 82 (0, 0))) :
    Calls Try.prog 78 #[.agg #[.int .i64 (i : Int), .int .i64 (f : Int)], .pointer (some ⟨bx, 0, none⟩)] W fun en w' => en = .returned (.bool (decide (i = 0))) ∧ Below W.heap.size W w' := by
  have hbl := (Array.getElem?_eq_some_iff.1 hb).1
  have hB : Below W.heap.size W (W.alloc (.cells #[.int .i64 (i : Int), .int .i64 (f : Int)] 125)) := (Below.refl _ _).alloc (Nat.le_refl _) _
  have c0 : (W.alloc (.cells #[.int .i64 (i : Int), .int .i64 (f : Int)] 125)).cell? ⟨bx, 0, none⟩ = _ := cell_of_row _ bx 0 _ _ (0, 0) ((hB.block bx hbl).trans hb)
  have HM := Lib.hid fun w => isFirst_any i w hi
  have HB := Lib.hid hB
  clear hb hB
  obtain ⟨ob, hob⟩ : ∃ ob, ob = decide (i = 0) := ⟨_, rfl⟩
  rw [← hob] at HM ⊢
  clear hob hi
  go_enter Try.func78, Try.ntmps78
  go_wp2_with (go_at_call 55; (with_reducible refine (HM.out _).mono ?_); rintro en w7 ⟨rfl, rfl⟩)
  go_ret
  exact ⟨rfl, HB.out⟩
/-- leave's look. -/
theorem lookL_any {W : World} {i f far : Nat} (bx : Nat) (hb : W.heap[bx]? = some (.cells #[.int .i64 (far : Int)] 3 (0, 0))) :
    Calls Try.prog 80 #[.agg #[.int .i64 (i : Int), .int .i64 (f : Int)], .pointer (some ⟨bx, 0, none⟩)] W fun en w' => en = .returned (.bool (decide (far < f))) ∧ Below W.heap.size W w' := by
  have hbl := (Array.getElem?_eq_some_iff.1 hb).1
  have hB : Below W.heap.size W (W.alloc (.cells #[.int .i64 (i : Int), .int .i64 (f : Int)] 125)) := (Below.refl _ _).alloc (Nat.le_refl _) _
  have c0 : (W.alloc (.cells #[.int .i64 (i : Int), .int .i64 (f : Int)] 125)).cell? ⟨bx, 0, none⟩ = _ := cell_of_row _ bx 0 _ _ (0, 0) ((hB.block bx hbl).trans hb)
  have HB := Lib.hid hB
  clear hb hB
  go_enter Try.func80, Try.ntmps80
  by_cases h : far < f
  · have h1 : (f : Int) > (far : Int) := by omega
    rw [decide_eq_true h]
    go_wp2
    go_ret
    exact ⟨rfl, HB.out⟩
  · have h1 : ¬ (f : Int) > (far : Int) := by omega
    rw [decide_eq_false h]
    go_wp2
    go_ret
    exact ⟨rfl, HB.out⟩
set_option maxHeartbeats 2000000 in
theorem indexB_any {W : World} {B : Nat} {H : Option Addr} {hn hc : Nat} {xs : List (Nat × Nat)} (ho : W.ownsRow B 125 2 (.slice H hn hc) hn (cellsS xs)) (hsm : hn ≤ 100000) (bx : Nat) (P : Nat × Nat → Bool)
    (hP : ∀ w', Below W.heap.size W w' → ∀ x ∈ xs, Calls Try.prog 78 #[.agg #[.int .i64 (x.1 : Int), .int .i64 (x.2 : Int)], .pointer (some ⟨bx, 0, none⟩)] w' fun en w'' => en = .returned (.bool (P x)) ∧ Below w'.heap.size w' w'') :
    Calls Try.prog 77 #[.slice H hn hc, .func (.func 78) #[] #[.pointer (some ⟨bx, 0, none⟩)]] W fun en w' => ∃ i : Int, en = .returned (.int .i64 i) ∧ FirstOf P xs i ∧ Below W.heap.size W w' := by
  have HO := Lib.hid (And.intro ho (own_len ho))
  have HP := Lib.hid hP
  clear ho hP
  go_enter Try.func77, Try.ntmps77
  go_wp2
  go_loopw [8] (fun vi wr => ∃ (k : Nat), vi = .int .i64 (k : Int) ∧ k ≤ hn ∧ Hid ((∀ (j : Nat) (y : Nat × Nat), j < k → xs[j]? = some y → P y = false) ∧ Below W.heap.size W wr)) (fun vi _ => hn - (intOf vi).toNat)
  case atStart => exact ⟨0, rfl, Nat.zero_le _, Lib.hid ⟨fun j y h => absurd h (by omega), Below.refl _ _⟩⟩
  case round =>
    obtain ⟨k, rfl, hk, H1⟩ := hrel
    by_cases hl : k < hn
    · obtain ⟨x, hx⟩ : ∃ x, xs[k]? = some x := ⟨_, List.getElem?_eq_getElem (by have := HO.out.2; omega)⟩
      obtain ⟨b, rfl, _, _, hbl, d0, d1, _⟩ := spot_at HO.out.1 hx
      have c0 := (H1.out.2.cell (p := ⟨b, k * 2, none⟩) hbl).trans d0
      have c1 := (H1.out.2.cell (p := ⟨b, k * 2 + 1, none⟩) hbl).trans d1
      have HC := Lib.hid (HP.out wr H1.out.2 x (List.mem_of_getElem? hx))
      have HX := Lib.hid hx
      have hk1 : (0 : Int) ≤ (k : Int) := by omega
      have hk2 : (k : Int) < (hn : Int) := by omega
      clear d0 d1 hx hbl
      cases hpx : P x with
      | true =>
        rw [hpx] at HC
        have HPX := Lib.hid hpx
        clear hpx
        go_wp2_with (go_at_call 78; (with_reducible refine HC.out.mono ?_); rintro en w1 ⟨rfl, hb1⟩; have HB1 := Lib.hid (H1.out.2.trans (hb1.mono H1.out.2.size)); clear hb1)
        go_ret
        exact ⟨k, rfl, .inr ⟨k, x, rfl, HX.out, HPX.out, H1.out.1⟩, HB1.out⟩
      | false =>
        rw [hpx] at HC
        have HPX := Lib.hid hpx
        clear hpx
        go_wp2_with (go_at_call 78; (with_reducible refine HC.out.mono ?_); rintro en w1 ⟨rfl, hb1⟩; have HB1 := Lib.hid (H1.out.2.trans (hb1.mono H1.out.2.size)); clear hb1)
        refine ⟨⟨k + 1, rfl, hl, Lib.hid ⟨fun j y h1 h2 => ?_, HB1.out⟩⟩, by simp [intOf]; omega⟩
        rcases Nat.lt_or_ge j k with h3 | h3
        · exact H1.out.1 j y h3 h2
        · obtain rfl : j = k := by omega
          rw [HX.out] at h2
          injection h2 with h2
          rw [← h2]; exact HPX.out
    · obtain rfl : k = hn := by omega
      go_wp2
      go_ret
      refine ⟨-1, rfl, .inl ⟨rfl, fun x hx => ?_⟩, H1.out.2⟩
      obtain ⟨j, hj, rfl⟩ := List.getElem_of_mem hx
      exact H1.out.1 j _ (by have := HO.out.2; omega) (List.getElem?_eq_getElem hj)
set_option maxHeartbeats 2000000 in
theorem indexL_any {W : World} {B : Nat} {H : Option Addr} {hn hc : Nat} {xs : List (Nat × Nat)} (ho : W.ownsRow B 125 2 (.slice H hn hc) hn (cellsS xs)) (hsm : hn ≤ 100000) (bx : Nat) (P : Nat × Nat → Bool)
    (hP : ∀ w', Below W.heap.size W w' → ∀ x ∈ xs, Calls Try.prog 80 #[.agg #[.int .i64 (x.1 : Int), .int .i64 (x.2 : Int)], .pointer (some ⟨bx, 0, none⟩)] w' fun en w'' => en = .returned (.bool (P x)) ∧ Below w'.heap.size w' w'') :
    Calls Try.prog 77 #[.slice H hn hc, .func (.func 80) #[] #[.pointer (some ⟨bx, 0, none⟩)]] W fun en w' => ∃ i : Int, en = .returned (.int .i64 i) ∧ FirstOf P xs i ∧ Below W.heap.size W w' := by
  have HO := Lib.hid (And.intro ho (own_len ho))
  have HP := Lib.hid hP
  clear ho hP
  go_enter Try.func77, Try.ntmps77
  go_wp2
  go_loopw [8] (fun vi wr => ∃ (k : Nat), vi = .int .i64 (k : Int) ∧ k ≤ hn ∧ Hid ((∀ (j : Nat) (y : Nat × Nat), j < k → xs[j]? = some y → P y = false) ∧ Below W.heap.size W wr)) (fun vi _ => hn - (intOf vi).toNat)
  case atStart => exact ⟨0, rfl, Nat.zero_le _, Lib.hid ⟨fun j y h => absurd h (by omega), Below.refl _ _⟩⟩
  case round =>
    obtain ⟨k, rfl, hk, H1⟩ := hrel
    by_cases hl : k < hn
    · obtain ⟨x, hx⟩ : ∃ x, xs[k]? = some x := ⟨_, List.getElem?_eq_getElem (by have := HO.out.2; omega)⟩
      obtain ⟨b, rfl, _, _, hbl, d0, d1, _⟩ := spot_at HO.out.1 hx
      have c0 := (H1.out.2.cell (p := ⟨b, k * 2, none⟩) hbl).trans d0
      have c1 := (H1.out.2.cell (p := ⟨b, k * 2 + 1, none⟩) hbl).trans d1
      have HC := Lib.hid (HP.out wr H1.out.2 x (List.mem_of_getElem? hx))
      have HX := Lib.hid hx
      have hk1 : (0 : Int) ≤ (k : Int) := by omega
      have hk2 : (k : Int) < (hn : Int) := by omega
      clear d0 d1 hx hbl
      cases hpx : P x with
      | true =>
        rw [hpx] at HC
        have HPX := Lib.hid hpx
        clear hpx
        go_wp2_with (go_at_call 80; (with_reducible refine HC.out.mono ?_); rintro en w1 ⟨rfl, hb1⟩; have HB1 := Lib.hid (H1.out.2.trans (hb1.mono H1.out.2.size)); clear hb1)
        go_ret
        exact ⟨k, rfl, .inr ⟨k, x, rfl, HX.out, HPX.out, H1.out.1⟩, HB1.out⟩
      | false =>
        rw [hpx] at HC
        have HPX := Lib.hid hpx
        clear hpx
        go_wp2_with (go_at_call 80; (with_reducible refine HC.out.mono ?_); rintro en w1 ⟨rfl, hb1⟩; have HB1 := Lib.hid (H1.out.2.trans (hb1.mono H1.out.2.size)); clear hb1)
        refine ⟨⟨k + 1, rfl, hl, Lib.hid ⟨fun j y h1 h2 => ?_, HB1.out⟩⟩, by simp [intOf]; omega⟩
        rcases Nat.lt_or_ge j k with h3 | h3
        · exact H1.out.1 j y h3 h2
        · obtain rfl : j = k := by omega
          rw [HX.out] at h2
          injection h2 with h2
          rw [← h2]; exact HPX.out
    · obtain rfl : k = hn := by omega
      go_wp2
      go_ret
      refine ⟨-1, rfl, .inl ⟨rfl, fun x hx => ?_⟩, H1.out.2⟩
      obtain ⟨j, hj, rfl⟩ := List.getElem_of_mem hx
      exact H1.out.1 j _ (by have := HO.out.2; omega) (List.getElem?_eq_getElem hj)
end Go.Proofs.Ytegcebgoiocakaa
/- A walk's best and leave, whole. -/
namespace Go.Proofs.Ytegcebgoiocakaa
open Go Go.RowKit
set_option linter.unusedVariables false
set_option maxRecDepth 20000

/-- What best answers. -/
def BestOf (P : Nat × Nat → Bool) (here : List (Nat × Nat)) (f : Int) (ok : Bool) : Prop :=
  (ok = false ∧ f = 0 ∧ ∀ x ∈ here, P x = false) ∨ (ok = true ∧ ∃ A j b Z, f = ((b : Nat) : Int) ∧ here = A ++ (j, b) :: Z ∧ (∀ x ∈ A, P x = false) ∧ P (j, b) = true)
theorem bestOf_at {P : Nat × Nat → Bool} {xs : List (Nat × Nat)} {k : Nat} {x : Nat × Nat} (h1 : xs[k]? = some x) (h2 : P x = true) (h3 : ∀ (j : Nat) (y : Nat × Nat), j < k → xs[j]? = some y → P y = false) : BestOf P xs (x.2 : Int) true := by
  have hk := (List.getElem?_eq_some_iff.1 h1).1
  refine .inr ⟨rfl, xs.take k, x.1, x.2, xs.drop (k + 1), rfl, ?_, fun y hy => ?_, h2⟩
  · have hx : xs[k] = x := by rw [List.getElem?_eq_getElem hk] at h1; exact Option.some.inj h1
    have := (List.take_append_drop k xs).symm
    rw [List.drop_eq_getElem_cons hk, hx] at this
    exact this
  · obtain ⟨j, hj, rfl⟩ := List.getElem_of_mem hy
    rw [List.length_take] at hj
    exact h3 j _ (by omega) (by rw [List.getElem_take]; exact List.getElem?_eq_getElem (by omega))
/-- Is it an end? -/
def isEndB (l : List IV) (x : Nat × Nat) : Bool := match l[x.1]? with | some v => decide (v.i.op = 0) | none => false
set_option maxHeartbeats 4000000 in
theorem bestM_any {B g mb : Nat} {e : WEnv} {w : World} {at_ : Nat} {here : List (Nat × Nat)} {last : SRow} {met : List Int} (h : WalkS B g mb e w at_ here last met) (hin : ∀ x ∈ here, x.1 < e.n) (hnl : here.length ≤ 100000) :
    Calls Try.prog 46 #[.pointer (some ⟨g, 0, none⟩), .func (.func 47) #[.pointer (some ⟨g, 0, none⟩)] #[]] w fun en w' => ∃ (f : Int) (ok : Bool), en = .returned (.tuple #[.int .i64 f, .bool ok]) ∧ BestOf (isEndB e.l) here f ok ∧ Below w.heap.size w w' := by
  have hb0 : Below w.heap.size w (w.alloc (.cells #[.func (.func 47) #[.pointer (some ⟨g, 0, none⟩)] #[]] 82)) := (Below.refl _ _).alloc (Nat.le_refl _) _
  have hX := h.below hb0
  have hbox := heap_alloc_new w (.cells #[.func (.func 47) #[.pointer (some ⟨g, 0, none⟩)] #[]] 82)
  have hbl : w.heap.size < (w.alloc (.cells #[.func (.func 47) #[.pointer (some ⟨g, 0, none⟩)] #[]] 82)).heap.size := by simp
  obtain ⟨H, hn, hc, hC⟩ := hX
  have c4 := hC.cells.2.2.2.2.1
  have hgl := hC.lt.1
  have hlen := own_len hC.row
  have HI := Lib.hid (indexB_any hC.row (by omega) w.heap.size (isEndB e.l) fun w' hb x hx => by
    obtain ⟨v, hv⟩ : ∃ v, e.l[x.1]? = some v := ⟨_, List.getElem?_eq_getElem (by have := hC.ins.1; have := hin x hx; omega)⟩
    refine (lookM_any (h := ⟨H, hn, hc, hC.below hb⟩) hv w.heap.size ((hb.block _ hbl).trans hbox)).mono fun en w'' ⟨h1, h2⟩ => ⟨?_, h2⟩
    rw [h1]; simp only [isEndB, hv])
  have HC := Lib.hid (And.intro hC (And.intro hb0 hlen))
  clear hC hb0 hbox h hlen
  go_enter Try.func46, Try.ntmps46
  go_wp2_with fail
  (with_reducible refine HI.out.mono ?_)
  rintro en w2 ⟨i, rfl, hfo, hb2⟩
  have e4 := (hb2.cell (p := ⟨g, 4, none⟩) hgl).trans c4
  have HB2 := Lib.hid hb2
  rcases hfo with ⟨rfl, hno⟩ | ⟨k, x, rfl, hx, hpx, hlt⟩
  · have HN := Lib.hid hno
    clear hno hb2
    go_wp2
    go_ret2
    exact ⟨0, false, rfl, .inl ⟨rfl, rfl, HN.out⟩, HC.out.2.1.trans (HB2.out.mono HC.out.2.1.size)⟩
  · obtain ⟨b, rfl, hkn, _, hbb, _, d1, _⟩ := spot_at HC.out.1.row hx
    have d1' := (hb2.cell (p := ⟨b, k * 2 + 1, none⟩) hbb).trans d1
    have hk1 : (0 : Int) ≤ (k : Int) := by omega
    have hk2 : (k : Int) < (hn : Int) := by omega
    have HN := Lib.hid (And.intro hx (And.intro hpx hlt))
    clear hx hpx hlt hb2 d1 hbb
    go_wp2
    go_ret2
    exact ⟨_, true, rfl, bestOf_at HN.out.1 HN.out.2.1 HN.out.2.2, HC.out.2.1.trans (HB2.out.mono HC.out.2.1.size)⟩
set_option maxHeartbeats 4000000 in
theorem bestF_any {B g mb : Nat} {e : WEnv} {w : World} {at_ : Nat} {here : List (Nat × Nat)} {last : SRow} {met : List Int} (h : WalkS B g mb e w at_ here last met) (hin : ∀ x ∈ here, x.1 < e.n) (hnl : here.length ≤ 100000) :
    Calls Try.prog 46 #[.pointer (some ⟨g, 0, none⟩), .func (.func 55) #[] #[]] w fun en w' => ∃ (f : Int) (ok : Bool), en = .returned (.tuple #[.int .i64 f, .bool ok]) ∧ BestOf (fun x => decide (x.1 = 0)) here f ok ∧ Below w.heap.size w w' := by
  have hb0 : Below w.heap.size w (w.alloc (.cells #[.func (.func 55) #[] #[]] 82)) := (Below.refl _ _).alloc (Nat.le_refl _) _
  have hX := h.below hb0
  have hbox := heap_alloc_new w (.cells #[.func (.func 55) #[] #[]] 82)
  have hbl : w.heap.size < (w.alloc (.cells #[.func (.func 55) #[] #[]] 82)).heap.size := by simp
  obtain ⟨H, hn, hc, hC⟩ := hX
  have c4 := hC.cells.2.2.2.2.1
  have hgl := hC.lt.1
  have hlen := own_len hC.row
  have HI := Lib.hid (indexB_any hC.row (by omega) w.heap.size (fun x => decide (x.1 = 0)) fun w' hb x hx => by
    exact lookF_any (i := x.1) (f := x.2) (by have := hin x hx; have := hC.small.1; omega) w.heap.size ((hb.block _ hbl).trans hbox))
  have HC := Lib.hid (And.intro hC (And.intro hb0 hlen))
  clear hC hb0 hbox h hlen
  go_enter Try.func46, Try.ntmps46
  go_wp2_with fail
  (with_reducible refine HI.out.mono ?_)
  rintro en w2 ⟨i, rfl, hfo, hb2⟩
  have e4 := (hb2.cell (p := ⟨g, 4, none⟩) hgl).trans c4
  have HB2 := Lib.hid hb2
  rcases hfo with ⟨rfl, hno⟩ | ⟨k, x, rfl, hx, hpx, hlt⟩
  · have HN := Lib.hid hno
    clear hno hb2
    go_wp2
    go_ret2
    exact ⟨0, false, rfl, .inl ⟨rfl, rfl, HN.out⟩, HC.out.2.1.trans (HB2.out.mono HC.out.2.1.size)⟩
  · obtain ⟨b, rfl, hkn, _, hbb, _, d1, _⟩ := spot_at HC.out.1.row hx
    have d1' := (hb2.cell (p := ⟨b, k * 2 + 1, none⟩) hbb).trans d1
    have hk1 : (0 : Int) ≤ (k : Int) := by omega
    have hk2 : (k : Int) < (hn : Int) := by omega
    have HN := Lib.hid (And.intro hx (And.intro hpx hlt))
    clear hx hpx hlt hb2 d1 hbb
    go_wp2
    go_ret2
    exact ⟨_, true, rfl, bestOf_at HN.out.1 HN.out.2.1 HN.out.2.2, HC.out.2.1.trans (HB2.out.mono HC.out.2.1.size)⟩
end Go.Proofs.Ytegcebgoiocakaa
/- slices.DeleteFunc over spots, and a walk's leave. -/
namespace Go.Proofs.Ytegcebgoiocakaa
open Go Go.RowKit
set_option linter.unusedVariables false
set_option maxRecDepth 20000

theorem spot_zero (w : World) : (zeroValue 125).run Try.prog w = .ok (.agg #[.int .i64 0, .int .i64 0]) w := by kernel_rfl
/-- clear of spots. -/
theorem clear_spots (w : World) (ty : TypeId) (b o n c : Nat) (hn : 0 < n)
    (hc : ∀ j, j < n * 2 → (w.cell? ⟨b, o + j, none⟩).isSome = true) (hf : ∀ j, j < n * 2 → w.frozen? ⟨b, o + j, none⟩ = false) :
    (Builtin.clear_ #[88] ty #[.slice (some ⟨b, o, none⟩) n c]).run Try.prog w = .ok (.tuple #[]) (w.setCells b o (List.replicate (n * 2) (.int .i64 0))) := by
  have hzc : (Builtin.zeroCells #[.int .i64 0, .int .i64 0] n).toList = List.replicate (n * 2) (.int .i64 0) := by
    simp [Builtin.zeroCells]
    apply List.ext_getElem
    · simp
    · intro i h1 h2
      simp
      rcases Nat.mod_two_eq_zero_or_one i with h | h <;> simp [h]
  have hst := run_storeCells_cells (P := Try.prog) b o (List.replicate (n * 2) (.int .i64 0)) 0 w (by simpa using hc) (by simpa using hf) (by intro v hv'; rw [List.eq_of_mem_replicate hv']; rfl)
  simp only [Nat.add_zero] at hst
  obtain ⟨m, rfl⟩ : ∃ m, n = m + 1 := ⟨n - 1, by omega⟩
  have hu := Try.underlying88
  simp [Builtin.clear_, run_underlying hu, Value.cells, hzc, hst]
/-- A block whose cells are set. -/
theorem setCells_row (b : Nat) (t : TypeId) : ∀ (vs : List Value) (o : Nat) (w : World) (cs : Array Value), w.heap[b]? = some (.cells cs t (0, 0)) → ∃ cs', (w.setCells b o vs).heap[b]? = some (.cells cs' t (0, 0)) ∧ cs'.size = cs.size ∧ ∀ j, j < o → cs'[j]? = cs[j]?
  | [], _, _, cs, h => ⟨cs, h, rfl, fun _ _ => rfl⟩
  | v :: vs, o, w, cs, h => by
    obtain ⟨cs', h1, h2, h3⟩ := setCells_row b t vs (o + 1) (w.setCell ⟨b, o, none⟩ v) _ (heap_setCell_same w b o cs t v h)
    refine ⟨cs', h1, by rw [h2]; simp, fun j hj => ?_⟩
    rw [h3 j (by omega)]
    rw [Array.getElem?_setIfInBounds_ne (by omega)]
theorem setCells_oth (b : Nat) : ∀ (vs : List Value) (o : Nat) (w : World) (k : Nat), k ≠ b → (w.setCells b o vs).heap[k]? = w.heap[k]?
  | [], _, _, _, _ => rfl
  | v :: vs, o, w, k, h => (setCells_oth b vs (o + 1) _ k h).trans (Below.heap_setCell w _ v k h)
theorem setCells_below {B b : Nat} (hb : B ≤ b) : ∀ (vs : List Value) (o : Nat) (a w : World), Below B a w → Below B a (w.setCells b o vs)
  | [], _, _, _, h => h
  | v :: vs, o, a, w, h => setCells_below hb vs (o + 1) a _ (h.setCell (p := ⟨b, o, none⟩) hb v)
/-- What is left of those in order. -/
theorem filter_take {xs : List (Nat × Nat)} {far k : Nat} {x : Nat × Nat} (hs : xs.Pairwise fun x y => x.2 ≤ y.2) (hx : xs[k]? = some x) (hp : far < x.2) (hl : ∀ (j : Nat) (y : Nat × Nat), j < k → xs[j]? = some y → decide (far < y.2) = false) : (xs.filter fun y => decide (y.2 ≤ far)) = xs.take k := by
  have hk := (List.getElem?_eq_some_iff.1 hx).1
  have h1 : (xs.filter fun y => decide (y.2 ≤ far)) = (xs.take k ++ xs.drop k).filter fun y => decide (y.2 ≤ far) := by rw [List.take_append_drop]
  rw [h1, List.filter_append]
  have h2 : (xs.take k).filter (fun y => decide (y.2 ≤ far)) = xs.take k := List.filter_eq_self.2 fun y hy => by
    obtain ⟨j, hj, rfl⟩ := List.getElem_of_mem hy
    rw [List.length_take] at hj
    have := hl j xs[j] (by omega) (List.getElem?_eq_getElem (by omega))
    simp at this ⊢
    exact this
  have h3 : (xs.drop k).filter (fun y => decide (y.2 ≤ far)) = [] := List.filter_eq_nil_iff.2 fun y hy => by
    obtain ⟨j, hj, rfl⟩ := List.getElem_of_mem hy
    rw [List.length_drop] at hj
    have hx' : xs[k] = x := by rw [List.getElem?_eq_getElem hk] at hx; exact Option.some.inj hx
    have hle : x.2 ≤ (xs[k + j]'(by omega)).2 := by
      rcases Nat.eq_zero_or_pos j with h0 | h0
      · subst h0; simp [hx']
      · have := (List.pairwise_iff_getElem.1 hs) k (k + j) hk (by omega) (by omega)
        rw [hx'] at this
        exact this
    simp [List.getElem_drop]
    omega
  rw [h2, h3, List.append_nil]
theorem filter_all {xs : List (Nat × Nat)} {far : Nat} (h : ∀ x ∈ xs, decide (far < x.2) = false) : (xs.filter fun y => decide (y.2 ≤ far)) = xs := List.filter_eq_self.2 fun y hy => by
  have := h y hy
  simp at this ⊢
  exact this
theorem slice_from_spots (b n c k : Nat) (hk : k ≤ n) (hkc : k < c) (w : World) :
    (Instr.slice 88 (.slice (some ⟨b, 0, none⟩) n c) (some (.int .i64 (k : Int))) none none).run Try.prog w = .ok (.slice (some ⟨b, k * 2, none⟩) (n - k) (c - k)) w := by
  have hr := run_slice_l (P := Try.prog) (w := w) (t := 88) (a := some ⟨b, 0, none⟩) (len := n) (cap := c) (ht := spot_slice) (kl := .i64) (l := (k : Int)) (h0 := by omega) (h1 := by omega)
  rw [hr, spot_elem, spot_size]
  simp [Result.andThen, sliced]
  rw [if_neg (by omega)]
  simp [Addr.add]
  omega
set_option maxHeartbeats 4000000 in
theorem dele_any {W : World} {B : Nat} {H : Option Addr} {hn hc : Nat} {xs : List (Nat × Nat)} (ho : W.ownsRow B 125 2 (.slice H hn hc) hn (cellsS xs)) (hB : B ≤ W.heap.size) (hsm : hn ≤ 100000) (bx far : Nat) (hs : xs.Pairwise fun x y => x.2 ≤ y.2)
    (hbx : W.heap[bx]? = some (.cells #[.int .i64 (far : Int)] 3 (0, 0))) :
    Calls Try.prog 79 #[.slice H hn hc, .func (.func 80) #[] #[.pointer (some ⟨bx, 0, none⟩)]] W fun en w' => ∃ m, en = .returned (.slice H m hc) ∧ w'.ownsRow B 125 2 (.slice H m hc) m (cellsS (xs.filter fun y => decide (y.2 ≤ far))) ∧ Below B W w' ∧ ∀ k, k < W.heap.size → (Value.slice H hn hc).ownBlock ≠ some k → w'.heap[k]? = W.heap[k]? := by
  have hbl := (Array.getElem?_eq_some_iff.1 hbx).1
  have HI := Lib.hid (indexL_any ho hsm bx (fun x => decide (far < x.2)) fun w' hb x hx => lookL_any bx ((hb.block bx hbl).trans hbx))
  have HL := Lib.hid fun (w' : World) (hb : Below W.heap.size W w') (i f : Nat) => lookL_any (W := w') (i := i) (f := f) (far := far) bx ((hb.block bx hbl).trans hbx)
  have HO := Lib.hid (And.intro ho (And.intro (own_len ho) (And.intro hs hB)))
  clear ho hs hbx
  go_enter Try.func79, Try.ntmps79
  go_wp2_with fail
  (with_reducible refine HI.out.mono ?_)
  rintro en w2 ⟨i, rfl, hfo, hb2⟩
  have HB2 := Lib.hid hb2
  rcases hfo with ⟨rfl, hno⟩ | ⟨k, x, rfl, hx, hpx, hlt⟩
  · have HN := Lib.hid hno
    clear hno hb2
    go_wp2
    go_ret
    refine ⟨hn, rfl, ?_, HB2.out.mono HO.out.2.2.2, fun k hk _ => HB2.out.block k hk⟩
    rw [filter_all HN.out]
    exact row_keep HO.out.1 fun k hk _ => HB2.out.block k hk
  · obtain ⟨b, rfl, hkn, _, hbb, _, _, _⟩ := spot_at HO.out.1 hx
    have hk1 : (0 : Int) ≤ (k : Int) := by omega
    have hk2 : (k : Int) < (hn : Int) := by omega
    have hkm : ¬ (k : Int) = -1 := by omega
    have hke : ((k : Int) == -1) = false := by simp
    have HN := Lib.hid (And.intro hx (And.intro hpx hlt))
    clear hx hpx hlt hb2 hbb
    have HL2 := Lib.hid hbl
    clear hbl
    go_wp2_with fail
    go_loopw [5, 6] (fun v5 v6 wr => ∃ j : Nat, v5 = .int .i64 (k : Int) ∧ v6 = .int .i64 (j : Int) ∧ k < j ∧ j ≤ hn ∧ Hid (Below W.heap.size W wr)) (fun _ v6 _ => hn - (intOf v6).toNat)
    case atStart => exact ⟨k + 1, rfl, rfl, by omega, by omega, HB2⟩
    case round =>
      obtain ⟨j, rfl, rfl, hkj, hj, H1⟩ := hrel
      by_cases hl : j < hn
      · obtain ⟨y, hy⟩ : ∃ y, xs[j]? = some y := ⟨_, List.getElem?_eq_getElem (by have := HO.out.2.1; omega)⟩
        obtain ⟨b', hb', _, _, hbb, d0, d1, _⟩ := spot_at HO.out.1 hy
        injection hb' with hb'
        injection hb' with hb' _
        subst hb'
        have c0 := (H1.out.cell (p := ⟨b, j * 2, none⟩) hbb).trans d0
        have c1 := (H1.out.cell (p := ⟨b, j * 2 + 1, none⟩) hbb).trans d1
        have hfy : far < y.2 := by
          have h1 := HN.out.2.1
          simp at h1
          have hxk := HN.out.1
          have hlt := (List.getElem?_eq_some_iff.1 hxk).1
          have hlj := (List.getElem?_eq_some_iff.1 hy).1
          have h2 := (List.pairwise_iff_getElem.1 HO.out.2.2.1) k j hlt hlj hkj
          rw [List.getElem?_eq_getElem hlt] at hxk
          rw [List.getElem?_eq_getElem hlj] at hy
          injection hxk with hxk
          injection hy with hy
          rw [hxk, hy] at h2
          omega
        have hbX : Below W.heap.size W (wr.alloc (.cells #[.int .i64 (y.1 : Int), .int .i64 (y.2 : Int)] 125)) := H1.out.alloc H1.out.size _
        have HC := Lib.hid (HL.out _ hbX y.1 y.2)
        rw [decide_eq_true hfy] at HC
        have HBX := Lib.hid (And.intro hbX H1.out.size)
        have hj1 : (0 : Int) ≤ (j : Int) := by omega
        have hj2 : (j : Int) < (hn : Int) := by omega
        have b0 := cell_of_row _ wr.heap.size 0 _ _ (0, 0) (heap_alloc_new wr (.cells #[.int .i64 (y.1 : Int), .int .i64 (y.2 : Int)] 125))
        have b1 := cell_of_row _ wr.heap.size 1 _ _ (0, 0) (heap_alloc_new wr (.cells #[.int .i64 (y.1 : Int), .int .i64 (y.2 : Int)] 125))
        clear hbX hfy d0 d1 hy hbb
        go_wp2_with (go_at_call 80; (with_reducible refine HC.out.mono ?_); rintro en w7 ⟨rfl, hb7⟩; have HB7 := Lib.hid (HBX.out.1.trans (hb7.mono HBX.out.1.size)); clear hb7)
        exact ⟨⟨j + 1, rfl, rfl, by omega, hl, HB7⟩, by simp [intOf]; omega⟩
      · obtain rfl : j = hn := by omega
        have hcap : j ≤ hc ∧ hc ≤ maxLen := by
          rcases HO.out.1.2 with ⟨e, h0⟩ | ⟨_, cap, _, e, _, _, h1, h2, _⟩
          · cases e
          · injection e with _ _ e3; subst e3; exact ⟨h1, h2⟩
        have hsl := slice_from_spots b j hc k (by omega) (by omega)
        have hsu := spots_upto (some ⟨b, 0, none⟩) j hc k (by omega)
        obtain ⟨cur, hcur⟩ : ∃ cur, W.heap[b]? = some (.cells cur 125 (0, 0)) ∧ cur.size = hc * 2 ∧ cur.toList.take (j * 2) = cellsS xs := by
          rcases HO.out.1.2 with ⟨e, h0⟩ | ⟨_, cap, cu, e, _, h3, h1, h2, h4, h5⟩
          · cases e
          · injection e with e1 _ e3; injection e1 with e1; injection e1 with e1 _; subst e1; subst e3; exact ⟨cu, h3, h4, h5⟩
        have hbl := (Array.getElem?_eq_some_iff.1 hcur.1).1
        have hcw := (H1.out.block b hbl).trans hcur.1
        have hclr := fun ty => clear_spots wr ty b (k * 2) (j - k) (hc - k) (by omega) (fun i hi => by rw [cell_of_row wr b (k * 2 + i) cur _ (0, 0) hcw]; simp; omega) (fun i hi => by simp [World.frozen?, hcw])
        have HW := Lib.hid (And.intro hcur (And.intro hcw hbl))
        clear hcur hcw hbl
        go_wp2
        go_ret
        have hft := filter_take HO.out.2.2.1 HN.out.1 (by have := HN.out.2.1; simpa using this) HN.out.2.2
        obtain ⟨cur', k1, k2, k3⟩ := setCells_row b 125 (List.replicate ((j - k) * 2) (.int .i64 0)) (k * 2) wr cur HW.out.2.1
        refine ⟨k, rfl, ?_, setCells_below (by have := row_lt HO.out.1 (k := b) rfl; exact this.1) _ _ _ _ (H1.out.mono HO.out.2.2.2), fun q hq hne => ?_⟩
        · rw [hft]
          refine ⟨?_, .inr ⟨b, hc, cur', rfl, (row_lt HO.out.1 (k := b) rfl).1, k1, by omega, hcap.2, by rw [k2]; exact HW.out.1.2.1, ?_⟩⟩
          · rw [cellsS_length, List.length_take, HO.out.2.1]; omega
          · have e1 : cellsS (xs.take k) = (cellsS xs).take (k * 2) := by
              have : cellsS xs = cellsS (xs.take k) ++ cellsS (xs.drop k) := by rw [← cellsS_append, List.take_append_drop]
              rw [this, List.take_left' (by rw [cellsS_length, List.length_take, HO.out.2.1]; omega)]
            rw [e1, ← HW.out.1.2.2, List.take_take, Nat.min_eq_left (by omega)]
            apply List.ext_getElem?
            intro i
            rcases Nat.lt_or_ge i (k * 2) with hi | hi
            · rw [List.getElem?_take_of_lt hi, List.getElem?_take_of_lt hi, Array.getElem?_toList, Array.getElem?_toList]
              exact k3 i hi
            · rw [List.getElem?_take_eq_none hi, List.getElem?_take_eq_none hi]
        · rw [setCells_oth b _ _ _ q (fun e => hne (by rw [e]; rfl))]
          exact H1.out.block q hq
set_option maxHeartbeats 4000000 in
theorem leave_any {B g mb : Nat} {e : WEnv} {w : World} {at_ : Nat} {here : List (Nat × Nat)} {last : SRow} {met : List Int} (h : WalkS B g mb e w at_ here last met) (hnl : here.length ≤ 100000) (hs : here.Pairwise fun x y => x.2 ≤ y.2) (far : Nat) :
    Calls Try.prog 48 #[.pointer (some ⟨g, 0, none⟩), .int .i64 (far : Int)] w fun en w' => en = .returned (.tuple #[]) ∧ WalkS B g mb e w' at_ (here.filter fun y => decide (y.2 ≤ far)) last met ∧ Tch B g mb w w' := by
  have hb0 : Below w.heap.size w (w.alloc (.cells #[.int .i64 (far : Int)] 3)) := (Below.refl _ _).alloc (Nat.le_refl _) _
  have hbox := heap_alloc_new w (.cells #[.int .i64 (far : Int)] 3)
  obtain ⟨H, hn, hc, hC0⟩ := h
  have hC := hC0.below hb0
  have c4 := hC.cells.2.2.2.2.1
  have hlen := own_len hC.row
  have hgl := hC.lt.1
  have hBX : B ≤ (w.alloc (.cells #[.int .i64 (far : Int)] 3)).heap.size := by have := hC.lt; have := hC.hB; omega
  have HD := Lib.hid (dele_any hC.row hBX (by omega) w.heap.size far hs hbox)
  have HC := Lib.hid (And.intro hC0 (And.intro hC (And.intro hb0 hBX)))
  clear hC hC0 hb0 hbox hlen hBX
  go_enter Try.func48, Try.ntmps48
  go_wp2_with fail
  (with_reducible refine HD.out.mono ?_)
  rintro en w2 ⟨m, rfl, hrow, hb2, hk⟩
  have hC := HC.out.2.1
  have hoX := HC.out.2.2.2
  have hg2 : w2.heap[g]? = some (.cells (walkV e at_ H hn hc last.A last.n last.c mb) 90 (0, 0)) := (hk g hgl (row_ne_blk hC.row hC.hg (by decide))).trans hC.hg
  have hm2 := (hk mb hC.lt.2.1 (row_ne_blk hC.row hC.hm (by decide))).trans hC.hm
  have hold : w2.ownsRow B 125 2 (.slice last.A last.n last.c) last.n (cellsS last.xs) := row_keep hC.old fun k hkl hv => hk k hkl fun e => hC.ne k e hv
  have c4' : w2.cell? ⟨g, 4, none⟩ = some (.slice H hn hc) := cell_of_row _ g 4 _ _ (0, 0) hg2
  have f4 : w2.frozen? ⟨g, 4, none⟩ = false := by simp [World.frozen?, hg2]
  have hoth : ∀ k, k ≠ g → (w2.setCell ⟨g, 4, none⟩ (.slice H m hc)).heap[k]? = w2.heap[k]? := fun k hk => Below.heap_setCell _ _ _ _ hk
  have hbf : Below B w (w2.setCell ⟨g, 4, none⟩ (.slice H m hc)) := ((HC.out.2.2.1.mono (by have := HC.out.1.lt; have := HC.out.1.hB; omega)).trans hb2).setCell (p := ⟨g, 4, none⟩) hC.hB _
  have hown : (Value.slice H m hc).ownBlock = (Value.slice H hn hc).ownBlock := by cases H <;> rfl
  have hCn : WalkC B g mb e (w2.setCell ⟨g, 4, none⟩ (.slice H m hc)) at_ H m hc (here.filter fun y => decide (y.2 ≤ far)) last.A last.n last.c last.xs met := by
    refine ⟨?_, (hoth mb (Ne.symm hC.lt.2.2)).trans hm2, hC.hml, hC.hB, hC.hBm, row_keep hrow fun k hk hv => hoth k fun e => ?_, row_keep hold fun k hk hv => hoth k fun e => ?_, fun b h1 => hC.ne b (hown ▸ h1), HC.out.1.ins.below hbf, HC.out.1.ways.below hbf, hC.win, hC.small⟩
    · rw [heap_setCell_same w2 g 4 _ _ _ hg2]; rfl
    · exact row_ne_blk hrow hg2 (by decide) (by rw [hv, e])
    · exact row_ne_blk hold hg2 (by decide) (by rw [hv, e])
  have hT : Tch B g mb w (w2.setCell ⟨g, 4, none⟩ (.slice H m hc)) := tch_of HC.out.1 hCn hbf fun k hkl k1 k2 k3 k4 => ⟨by rw [hoth k k1, hk k (Nat.lt_of_lt_of_le hkl HC.out.2.2.1.size) k3]; exact HC.out.2.2.1.block k hkl, by rw [hown]; exact k3, k4⟩
  have HF := Lib.hid (And.intro hCn hT)
  clear hC hoX hg2 hm2 hold hoth hbf hown hCn hT hrow hb2 hk c4
  go_wp2
  go_end0
  exact ⟨rfl, ⟨_, _, _, HF.out.1⟩, HF.out.2⟩
end Go.Proofs.Ytegcebgoiocakaa
