/- What a pipe tells: Closed, Sent, Ready, Waits; Close. -/
import Derived.Test.YtmmfioemnoijoaaPipM
namespace Go.Proofs.Ytmmfioemnoijoaa
open Go Go.RowKit
set_option linter.unusedVariables false
set_option maxRecDepth 20000

/-- Where a sender's offer stands, counted from k on; below 0: it has none. -/
def atI : List (Int × It) → Int → Int → Int
  | [], _, _ => -1
  | o :: r, who, k => if o.1 = who then k else atI r who (k + 1)
theorem atI_cases (who : Int) : ∀ (l : List (Int × It)) (k : Nat), (atI l who k = -1 ∧ ∀ o ∈ l, o.1 ≠ who) ∨ ∃ j : Nat, atI l who k = ((k + j : Nat) : Int) ∧ j < l.length ∧ (∃ o, l[j]? = some o ∧ o.1 = who) ∧ ∀ i, i < j → ∀ o, l[i]? = some o → o.1 ≠ who
  | [], k => .inl ⟨rfl, by simp⟩
  | o :: r, k => by
    by_cases h : o.1 = who
    · exact .inr ⟨0, by simp [atI, h], by simp, ⟨o, rfl, h⟩, fun i hi => by omega⟩
    · have ih := atI_cases who r (k + 1)
      have e : atI (o :: r) who k = atI r who ((k + 1 : Nat) : Int) := by simp [atI, h]
      rw [e]
      rcases ih with ⟨h1, h2⟩ | ⟨j, h1, h2, h3, h4⟩
      · exact .inl ⟨h1, fun p hp => by
          rcases List.mem_cons.1 hp with rfl | hp
          · exact h
          · exact h2 p hp⟩
      · refine .inr ⟨j + 1, by rw [h1]; congr 1; omega, by simp; omega, h3, fun i hi p hp => ?_⟩
        rcases i with _ | i
        · simp only [List.getElem?_cons_zero, Option.some.injEq] at hp
          subst hp
          exact h
        · exact h4 i (by omega) p (by simpa using hp)

theorem offer_cells : Try.prog.cellsOf 64 = 8 := by kernel_rfl
theorem item_cells : Try.prog.cellsOf 36 = 7 := by kernel_rfl

/-- The closure's look at one offer. -/
theorem look_any (o : Int × It) (who : Int) (g : Nat) (W : World) (hg : W.cell? ⟨g, 0, none⟩ = some (.int .i64 who)) (hlt : g < W.heap.size) :
    Calls Try.prog 33 #[ofVal o, .pointer (some ⟨g, 0, none⟩)] W fun e w' => e = .returned (.bool (o.1 == who)) ∧ Below W.heap.size W w' := by
  have hb := ((Below.refl W.heap.size W).alloc (Nat.le_refl _) (.cells #[.int .i64 o.1, .int .i64 o.2.n, .int .i64 o.2.b, .int .i64 o.2.rn, .int .i64 o.2.ra, .string o.2.tx, .slice o.2.hA o.2.hm o.2.hc, .int .i64 o.2.e] 64))
  have hg2 := hb.cell (p := ⟨g, 0, none⟩) hlt
  rw [hg] at hg2
  have HB := Lib.hid hb
  clear hg hb
  unfold ofVal
  go_enter Try.func33, Try.ntmps33
  go_wp2
  go_ret
  exact ⟨rfl, HB.out⟩

set_option maxHeartbeats 1000000 in
theorem index_any (s : List (Int × It)) (A : Option Addr) (n c : Nat) (who : Int) (g : Nat) (W : World) (hin : ReadR 0 W A n 8 (s.map ofCells)) (hn : n ≤ 2000000) (hg : W.cell? ⟨g, 0, none⟩ = some (.int .i64 who)) (hlt : g < W.heap.size) :
    Calls Try.prog 32 #[.slice A n c, .func (.func 33) #[] #[.pointer (some ⟨g, 0, none⟩)]] W fun e w' => e = .returned (.int .i64 (atI s who 0)) ∧ Below W.heap.size W w' := by
  have HR := Lib.hid hin
  have hls : s.length = n := by have := hin.1.1; simpa using this
  clear hin
  have HLS := Lib.hid hls
  clear hls
  have HG := Lib.hid (And.intro hg hlt); clear hg hlt
  have hcl := offer_cells
  go_enter Try.func32, Try.ntmps32
  go_wp2
  go_loopw [8] (fun vi wr => ∃ (k : Nat), vi = .int .i64 (k : Int) ∧ k ≤ n ∧ Hid (atI s who 0 = atI (s.drop k) who (k : Int) ∧ Below W.heap.size W wr)) (fun vi _ => n - (intOf vi).toNat)
  case atStart => exact ⟨0, rfl, Nat.zero_le _, Lib.hid ⟨rfl, Below.refl _ _⟩⟩
  case round =>
    obtain ⟨k, rfl, hk, HO⟩ := hrel
    by_cases hl : k < n
    · obtain ⟨b, o', rfl, _, hbw, hc⟩ := HR.out.2 (by omega)
      obtain ⟨x, hx⟩ : ∃ x, s[k]? = some x := ⟨_, List.getElem?_eq_getElem (by rw [HLS.out]; exact hl)⟩
      have hc' := fun i v hv => (HO.out.2.cell (p := ⟨b, o' + k * 8 + i, none⟩) hbw).trans (hc k (ofCells x) (by simp [hx]) i v hv)
      have d0 := hc' 0 _ rfl
      have d1 := hc' 1 _ rfl
      have d2 := hc' 2 _ rfl
      have d3 := hc' 3 _ rfl
      have d4 := hc' 4 _ rfl
      have d5 := hc' 5 _ rfl
      have d6 := hc' 6 _ rfl
      have d7 := hc' 7 _ rfl
      simp only [Nat.add_zero] at d0
      have hd : s.drop k = x :: s.drop (k + 1) := by
        obtain ⟨h1, h2⟩ := List.getElem?_eq_some_iff.1 hx
        rw [List.drop_eq_getElem_cons h1, h2]
      have h1 := HO.out.1
      rw [hd] at h1
      have HC := Lib.hid (look_any x who g wr ((HO.out.2.cell (p := ⟨g, 0, none⟩) HG.out.2).trans HG.out.1) (Nat.lt_of_lt_of_le HG.out.2 HO.out.2.size))
      unfold ofVal at HC
      clear hc hc' hx hd
      by_cases hxy : x.1 = who
      · have HF : Hid (atI s who 0 = (k : Int)) := Lib.hid (by rw [h1]; simp [atI, hxy])
        have hbq : (x.1 == who) = true := by simpa using hxy
        clear h1 hxy
        go_wp2_with (go_at_call 33; refine HC.out.mono ?_; rintro e w1 ⟨rfl, hb1⟩; rw [hbq]; have HB1 := Lib.hid (HO.out.2.trans (hb1.mono HO.out.2.size)); clear hb1)
        go_ret
        rw [HF.out]
        exact ⟨rfl, HB1.out⟩
      · have HF : Hid (atI s who 0 = atI (s.drop (k + 1)) who ((k + 1 : Nat) : Int)) := Lib.hid (by rw [h1]; simp [atI, hxy])
        have hbq : (x.1 == who) = false := by simpa using hxy
        clear h1 hxy
        go_wp2_with (go_at_call 33; refine HC.out.mono ?_; rintro e w1 ⟨rfl, hb1⟩; rw [hbq]; have HB1 := Lib.hid (HO.out.2.trans (hb1.mono HO.out.2.size)); clear hb1)
        exact ⟨⟨k + 1, by go_num, by omega, Lib.hid ⟨HF.out, HB1.out⟩⟩, by simp [intOf]; omega⟩
    · have hkn : k = n := by omega
      subst hkn
      have HF : Hid (atI s who 0 = -1) := Lib.hid (by rw [HO.out.1, List.drop_of_length_le (by rw [HLS.out]; exact Nat.le_refl _)]; rfl)
      go_wp2
      go_ret
      rw [HF.out]
      exact ⟨rfl, HO.out.2⟩

section
variable {w w' : World} {B g room : Nat} {F : Nat → Prop} {IV OV : Value} {ins : List It} {ofs : List (Int × It)} {sent : Int} {closed : Bool}
theorem place_any (h : PipeC w B F g IV OV room ins ofs sent closed) (who : Int) (hn : ofs.length ≤ 100000) :
    Calls Try.prog 27 #[.pointer (some ⟨g, 0, none⟩), .int .i64 who] w fun e w' => e = .returned (.int .i64 (atI ofs who 0)) ∧ Below w.heap.size w w' := by
  obtain ⟨A, c, hV, hr, h1, h2, h3⟩ := h.ro.read
  have hb : Below w.heap.size w (w.alloc (.cells #[.int .i64 who] 3)) := (Below.refl _ _).alloc (Nat.le_refl _) _
  have c2 := (hb.cell (p := ⟨g, 2, none⟩) h.lt).trans h.c2
  have hg0 : (w.alloc (.cells #[.int .i64 who] 3)).cell? ⟨w.heap.size, 0, none⟩ = some (.int .i64 who) := cell_of_row _ w.heap.size 0 _ _ (0, 0) (heap_alloc_new w _)
  have hI := index_any ofs A ofs.length c who w.heap.size (w.alloc (.cells #[.int .i64 who] 3)) (by simpa using hr.below hb) (by omega) hg0 (by simp)
  rw [List.length_map] at hV
  subst hV
  have HI := Lib.hid hI
  have HB := Lib.hid hb
  clear h hr h1 h2 h3 hI hg0 hb
  obtain ⟨W, hW⟩ : ∃ W, W = w.alloc (.cells #[.int .i64 who] 3) := ⟨_, rfl⟩
  go_enter Try.func27, Try.ntmps27
  go_wp2_with fail
  refine HI.out.mono ?_; rintro e w' ⟨rfl, hb1⟩
  have HB1 := Lib.hid (HB.out.trans (hb1.mono HB.out.size))
  clear hb1
  go_wp2_with fail
  go_ret
  exact ⟨rfl, HB1.out⟩
theorem waits_any (h : PipeC w B F g IV OV room ins ofs sent closed) (who : Int) (hn : ofs.length ≤ 100000) :
    Calls Try.prog 19 #[.pointer (some ⟨g, 0, none⟩), .int .i64 who] w fun e w' => e = .returned (.bool (decide (0 ≤ atI ofs who 0))) ∧ Below w.heap.size w w' := by
  have HP := Lib.hid (place_any h who hn)
  clear h
  obtain ⟨x, hx⟩ : ∃ x, x = atI ofs who 0 := ⟨_, rfl⟩
  rw [← hx] at HP ⊢
  clear hx
  go_enter Try.func19, Try.ntmps19
  go_wp2_with fail
  refine HP.out.mono ?_; rintro e w' ⟨rfl, hb1⟩
  have HB1 := Lib.hid hb1
  clear hb1
  go_wp2_with fail
  go_ret
  exact ⟨rfl, HB1.out⟩
theorem closed_any (h : PipeC w B F g IV OV room ins ofs sent closed) :
    Calls Try.prog 21 #[.pointer (some ⟨g, 0, none⟩)] w fun e w' => e = .returned (.bool closed) ∧ w = w' := by
  have c4 := h.c4
  clear h
  go_enter Try.func21, Try.ntmps21
  go_wp2_with fail
  go_ret
  exact ⟨rfl, rfl⟩
theorem sent_any (h : PipeC w B F g IV OV room ins ofs sent closed) :
    Calls Try.prog 22 #[.pointer (some ⟨g, 0, none⟩)] w fun e w' => e = .returned (.int .i64 sent) ∧ w = w' := by
  have c3 := h.c3
  clear h
  go_enter Try.func22, Try.ntmps22
  go_wp2_with fail
  go_ret
  exact ⟨rfl, rfl⟩
theorem ready_any (h : PipeC w B F g IV OV room ins ofs sent closed) (hn : ofs.length ≤ 100000) (hm : ins.length ≤ 100000) :
    Calls Try.prog 23 #[.pointer (some ⟨g, 0, none⟩)] w fun e w' => e = .returned (.bool (closed || decide (0 < ins.length + ofs.length))) ∧ ∃ q, w' = w.drewN q := by
  have c1 := h.c1
  have c2 := h.c2
  have c4 := h.c4
  obtain ⟨A, c, hV, -, -, -⟩ := h.ri.slice
  obtain ⟨D, d, hU, -, -, -⟩ := h.ro.slice
  rw [List.length_map] at hV hU
  subst hV; subst hU
  clear h
  obtain ⟨p, hp⟩ : ∃ p, p = ins.length := ⟨_, rfl⟩
  obtain ⟨q, hq⟩ : ∃ q, q = ofs.length := ⟨_, rfl⟩
  rw [← hp] at c1 hm ⊢
  rw [← hq] at c2 hn ⊢
  clear hp hq
  rcases closed with _ | _
  · obtain ⟨x, hx⟩ : ∃ x, x = decide (0 < p + q) := ⟨_, rfl⟩
    have hx2 : decide ((0 : Int) < (p : Int) + (q : Int)) = x := by rw [hx]; simp; omega
    rw [← hx]
    clear hx
    go_enter Try.func23, Try.ntmps23
    go_wp2_with fail
    go_quiet (fail)
    go_wp2_with fail
    go_ret
    exact ⟨by simp, _, rfl⟩
  · go_enter Try.func23, Try.ntmps23
    go_wp2_with fail
    go_quiet (fail)
    go_wp2_with fail
    go_ret
    exact ⟨rfl, _, rfl⟩
/-- What Close answers. -/
def closeE (ofs : List (Int × It)) (closed : Bool) : Int := if closed = true then 17 else if 0 < ofs.length then 18 else 0
theorem close_any (h : PipeC w B F g IV OV room ins ofs sent closed) (hn : ofs.length ≤ 100000) :
    Calls Try.prog 16 #[.pointer (some ⟨g, 0, none⟩)] w fun e w' => e = .returned (.int .i64 (closeE ofs closed)) ∧ PipeC w' B F g IV OV room ins ofs sent (closed || decide (closeE ofs closed = 0)) ∧ Moved F w w' := by
  rcases closed with _ | _
  · by_cases h0 : 0 < ofs.length
    · have e1 : closeE ofs false = 18 := by simp [closeE, h0]
      rw [e1]
      have HF := Lib.hid (And.intro (show PipeC w B F g IV OV room ins ofs sent (false || decide ((18 : Int) = 0)) from h) (Moved.refl F w))
      have c2 := h.c2
      have c4 := h.c4
      obtain ⟨D, d, hU, -, -, -⟩ := h.ro.slice
      rw [List.length_map] at hU
      subst hU
      clear h e1
      obtain ⟨q, hq⟩ : ∃ q, q = ofs.length := ⟨_, rfl⟩
      rw [← hq] at c2 hn h0
      have HQ := Lib.hid hq
      clear hq
      have hd : decide ((0 : Int) < (q : Int)) = true := by simpa using h0
      go_enter Try.func16, Try.ntmps16
      go_wp2_with fail
      go_ret
      exact ⟨rfl, HF.out⟩
    · have e1 : closeE ofs false = 0 := by simp [closeE, h0]
      rw [e1]
      have HF := Lib.hid (And.intro (show PipeC (w.setCell ⟨g, 4, none⟩ (.bool true)) B F g IV OV room ins ofs sent (false || decide ((0 : Int) = 0)) from h.setC) ((Moved.refl F w).setCell (p := ⟨g, 4, none⟩) (.inl h.fg) (.bool true)))
      have c2 := h.c2
      have c4 := h.c4
      have f4 := h.fz 4
      obtain ⟨D, d, hU, -, -, -⟩ := h.ro.slice
      have hq : ofs.length = 0 := by omega
      rw [List.length_map, hq] at hU
      subst hU
      clear h e1 hq h0 hn
      go_enter Try.func16, Try.ntmps16
      go_wp2_with fail
      go_ret
      exact ⟨rfl, HF.out⟩
  · have HF := Lib.hid (And.intro (show PipeC w B F g IV OV room ins ofs sent (true || decide (closeE ofs true = 0)) from h) (Moved.refl F w))
    have e1 : closeE ofs true = 17 := rfl
    rw [e1] at HF ⊢
    have c4 := h.c4
    clear h e1
    go_enter Try.func16, Try.ntmps16
    go_wp2_with fail
    go_ret
    exact ⟨rfl, HF.out⟩
end
end Go.Proofs.Ytmmfioemnoijoaa
