/- The document's pipe: its block, its line, which is never written twice; who waits, Close. -/
import Derived.Test.YtmmfioemnoijoaaPipW
namespace Go.Proofs.Ytmmfioemnoijoaa
open Go Go.RowKit
set_option linter.unusedVariables false
set_option maxRecDepth 20000

theorem info_thing : (Try.prog.info? 54).map (fun i => (i.zero, i.size, i.bytes)) = some (some (.agg #[.int .i64 0, .int .i64 0, .int .i64 0, .int .i64 0, .int .i64 0, .string ⟨#[]⟩, .slice none 0 0, .int .i64 0]), 8, 88) := by kernel_rfl
theorem thing_cells : Try.prog.cellsOf 54 = 8 := by kernel_rfl
/-- The document's pipe that lies in block r, its memory in the blocks of D. -/
structure DocC (w : World) (B : Nat) (D : Nat → Prop) (r : Nat) (A : Option Addr) (c room : Nat) (L : List (Int × It)) (closed : Bool) (sent : Int) : Prop where
  low : ∀ k, D k → B ≤ k ∧ k < w.heap.size
  dr : D r
  da : ∀ a, A = some a → D a.block ∧ a.block ≠ r
  blk : w.heap[r]? = some (.cells #[.slice A L.length c, .int .i64 (room : Int), .bool closed, .int .i64 sent] 31 (0, 0))
  rd : ReadR 0 w A L.length 8 (L.map ofCells)
  cap : L.length ≤ c ∧ c ≤ maxLen ∧ (A = none → c = 0)

section
variable {w w' : World} {B r c room : Nat} {D : Nat → Prop} {A : Option Addr} {L : List (Int × It)} {sent : Int} {closed : Bool}
theorem DocC.lt (h : DocC w B D r A c room L closed sent) : r < w.heap.size := (h.low r h.dr).2
theorem DocC.c0 (h : DocC w B D r A c room L closed sent) : w.cell? ⟨r, 0, none⟩ = some (.slice A L.length c) := cell_of_row w r 0 _ _ (0, 0) h.blk
theorem DocC.c1 (h : DocC w B D r A c room L closed sent) : w.cell? ⟨r, 1, none⟩ = some (.int .i64 (room : Int)) := cell_of_row w r 1 _ _ (0, 0) h.blk
theorem DocC.c2 (h : DocC w B D r A c room L closed sent) : w.cell? ⟨r, 2, none⟩ = some (.bool closed) := cell_of_row w r 2 _ _ (0, 0) h.blk
theorem DocC.c3 (h : DocC w B D r A c room L closed sent) : w.cell? ⟨r, 3, none⟩ = some (.int .i64 sent) := cell_of_row w r 3 _ _ (0, 0) h.blk
theorem DocC.fz (h : DocC w B D r A c room L closed sent) (j : Nat) : w.frozen? ⟨r, j, none⟩ = false := by have := h.blk; simp [World.frozen?, this]
theorem DocC.keep (h : DocC w B D r A c room L closed sent) (hs' : ∀ k, D k → w'.heap[k]? = w.heap[k]?) (hz : w.heap.size ≤ w'.heap.size) : DocC w' B D r A c room L closed sent where
  low := fun k hk => ⟨(h.low k hk).1, Nat.lt_of_lt_of_le (h.low k hk).2 hz⟩
  dr := h.dr
  da := h.da
  blk := (hs' r h.dr).trans h.blk
  rd := by
    refine ⟨h.rd.1, fun hn => ?_⟩
    obtain ⟨b, o, hA, h0, hlt, hc⟩ := h.rd.2 hn
    refine ⟨b, o, hA, h0, Nat.lt_of_lt_of_le hlt hz, fun j x hx i v hv => ?_⟩
    rw [World.cell?_of_block (w := w) (w' := w') (a := ⟨b, o + j * 8 + i, none⟩) (hs' b (h.da _ hA).1)]
    exact hc j x hx i v hv
  cap := h.cap
theorem DocC.below (h : DocC w B D r A c room L closed sent) (hb : Below w.heap.size w w') : DocC w' B D r A c room L closed sent := h.keep (fun k hk => hb.block k (h.low k hk).2) hb.size
theorem DocC.moved (h : DocC w B D r A c room L closed sent) {F2 : Nat → Prop} (hm : Moved F2 w w') (hd : ∀ k, D k → ¬ F2 k) : DocC w' B D r A c room L closed sent :=
  h.keep (fun k hk => hm.block k (h.low k hk).2 (hd k hk)) hm.size
/-- The row stays where the pipe's block is written. -/
theorem DocC.rdset (h : DocC w B D r A c room L closed sent) (j : Nat) (v : Value) : ReadR 0 (w.setCell ⟨r, j, none⟩ v) A L.length 8 (L.map ofCells) := by
  refine ⟨h.rd.1, fun hn => ?_⟩
  obtain ⟨b, o, hA, h0, hlt, hc⟩ := h.rd.2 hn
  refine ⟨b, o, hA, h0, by simpa using hlt, fun j' x hx i u hu => ?_⟩
  rw [World.cell?_of_block (w := w) (w' := w.setCell ⟨r, j, none⟩ v) (a := ⟨b, o + j' * 8 + i, none⟩) (Below.heap_setCell _ _ _ _ (h.da _ hA).2)]
  exact hc j' x hx i u hu
theorem DocC.setC (h : DocC w B D r A c room L closed sent) : DocC (w.setCell ⟨r, 2, none⟩ (.bool true)) B D r A c room L true sent :=
  ⟨fun k hk => by simpa using h.low k hk, h.dr, h.da, heap_setCell_same w r 2 _ _ _ h.blk, h.rdset _ _, h.cap⟩
theorem DocC.setS (h : DocC w B D r A c room L closed sent) (x : Int) : DocC (w.setCell ⟨r, 3, none⟩ (.int .i64 x)) B D r A c room L closed x :=
  ⟨fun k hk => by simpa using h.low k hk, h.dr, h.da, heap_setCell_same w r 3 _ _ _ h.blk, h.rdset _ _, h.cap⟩
/-- A new line is stored, which lies in memory that was made since, or is empty. -/
theorem DocC.setL (h : DocC w B D r A c room L closed sent) (hb : Below w.heap.size w w') {A' : Option Addr} {c' : Nat} {L' : List (Int × It)} (hr : RecW w' w.heap.size 54 8 (.slice A' L'.length c') (L'.map ofCells)) :
    DocC (w'.setCell ⟨r, 0, none⟩ (.slice A' L'.length c')) B (fun k => D k ∨ (w.heap.size ≤ k ∧ k < w'.heap.size)) r A' c' room L' closed sent := by
  have hgg := (hb.block r h.lt).trans h.blk
  have hz := hb.size
  have hlo : ∀ a, A' = some a → w.heap.size ≤ a.block ∧ a.block < w'.heap.size := fun a ha => row_lt hr.1 (by rw [ha]; rfl)
  obtain ⟨A2, c2, e1, hrd, h2, h3, h4⟩ := hr.read
  injection e1 with e1 e2 e3
  subst e1; subst e3
  rw [List.length_map] at hrd h2
  refine ⟨fun k hk => ?_, .inl h.dr, fun a ha => ⟨.inr (hlo a ha), by have := (hlo a ha).1; have := h.lt; omega⟩, heap_setCell_same w' r 0 _ _ _ hgg, ?_, h2, h3, fun h => (h4 h).2⟩
  · have : (w'.setCell ⟨r, 0, none⟩ (.slice A' L'.length c')).heap.size = w'.heap.size := by simp
    rw [this]
    rcases hk with hk | hk
    · have := h.low k hk; omega
    · have := h.low r h.dr; omega
  · refine (hrd.keep (w' := w'.setCell ⟨r, 0, none⟩ (.slice A' L'.length c')) (Nat.le_of_eq (by simp)) fun b hb _ => Below.heap_setCell _ _ _ _ (by have := h.lt; show b ≠ r; omega)).base (Nat.zero_le _)
/-- Where a sender's offer stands, counted from any place on. -/
theorem atI_shift (who : Int) : ∀ (l : List (Int × It)) (k q : Nat), (atI l who k = -1 ∧ atI l who q = -1) ∨ ∃ j : Nat, j < l.length ∧ atI l who k = ((k + j : Nat) : Int) ∧ atI l who q = ((q + j : Nat) : Int)
  | [], k, q => .inl ⟨rfl, rfl⟩
  | o :: l, k, q => by
    by_cases h : o.1 = who
    · exact .inr ⟨0, by simp, by simp [atI, h], by simp [atI, h]⟩
    · have e : ∀ m : Nat, atI (o :: l) who m = atI l who ((m + 1 : Nat) : Int) := fun m => by simp [atI, h]
      rw [e k, e q]
      rcases atI_shift who l (k + 1) (q + 1) with h1 | ⟨j, h1, h2, h3⟩
      · exact .inl h1
      · exact .inr ⟨j + 1, by simp; omega, by rw [h2]; congr 1; omega, by rw [h3]; congr 1; omega⟩
def docI (room : Nat) (L : List (Int × It)) (who : Int) : Int := atI (L.drop room) who (room : Int)
theorem docI_cases (room : Nat) (L : List (Int × It)) (who : Int) : (docI room L who = -1 ∧ offI room L who = -1) ∨ ∃ j : Nat, room + j < L.length ∧ docI room L who = ((room + j : Nat) : Int) ∧ offI room L who = (j : Int) := by
  rcases atI_shift who (L.drop room) room 0 with h | ⟨j, h1, h2, h3⟩
  · exact .inl h
  · rw [List.length_drop] at h1
    exact .inr ⟨j, by omega, h2, by rw [Nat.zero_add] at h3; exact h3⟩
theorem docI_off (room : Nat) (L : List (Int × It)) (who : Int) : 0 ≤ docI room L who ↔ 0 ≤ offI room L who := by
  rcases docI_cases room L who with ⟨h1, h2⟩ | ⟨j, _, h1, h2⟩ <;> rw [h1, h2] <;> omega

set_option maxHeartbeats 2000000 in
theorem dat_any (h : DocC w B D r A c room L closed sent) (who : Int) (hl : L.length ≤ 100000) (hr : room ≤ 64) :
    Calls Try.prog 29 #[.pointer (some ⟨r, 0, none⟩), .int .i64 who] w fun e w' => e = .returned (.int .i64 (docI room L who)) ∧ Below w.heap.size w w' := by
  have H := Lib.hid h
  have c0 := h.c0
  have c1 := h.c1
  obtain ⟨n, hn⟩ : ∃ n, n = L.length := ⟨_, rfl⟩
  rw [← hn] at c0 hl
  have HN := Lib.hid hn
  have HC := Lib.hid (fun w' (hb : Below w.heap.size w w') => (h.below hb).c0)
  rw [← hn] at HC
  clear h hn
  have hcl := thing_cells
  go_enter Try.func29, Try.ntmps29
  go_wp2
  go_loopw [5] (fun vi wr => ∃ (k : Nat), vi = .int .i64 (k : Int) ∧ room ≤ k ∧ (k ≤ n ∨ k = room) ∧ Hid (docI room L who = atI (L.drop k) who (k : Int) ∧ Below w.heap.size w wr)) (fun vi _ => n - (intOf vi).toNat)
  case atStart => exact ⟨room, rfl, Nat.le_refl _, .inr rfl, Lib.hid ⟨rfl, Below.refl _ _⟩⟩
  case round =>
    obtain ⟨k, rfl, hrk, hk, HO⟩ := hrel
    have d9 := HC.out wr HO.out.2
    by_cases hlt : k < n
    · obtain ⟨b, o, hA, _, hbw, hc⟩ := H.out.rd.2 (by rw [← HN.out]; omega)
      obtain ⟨x, hx⟩ : ∃ x, L[k]? = some x := ⟨_, List.getElem?_eq_getElem (by rw [← HN.out]; exact hlt)⟩
      have d0 := (HO.out.2.cell (p := ⟨b, o + k * 8 + 0, none⟩) hbw).trans (hc k (ofCells x) (by simp [hx]) 0 _ rfl)
      simp only [Nat.add_zero] at d0
      have hd : L.drop k = x :: L.drop (k + 1) := by
        obtain ⟨h1, h2⟩ := List.getElem?_eq_some_iff.1 hx
        rw [List.drop_eq_getElem_cons h1, h2]
      have h1 := HO.out.1
      rw [hd] at h1
      subst hA
      clear hc hx hd
      by_cases hxy : x.1 = who
      · have HF : Hid (docI room L who = (k : Int)) := Lib.hid (by rw [h1]; simp [atI, hxy])
        have hbq : (x.1 == who) = true := by simpa using hxy
        obtain ⟨y, hy⟩ : ∃ y, y = x.1 := ⟨_, rfl⟩
        rw [← hy] at d0 hbq
        clear h1 hxy hy
        go_wp2
        go_ret
        rw [HF.out]
        exact ⟨rfl, HO.out.2⟩
      · have HF : Hid (docI room L who = atI (L.drop (k + 1)) who ((k + 1 : Nat) : Int)) := Lib.hid (by rw [h1]; simp [atI, hxy])
        have hbq : (x.1 == who) = false := by simpa using hxy
        obtain ⟨y, hy⟩ : ∃ y, y = x.1 := ⟨_, rfl⟩
        rw [← hy] at d0 hbq
        clear h1 hxy hy
        go_wp2
        exact ⟨⟨k + 1, by go_num, by omega, .inl (by omega), Lib.hid ⟨HF.out, HO.out.2⟩⟩, by simp [intOf]; omega⟩
    · have HF : Hid (docI room L who = -1) := Lib.hid (by rw [HO.out.1, List.drop_of_length_le (by rw [← HN.out]; omega)]; rfl)
      go_wp2
      go_ret
      rw [HF.out]
      exact ⟨rfl, HO.out.2⟩
theorem dwaits_any (h : DocC w B D r A c room L closed sent) (who : Int) (hl : L.length ≤ 100000) (hr : room ≤ 64) :
    Calls Try.prog 20 #[.pointer (some ⟨r, 0, none⟩), .int .i64 who] w fun e w' => e = .returned (.bool (decide (0 ≤ offI room L who))) ∧ Below w.heap.size w w' := by
  have HP := Lib.hid (dat_any h who hl hr)
  rw [show decide (0 ≤ offI room L who) = decide (0 ≤ docI room L who) by rw [decide_eq_decide, docI_off]]
  clear h
  obtain ⟨x, hx⟩ : ∃ x, x = docI room L who := ⟨_, rfl⟩
  rw [← hx] at HP ⊢
  clear hx
  go_enter Try.func20, Try.ntmps20
  go_wp2_with fail
  refine HP.out.mono ?_; rintro e w' ⟨rfl, hb1⟩
  have HB1 := Lib.hid hb1
  clear hb1
  go_wp2_with fail
  go_ret
  exact ⟨rfl, HB1.out⟩
theorem dclose_any (h : DocC w B D r A c room L closed sent) (hl : L.length ≤ 100000) (hr : room ≤ 64) :
    Calls Try.prog 17 #[.pointer (some ⟨r, 0, none⟩)] w fun e w' => e = .returned (.int .i64 (shutE room L closed)) ∧ DocC w' B D r A c room L (closed || decide (shutE room L closed = 0)) sent ∧ Moved D w w' := by
  have c0 := h.c0
  have c1 := h.c1
  have c2 := h.c2
  rcases closed with _ | _
  · by_cases h0 : room < L.length
    · have e1 : shutE room L false = 18 := by simp [shutE, h0]
      rw [e1]
      have HF := Lib.hid (fun q => And.intro (show DocC (w.drewN q) B D r A c room L (false || decide ((18 : Int) = 0)) sent from h.keep (fun _ _ => rfl) (Nat.le_refl _)) ((Moved.refl D w).drewN q))
      obtain ⟨n, hn⟩ : ∃ n, n = L.length := ⟨_, rfl⟩
      rw [← hn] at c0 hl h0
      clear h e1 hn
      have hd : decide (room < n) = true := by simpa using h0
      go_enter Try.func17, Try.ntmps17
      go_wp2_with fail
      go_quiet (fail)
      go_wp2_with fail
      go_ret
      exact ⟨rfl, HF.out _⟩
    · have e1 : shutE room L false = 0 := by simp [shutE, h0]
      rw [e1]
      have HF := Lib.hid (fun q => And.intro (show DocC ((w.drewN q).setCell ⟨r, 2, none⟩ (.bool true)) B D r A c room L (false || decide ((0 : Int) = 0)) sent from (h.keep (w' := w.drewN q) (fun _ _ => rfl) (Nat.le_refl _)).setC) (((Moved.refl D w).drewN q).setCell (p := ⟨r, 2, none⟩) (.inl h.dr) (.bool true)))
      have f4 := fun q => (h.keep (w' := w.drewN q) (fun _ _ => rfl) (Nat.le_refl _)).fz 2
      have f5 := h.fz 2
      obtain ⟨n, hn⟩ : ∃ n, n = L.length := ⟨_, rfl⟩
      rw [← hn] at c0 hl h0
      clear h e1 hn f4
      have hd : decide (room < n) = false := by simpa using h0
      clear h0
      go_enter Try.func17, Try.ntmps17
      go_wp2_with fail
      go_quiet (fail)
      go_wp2_with fail
      go_ret
      exact ⟨rfl, HF.out _⟩
  · have HF := Lib.hid (And.intro (show DocC w B D r A c room L (true || decide (shutE room L true = 0)) sent from h) (Moved.refl D w))
    have e1 : shutE room L true = 17 := rfl
    rw [e1] at HF ⊢
    clear h e1
    go_enter Try.func17, Try.ntmps17
    go_wp2_with fail
    go_ret
    exact ⟨rfl, HF.out⟩
end
end Go.Proofs.Ytmmfioemnoijoaa
