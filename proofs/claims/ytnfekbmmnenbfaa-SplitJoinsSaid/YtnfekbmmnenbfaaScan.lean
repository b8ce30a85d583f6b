/- A text's records, part by part. -/
import Derived.Test.YtnfekbmmnenbfaaSplC
namespace Go.Proofs.Ytnfekbmmnenbfaa
open Go Go.RowKit
set_option linter.unusedVariables false

theorem scan_other (m : Nat) : ∀ (part : List Int) (st : ScanS), st.over = false → (∀ c ∈ part, c ≠ 10) → scanR m part st = ⟨st.recs, st.pos, st.cur ++ part, false⟩
  | [], st, h, _ => by
    show st = _
    rw [List.append_nil, ← h]
  | c :: part, st, h, hc => by
    show scanR m part (stepR m st c) = _
    have : stepR m st c = ⟨st.recs, st.pos, st.cur ++ [c], false⟩ := by
      unfold stepR
      rw [if_neg (by rw [h]; decide), if_neg (hc c (List.mem_cons_self ..))]
    rw [this, scan_other m part _ rfl fun x hx => hc x (List.mem_cons_of_mem _ hx)]
    simp
theorem scan_line (m : Nat) (rest : List Int) (st : ScanS) (h : st.over = false) (hm : (chop st.cur).length ≤ m) :
    scanR m (10 :: rest) st = scanR m rest ⟨st.recs ++ [⟨st.recs.length, st.pos, chop st.cur⟩], st.pos + st.cur.length + 1, [], false⟩ := by
  show scanR m rest (stepR m st 10) = _
  congr 1
  unfold stepR
  rw [if_neg (by rw [h]; decide), if_pos rfl, if_pos hm]
theorem scan_long (m : Nat) (rest : List Int) (st : ScanS) (h : st.over = false) (hm : m < (chop st.cur).length) :
    scanR m (10 :: rest) st = ⟨st.recs, st.pos, st.cur, true⟩ := by
  show scanR m rest (stepR m st 10) = _
  have : stepR m st 10 = ⟨st.recs, st.pos, st.cur, true⟩ := by
    unfold stepR
    rw [if_neg (by rw [h]; decide), if_pos rfl, if_neg (by omega)]
  rw [this, scanR_over m rest _ rfl]
theorem chop_append (cur part : List Int) (h : 0 < part.length) : (chop (cur ++ part)).length = cur.length + (chop part).length := by
  have hl : (cur ++ part).getLast? = part.getLast? := by
    rw [List.getLast?_append]
    rcases hx : part.getLast? with _ | x
    · rw [List.getLast?_eq_none_iff] at hx
      rw [hx] at h
      exact absurd h (by decide)
    · rfl
  unfold chop
  rw [hl]
  split
  · rw [List.length_dropLast, List.length_dropLast, List.length_append]; omega
  · rw [List.length_append]
theorem chop_le (l : List Int) : (chop l).length ≤ l.length := by unfold chop; split <;> simp
theorem chop_ge (l : List Int) : l.length ≤ (chop l).length + 1 := by unfold chop; split <;> (try rw [List.length_dropLast]) <;> omega
/-- So far none is too long. -/
def Good (m : Nat) (st : ScanS) : Prop := st.over = false ∧ (chop st.cur).length ≤ m
theorem hit_long (m : Nat) (sk : ScanS) (part rest : List Int) (hg : Good m sk) (hno : ∀ c ∈ part, c ≠ 10) (hl : 0 < part.length ∧ m < sk.cur.length + (chop part).length) :
    scanR m (part ++ 10 :: rest) sk = ⟨sk.recs, sk.pos, sk.cur ++ part, true⟩ := by
  rw [scanR_append, scan_other m part sk hg.1 hno, scan_long m rest _ rfl (by show m < (chop (sk.cur ++ part)).length; rw [chop_append _ _ hl.1]; exact hl.2)]
theorem good_part (m : Nat) (sk : ScanS) (part : List Int) (hg : Good m sk) (hl : ¬ (0 < part.length ∧ m < sk.cur.length + (chop part).length)) : (chop (sk.cur ++ part)).length ≤ m := by
  rcases Nat.eq_zero_or_pos part.length with h0 | h0
  · rw [List.eq_nil_of_length_eq_zero h0, List.append_nil]; exact hg.2
  · rw [chop_append _ _ h0]; omega
theorem hit_ok (m : Nat) (sk : ScanS) (part rest : List Int) (hg : Good m sk) (hno : ∀ c ∈ part, c ≠ 10) (hl : ¬ (0 < part.length ∧ m < sk.cur.length + (chop part).length)) :
    scanR m (part ++ 10 :: rest) sk = scanR m rest ⟨sk.recs ++ [⟨sk.recs.length, sk.pos, chop (sk.cur ++ part)⟩], sk.pos + (sk.cur ++ part).length + 1, [], false⟩ := by
  rw [scanR_append, scan_other m part sk hg.1 hno, scan_line m rest _ rfl (good_part m sk part hg hl)]
theorem good0 (m : Nat) : Good m scan0 := ⟨rfl, Nat.zero_le _⟩

section
variable {B g m n p : Nat} {w0 w w' : World} {V : Value} {cur : List Int} {over : Bool}
theorem Touch.grownNew (h : Touch B g w0 w) {row : Option Nat} (hg : w.grownBy w' row) (hr : ∀ k, row = some k → w0.heap.size ≤ k) (hB : B ≤ w0.heap.size) : Touch B g w0 w' := by
  refine ⟨h.low.grown hg (Nat.le_trans hB h.low.size) fun k hk => Nat.le_trans hB (hr k hk), fun k cs t f h1 h2 h3 => ?_⟩
  have hk := h.keep k cs t f h1 h2 h3
  have hlt := (Array.getElem?_eq_some_iff.1 h1).1
  rw [hg.block k (Array.getElem?_eq_some_iff.1 hk).1 fun e => by have := hr k e.symm; omega]
  exact hk
/-- append of a record to a row of the call's own, beside a splitter. -/
theorem push_spl (h : SplAt w B g m n p V cur over) (ht : Touch B g w0 w) (hB : B ≤ w0.heap.size) {P : Option Addr} {q pc : Nat} {rs : List RecL} (hown : w.ownsRow w0.heap.size 40 3 (.slice P q pc) q (cellsR rs)) (hq : q ≤ 10000000) (r : RecL) :
    ∃ P' pc' w', (Builtin.append_ #[23, 23] 23 #[.slice P q pc, .slice (some ⟨w.heap.size, 0, none⟩) 1 1]).run Try.prog (w.alloc (.cells #[.int .i64 (r.num : Int), .int .i64 (r.pos : Int), .string (strOfNums r.text)] 40)) = .ok (.slice P' (q + 1) pc') w' ∧
      w'.ownsRow w0.heap.size 40 3 (.slice P' (q + 1) pc') (q + 1) (cellsR (rs ++ [r])) ∧ SplAt w' B g m n p V cur over ∧ Touch B g w0 w' := by
  obtain ⟨V', w', h1, h2, h3⟩ := pushR_run w w0.heap.size _ q _ hown r (by omega) (by unfold maxLen; omega) ht.low.size
  have ha : SplAt (w.alloc (.cells r.cells.toArray 40)) B g m n p V cur over := h.below ((Below.refl _ _).alloc (Nat.le_refl _) _)
  have hta : Touch B g w0 (w.alloc (.cells r.cells.toArray 40)) := ht.alloc hB _
  have hrow : (w.alloc (.cells r.cells.toArray 40)).ownsRow w0.heap.size 40 3 (.slice P q pc) q (cellsR rs) := row_keep hown fun k hk _ => ((Below.refl w.heap.size w).alloc (Nat.le_refl _) _).block k hk
  have hs' : SplAt w' B g m n p V cur over := by
    refine ⟨ha.low, (h3.block g ha.lt fun e => row_ne_blk hrow ha.blk (by decide) e.symm).trans ha.blk, row_keep ha.row fun k hk e => h3.block k hk fun e' => ?_, ha.byte⟩
    exact row_ne_row ha.row hrow (by decide) e'.symm e
  have ht' : Touch B g w0 w' := hta.grownNew h3 (fun k hk => (row_lt hrow hk).1) hB
  rw [← cellsR_snoc] at h2
  rcases h2.2 with ⟨rfl, h0⟩ | ⟨b, cap, cu, rfl, _⟩
  · omega
  · exact ⟨_, _, w', h1, h2, hs', ht'⟩
end
end Go.Proofs.Ytnfekbmmnenbfaa
