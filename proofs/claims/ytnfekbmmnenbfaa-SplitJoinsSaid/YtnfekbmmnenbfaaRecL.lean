/- Records as values, as rows of the call's own; a text's records, octet by octet. -/
import Derived.Test.YtnfekbmmnenbfaaSpRow
namespace Go.Proofs.Ytnfekbmmnenbfaa
open Go Go.RowKit
set_option linter.unusedVariables false

/-- A record: its number, where it begins, its octets. -/
structure RecL where
  num : Nat
  pos : Nat
  text : List Int
def RecL.cells (r : RecL) : List Value := [.int .i64 (r.num : Int), .int .i64 (r.pos : Int), .string (strOfNums r.text)]
def cellsR (rs : List RecL) : List Value := rs.flatMap RecL.cells
theorem cellsR_length (rs : List RecL) : (cellsR rs).length = rs.length * 3 := by
  induction rs with
  | nil => rfl
  | cons r rs ih =>
    show (r.cells ++ cellsR rs).length = _
    rw [List.length_append, ih]
    simp [RecL.cells]
    omega
theorem cellsR_snoc (rs : List RecL) (r : RecL) : cellsR (rs ++ [r]) = cellsR rs ++ r.cells := by simp [cellsR]
theorem cellsR_append (rs ts : List RecL) : cellsR (rs ++ ts) = cellsR rs ++ cellsR ts := by simp [cellsR]

/-- Without a return at its end. -/
def chop (l : List Int) : List Int := if l.getLast? = some 13 then l.dropLast else l
/-- What stands behind so many octets: the records so far, where the open one begins, its octets, whether one was too long. -/
structure ScanS where
  recs : List RecL
  pos : Nat
  cur : List Int
  over : Bool
def scan0 : ScanS := ⟨[], 0, [], false⟩
def stepR (m : Nat) (st : ScanS) (c : Int) : ScanS :=
  if st.over then st
  else if c = 10 then
    if (chop st.cur).length ≤ m then ⟨st.recs ++ [⟨st.recs.length, st.pos, chop st.cur⟩], st.pos + st.cur.length + 1, [], false⟩ else ⟨st.recs, st.pos, st.cur, true⟩
  else ⟨st.recs, st.pos, st.cur ++ [c], false⟩
def scanR (m : Nat) (xs : List Int) (st : ScanS) : ScanS := xs.foldl (stepR m) st
theorem scanR_append (m : Nat) (xs ys : List Int) (st : ScanS) : scanR m (xs ++ ys) st = scanR m ys (scanR m xs st) := by simp [scanR]
theorem scanR_over (m : Nat) : ∀ (xs : List Int) (st : ScanS), st.over = true → scanR m xs st = st
  | [], _, _ => rfl
  | c :: xs, st, h => by
    show scanR m xs (stepR m st c) = st
    have : stepR m st c = st := by unfold stepR; rw [if_pos h]
    rw [this, scanR_over m xs st h]

/-- The reading of the first i octets of xs is st, and none is too long yet. -/
def Sc (m : Nat) (xs : List Int) (i : Nat) (st : ScanS) : Prop :=
  st = scanR m (xs.take i) scan0 ∧ st.over = false ∧ st.pos ≤ i ∧ i ≤ xs.length ∧ st.cur = (xs.take i).drop st.pos ∧ st.recs.length ≤ i
theorem Sc.zero (m : Nat) (xs : List Int) : Sc m xs 0 scan0 := ⟨rfl, rfl, Nat.le_refl _, Nat.zero_le _, by simp [scan0], Nat.le_refl _⟩
theorem take_snoc (xs : List Int) (i : Nat) (h : i < xs.length) : xs.take (i + 1) = xs.take i ++ [xs.getD i 0] := by
  rw [List.take_succ_eq_append_getElem h]
  simp [List.getD, List.getElem?_eq_getElem h]
section
variable {m : Nat} {xs : List Int} {i : Nat} {st : ScanS}
theorem Sc.cur_length (h : Sc m xs i st) : st.cur.length = i - st.pos := by
  obtain ⟨_, _, _, h1, h2, _⟩ := h
  rw [h2, List.length_drop, List.length_take]
  omega
theorem Sc.other (h : Sc m xs i st) (hi : i < xs.length) (hc : xs.getD i 0 ≠ 10) : Sc m xs (i + 1) ⟨st.recs, st.pos, st.cur ++ [xs.getD i 0], false⟩ := by
  have h' := h
  obtain ⟨h1, h2, h3, h4, h5, h6⟩ := h
  refine ⟨?_, rfl, by show st.pos ≤ i + 1; omega, by omega, ?_, by show st.recs.length ≤ i + 1; omega⟩
  · rw [take_snoc xs i hi, scanR_append, ← h1]
    show _ = stepR m st _
    unfold stepR
    rw [if_neg (by rw [h2]; decide), if_neg hc]
  · show st.cur ++ _ = List.drop st.pos _
    rw [take_snoc xs i hi, List.drop_append_of_le_length (by rw [List.length_take]; omega), h5]
/-- Where the record's text ends. -/
def toR (xs : List Int) (pos i : Nat) : Nat := if pos < i ∧ xs.getD (i - 1) 0 = 13 then i - 1 else i
theorem Sc.last (h : Sc m xs i st) (hp : st.pos < i) : st.cur.getLast? = some (xs.getD (i - 1) 0) := by
  obtain ⟨h1, h2, h3, h4, h5, h6⟩ := h
  have hl : i - 1 < xs.length := by omega
  have ht := take_snoc xs (i - 1) hl
  rw [show i - 1 + 1 = i by omega] at ht
  rw [h5, ht, List.drop_append_of_le_length (by rw [List.length_take]; omega)]
  simp
theorem Sc.chop (h : Sc m xs i st) : chop st.cur = (xs.drop st.pos).take (toR xs st.pos i - st.pos) := by
  have hcl := h.cur_length
  have hcur : st.cur = (xs.drop st.pos).take (i - st.pos) := by rw [h.2.2.2.2.1, List.drop_take]
  unfold Go.Proofs.Ytnfekbmmnenbfaa.chop toR
  rcases Nat.lt_or_ge st.pos i with hp | hp
  · rw [h.last hp]
    by_cases hc : xs.getD (i - 1) 0 = 13
    · rw [if_pos (by rw [hc]), if_pos ⟨hp, hc⟩, List.dropLast_eq_take, hcl]
      rw [hcur, List.take_take]
      congr 1
      omega
    · rw [if_neg (by simpa using hc), if_neg (fun q => hc q.2)]
      exact hcur
  · have h0 : st.cur = [] := List.eq_nil_of_length_eq_zero (by omega)
    rw [h0, if_neg (by simp), if_neg (by omega)]
    have : i - st.pos = 0 := by omega
    rw [this]
    rfl
theorem Sc.to_le (h : Sc m xs i st) : st.pos ≤ toR xs st.pos i ∧ toR xs st.pos i ≤ i := by
  have := h.2.2.1
  unfold toR
  split <;> omega
theorem Sc.chop_length (h : Sc m xs i st) : (Go.Proofs.Ytnfekbmmnenbfaa.chop st.cur).length = toR xs st.pos i - st.pos := by
  have := h.to_le
  have := h.2.2.2.1
  rw [h.chop, List.length_take, List.length_drop]
  omega
theorem Sc.line (h : Sc m xs i st) (hi : i < xs.length) (hc : xs.getD i 0 = 10) (hm : toR xs st.pos i - st.pos ≤ m) :
    Sc m xs (i + 1) ⟨st.recs ++ [⟨st.recs.length, st.pos, (xs.drop st.pos).take (toR xs st.pos i - st.pos)⟩], i + 1, [], false⟩ := by
  have hcl := h.cur_length
  have hcl2 := h.chop_length
  have hch := h.chop
  obtain ⟨h1, h2, h3, h4, h5, h6⟩ := h
  refine ⟨?_, rfl, Nat.le_refl _, by omega, ?_, by simp; omega⟩
  · rw [take_snoc xs i hi, scanR_append, ← h1]
    show _ = stepR m st _
    unfold stepR
    rw [if_neg (by rw [h2]; decide), if_pos hc, if_pos (by omega), hch, hcl, show st.pos + (i - st.pos) + 1 = i + 1 by omega]
  · show [] = List.drop (i + 1) _
    rw [List.drop_of_length_le (by rw [List.length_take]; omega)]
theorem Sc.long (h : Sc m xs i st) (hi : i < xs.length) (hc : xs.getD i 0 = 10) (hm : m < toR xs st.pos i - st.pos) :
    scanR m xs scan0 = ⟨st.recs, st.pos, st.cur, true⟩ := by
  have hcl2 := h.chop_length
  obtain ⟨h1, h2, h3, h4, h5, h6⟩ := h
  have ht : xs = xs.take (i + 1) ++ xs.drop (i + 1) := (List.take_append_drop _ _).symm
  rw [ht, scanR_append, take_snoc xs i hi, scanR_append, ← h1]
  have : scanR m [xs.getD i 0] st = ⟨st.recs, st.pos, st.cur, true⟩ := by
    show stepR m st _ = _
    unfold stepR
    rw [if_neg (by rw [h2]; decide), if_pos hc, if_neg (by omega)]
  rw [this]
  exact scanR_over m _ _ rfl
theorem Sc.whole (h : Sc m xs xs.length st) : scanR m xs scan0 = st := by
  have := h.1
  rw [List.take_length] at this
  exact this.symm
end

/-- What the document answers of all the text: the records, the error, how many octets are open. -/
def allR (m : Nat) (xs : List Int) (fin : Bool) : List RecL × Int × Nat :=
  let st := scanR m xs scan0
  if st.over then (st.recs, 10, 0)
  else if fin = true ∧ 0 < st.cur.length then
    if m < st.cur.length then (st.recs, 10, 0) else (st.recs ++ [⟨st.recs.length, st.pos, st.cur⟩], 0, 0)
  else if m + 1 < st.cur.length ∨ (st.cur.length = m + 1 ∧ xs.getD (xs.length - 1) 0 ≠ 13) then (st.recs, 10, 0)
  else (st.recs, 0, st.cur.length)

theorem extract_nums (s : ByteArray) (a b : Nat) : s.extract a b = strOfNums (((nums s).drop a).take (b - a)) := by
  apply ByteArray.ext
  apply Array.toList_inj.1
  rw [strOfNums_data, ByteArray.data_extract, Array.toList_extract]
  show (s.data.toList.drop a).take (b - a) = _
  simp [nums, Function.comp_def, ← List.map_drop, ← List.map_take]

theorem info_rec : (Try.prog.info? 40).map (fun i => (i.zero, i.size, i.bytes)) = some (some (.agg #[.int .i64 0, .int .i64 0, .string ⟨#[]⟩]), 3, 32) := by kernel_rfl

/-- append of one record to a row that the call owns: it lies in a block of its own, just made. -/
theorem pushR_run (w : World) (base : Nat) (v : Value) (n : Nat) (xs : List Value) (hown : w.ownsRow base 40 3 v n xs) (r : RecL) (hsz : (n + 1) * 32 ≤ 140737488355328) (h63 : n + 1 ≤ maxLen) (hbase : base ≤ w.heap.size) :
    ∃ v' w', (Builtin.append_ #[23, 23] 23 #[v, .slice (some ⟨w.heap.size, 0, none⟩) 1 1]).run Try.prog (w.alloc (.cells r.cells.toArray 40)) = .ok v' w' ∧ w'.ownsRow base 40 3 v' (n + 1) (xs ++ r.cells) ∧ (w.alloc (.cells r.cells.toArray 40)).grownBy w' v.ownBlock := by
  obtain ⟨i0, hi, hz0, hz1, hz2⟩ := info_parts info_rec
  have hown2 : (w.alloc (.cells r.cells.toArray 40)).ownsRow base 40 3 v n xs := by
    refine ⟨hown.1, ?_⟩
    rcases hown.2 with h2 | ⟨g, cap, cur, hv, hbg, hg, hr⟩
    · exact .inl h2
    · exact .inr ⟨g, cap, cur, hv, hbg, (((Below.refl w.heap.size w).alloc (Nat.le_refl _) _).block g (Array.getElem?_eq_some_iff.1 hg).1).trans hg, hr⟩
  obtain ⟨v', w', h1, h2, h3, _⟩ := run_append_own (P := Try.prog) (w.alloc (.cells r.cells.toArray 40)) base 23 23 40 i0 _ 3 32 Try.underlying23 hi hz0 hz1 hz2 rfl (by decide) v n xs hown2 ⟨w.heap.size, 0, none⟩ 1 1 r.cells rfl
    (by
      intro j u hu
      have hadd : (⟨w.heap.size, 0, none⟩ : Addr).add j = ⟨w.heap.size, j, none⟩ := by unfold Addr.add; split <;> simp_all
      rw [hadd, cell_of_row (w.alloc (.cells r.cells.toArray 40)) w.heap.size j r.cells.toArray 40 (0, 0) (heap_alloc_new w _), ← hu]
      simp)
    (by intro u hu; simp [RecL.cells] at hu; rcases hu with rfl | rfl | rfl <;> rfl) h63 hsz (by simp; omega)
  exact ⟨v', w', h1, h2, h3⟩
end Go.Proofs.Ytnfekbmmnenbfaa
