/- What a row that comes adds, by each way of telling; what the program knows then: pure. -/
import Derived.Test.YtebmafghekfllaaDoorLinV18
import Derived.Test.YtebmafghekfllaaDoorModS18
namespace Go.Proofs.YtebmafghekfllaaDoor
open Go Go.RowKit
set_option linter.unusedVariables false
section
variable {l : List Rw} {x : Rw} {b a : Nat}
theorem hitX_len (x : Rw) : hitX x = decide (0 < (goodH x).length) := by
  unfold hitX
  cases goodH x <;> rfl
/-! All hits; the count. -/
theorem linesA_add (l : List Rw) (x : Rw) : linesA (l ++ [x]) = linesA l ++ linesX x := by
  unfold linesA
  rw [List.flatMap_append]
  simp
theorem cntR_add (l : List Rw) (x : Rw) : cntR (l ++ [x]) (l ++ [x]).length = cntR l l.length + if hitX x = true then 1 else 0 := by
  rw [List.length_append, List.length_singleton, cntR_succ, hitB_new]
  congr 1
  unfold cntR
  congr 1
  refine List.filter_congr fun j hj => ?_
  exact hitB_old (List.mem_range.1 hj)
theorem cntH_add (l : List Rw) (x : Rw) : cntH (l ++ [x]) (l ++ [x]).length = cntH l l.length + (goodH x).length := by
  rw [List.length_append, List.length_singleton, cntH_succ List.getElem?_concat_length]
  congr 1
  unfold cntH
  rw [List.take_left' rfl, List.take_length]
/-! The first. -/
theorem firstR_old (l : List Rw) (x : Rw) : firstR (l ++ [x]) l.length = firstR l l.length := by
  have : ∀ (ks : List Nat), (∀ j ∈ ks, j < l.length) → ks.find? (hitB (l ++ [x])) = ks.find? (hitB l) := by
    intro ks
    induction ks with
    | nil => intro _; rfl
    | cons k r ih =>
      intro h
      rw [List.find?_cons, List.find?_cons, hitB_old (h k (by simp)), ih fun j hj => h j (by simp [hj])]
  exact this _ fun j hj => List.mem_range.1 hj
theorem firstR_add (l : List Rw) (x : Rw) : firstR (l ++ [x]) (l ++ [x]).length = match firstR l l.length with | some i => some i | none => if hitX x = true then some l.length else none := by
  rw [List.length_append, List.length_singleton, ← firstR_old l x]
  unfold firstR
  rw [List.range_succ, List.find?_append]
  cases h : (List.range l.length).find? (hitB (l ++ [x])) with
  | some i => rfl
  | none =>
    rw [Option.none_or, List.find?_cons, hitB_new]
    cases hitX x <;> rfl
theorem firstR_lt {i : Nat} (h : firstR l l.length = some i) : i < l.length := List.mem_range.1 (List.mem_of_find?_eq_some h)
theorem linesF_at {i : Nat} {y : Rw} (h : firstR l l.length = some i) (hy : l[i]? = some y) : linesF l = ([lineF y], true) := by
  unfold linesF
  rw [h]
  dsimp only
  rw [hy]
theorem linesF_nil (h : firstR l l.length = none) : linesF l = ([], false) := by
  unfold linesF
  rw [h]
theorem linesF_add (l : List Rw) (x : Rw) : linesF (l ++ [x]) = if (linesF l).2 = true then linesF l else if hitX x = true then ([lineF x], true) else linesF l := by
  have ha := firstR_add l x
  cases h : firstR l l.length with
  | some i =>
    have hi := firstR_lt h
    rw [h] at ha
    rw [linesF_at h (List.getElem?_eq_getElem hi), linesF_at ha (by rw [List.getElem?_append_left hi, List.getElem?_eq_getElem hi])]
    rfl
  | none =>
    rw [h] at ha
    rw [linesF_nil h]
    dsimp only at ha ⊢
    cases hx : hitX x with
    | true =>
      rw [hx, if_pos rfl] at ha
      rw [linesF_at ha List.getElem?_concat_length]
      rfl
    | false =>
      rw [hx, if_neg (by decide)] at ha
      rw [linesF_nil ha]
      rfl
theorem linesF_no (h : (linesF l).2 = false) : linesF l = ([], false) := by
  unfold linesF at h ⊢
  split
  · next i hi =>
    rw [hi] at h
    dsimp only at h
    split at h
    · cases h
    · rfl
  · rfl
/-! By context. -/
/-- The number that is awaited behind the row that was told last. -/
def aw (L : List Rw) (o : Option Nat) : Option Int := o.bind fun j => (L[j]?).map fun y => succI y.n
theorem aw_old {o : Option Nat} (ho : ∀ j, o = some j → j < l.length) : aw (l ++ [x]) o = aw l o := by
  rcases o with _ | j
  · rfl
  · unfold aw
    simp only [Option.bind_some]
    rw [List.getElem?_append_left (ho j rfl)]
theorem sepB_aw {L : List Rw} {i : Nat} {o : Option Nat} {y : Rw} (hy : L[i]? = some y) (ho : ∀ j, o = some j → j < L.length) : sepB L i o = sepS (aw L o) y := by
  rcases o with _ | j
  · rfl
  · have hj := List.getElem?_eq_getElem (ho j rfl)
    unfold sepB aw
    simp only [Option.bind_some]
    rw [hy, hj]
    rfl
def mkS (h : Bool) : ByteArray := if h = true then ⟨#[58]⟩ else ⟨#[45]⟩
/-- Rows told one behind the other, all with one mark. -/
theorem run_shw {L : List Rw} {h : Bool} {i : Nat} {s : List ByteArray × Option Nat} (ho : ∀ j, s.2 = some j → j < L.length) : ∀ n, i + n ≤ L.length → (∀ j, i ≤ j → j < i + n → hitB L j = h) →
    (runS L s i n).1 = s.1 ++ (shw (mkS h) (aw L s.2) ((L.drop i).take n)).1 ∧ aw L (runS L s i n).2 = (shw (mkS h) (aw L s.2) ((L.drop i).take n)).2 ∧ (∀ j, (runS L s i n).2 = some j → j < L.length) ∧ (0 < n → (runS L s i n).2 = some (i + n - 1))
  | 0, _, _ => ⟨by simp [runS, shw], by simp [runS, shw], ho, fun h => absurd h (by decide)⟩
  | n + 1, hn, hh => by
    obtain ⟨h1, h2, h3, _⟩ := run_shw (h := h) ho n (by omega) (fun j h4 h5 => hh j h4 (by omega))
    obtain ⟨y, hy⟩ : ∃ y, L[i + n]? = some y := ⟨_, List.getElem?_eq_getElem (by omega)⟩
    have hd : (L.drop i)[n]? = some y := by rw [List.getElem?_drop]; exact hy
    rw [shw_snoc _ _ hd]
    have hr : runS L s i (n + 1) = ((runS L s i n).1 ++ (if sepB L (i + n) (runS L s i n).2 = true then [⟨#[45, 45]⟩] else []) ++ [lineS y (hitB L (i + n))], some (i + n)) := by
      show toldS L (runS L s i n) (i + n) = _
      unfold toldS
      rw [hy]
    rw [hr]
    unfold shw1
    dsimp only
    rw [sepB_aw hy h3, h2, h1, hh (i + n) (by omega) (by omega)]
    refine ⟨?_, ?_, fun j hj => ?_, fun _ => by congr 1⟩
    · simp only [List.append_assoc]
      rfl
    · unfold aw
      simp only [Option.bind_some]
      rw [hy]
      rfl
    · injection hj with hj
      omega
/-- The number that is awaited; the rows that wait; how many more are told behind the last one that has hits. -/
def awC (l : List Rw) (b a : Nat) : Option Int := aw l (lastC l b a)
def waitC (l : List Rw) (b a : Nat) : List Rw := l.drop (heldC l b a)
def behN (l : List Rw) (a : Nat) : Nat := l.foldl (fun n x => if hitX x = true then a else n - 1) 0
theorem behN_add (l : List Rw) (x : Rw) (a : Nat) : behN (l ++ [x]) a = if hitX x = true then a else behN l a - 1 := by
  unfold behN
  rw [List.foldl_append]
  rfl
theorem behN_le (a : Nat) : ∀ l : List Rw, behN l a ≤ a := fun l => by
  unfold behN
  have : ∀ (l : List Rw) (n : Nat), n ≤ a → l.foldl (fun n x => if hitX x = true then a else n - 1) n ≤ a := by
    intro l
    induction l with
    | nil => intro n h; exact h
    | cons y r ih =>
      intro n h
      rw [List.foldl_cons]
      refine ih _ ?_
      split <;> omega
  exact this l 0 (Nat.zero_le _)
theorem beh_iff (a : Nat) : ∀ (n : Nat) (l : List Rw), l.length = n → ∀ m, (∃ j, j < l.length ∧ hitB l j = true ∧ l.length + m ≤ j + a) ↔ m < behN l a
  | 0, l, hl, m => by
    have : l = [] := List.eq_nil_of_length_eq_zero hl
    subst this
    simp [behN]
  | n + 1, l, hl, m => by
    obtain ⟨r, y, rfl⟩ : ∃ r y, l = r ++ [y] := ⟨l.dropLast, l.getLast (by intro e; subst e; simp at hl), (List.dropLast_concat_getLast _).symm⟩
    have hr : r.length = n := by simpa using hl
    have ih := fun m => beh_iff a n r hr m
    rw [behN_add]
    have hlen : (r ++ [y]).length = r.length + 1 := by simp
    by_cases hy : hitX y = true
    · rw [if_pos hy]
      constructor
      · rintro ⟨j, h1, h2, h3⟩
        rw [hlen] at h1 h3
        omega
      · intro h
        exact ⟨r.length, by rw [hlen]; omega, by rw [hitB_new]; exact hy, by rw [hlen]; omega⟩
    · rw [if_neg hy]
      constructor
      · rintro ⟨j, h1, h2, h3⟩
        rw [hlen] at h1 h3
        rcases Nat.lt_or_ge j r.length with h4 | h4
        · rw [hitB_old h4] at h2
          have := (ih (m + 1)).1 ⟨j, h4, h2, by omega⟩
          omega
        · have : j = r.length := by omega
          subst this
          rw [hitB_new] at h2
          exact absurd h2 hy
      · intro h
        obtain ⟨j, h1, h2, h3⟩ := (ih (m + 1)).2 (by omega)
        exact ⟨j, by rw [hlen]; omega, by rw [hitB_old h1]; exact h2, by rw [hlen]; omega⟩
theorem left_beh (l : List Rw) (a : Nat) : leftB l a = decide (0 < behN l a) := by
  rw [Bool.eq_iff_iff, decide_eq_true_eq, ← beh_iff a l.length l rfl 0]
  unfold leftB
  rw [nearB_iff]
  constructor
  · rintro ⟨j, h1, h2, h3, h4⟩
    exact ⟨j, h1, h4, by omega⟩
  · rintro ⟨j, h1, h2, h3⟩
    exact ⟨j, h1, by omega, by omega, h2⟩
theorem lastC_ok (l : List Rw) (b a : Nat) : ∀ j, (ctxS l b a l.length).2 = some j → j < l.length := fun j h => ctxS_last l b a l.length j h
/-- What was told behind one with hits: nobody waits. -/
theorem wait_left (h : leftB l a = true) : heldC l b a = l.length := by
  have hle := heldC_le l b a
  have hT := ctxS_lastT l b a l.length (Nat.le_refl _)
  unfold leftB at h
  obtain ⟨j, h1, h2, h3, h4⟩ := nearB_iff.1 h
  rcases Nat.lt_or_ge (fromC (lastC l b a)) l.length with h5 | h5
  · have h6 := hT.2 (l.length - 1) (by unfold lastC at h5; omega) (by omega)
    have h7 : tellB l b a (l.length - 1) = true := by
      rw [tellB_iff]
      rcases Nat.lt_or_ge j (l.length - 1) with h8 | h8
      · exact .inr (.inl ⟨j, h8, h1, by omega, h4⟩)
      · rw [show l.length - 1 = j by omega]
        exact .inl h4
    rw [h6] at h7
    cases h7
  · unfold heldC
    have := lastC_lt l b a
    omega
theorem hit_wait {j : Nat} (h1 : heldC l b a ≤ j) (h2 : j < l.length) : hitB l j = false := by
  have hT := ctxS_lastT l b a l.length (Nat.le_refl _)
  have h3 := hT.2 j (by unfold heldC lastC at h1; omega) h2
  cases h4 : hitB l j with
  | false => rfl
  | true =>
    rw [tellB_iff.2 (.inl h4)] at h3
    cases h3
theorem waitC_len (l : List Rw) (b a : Nat) : (waitC l b a).length ≤ b := by
  unfold waitC heldC
  rw [List.length_drop]
  omega
theorem drop_snoc {l : List Rw} {x : Rw} {k : Nat} (h : k ≤ l.length) : (l ++ [x]).drop k = l.drop k ++ [x] := by
  rw [List.drop_append_of_le_length h]
theorem ctxL_at (l : List Rw) (x : Rw) (b a : Nat) : ctxL (l ++ [x]) b a = (ctxS (l ++ [x]) b a (l.length + 1)).1 ∧ lastC (l ++ [x]) b a = (ctxS (l ++ [x]) b a (l.length + 1)).2 := by
  unfold ctxL lastC
  rw [List.length_append, List.length_singleton]
  exact ⟨rfl, rfl⟩
theorem wait_new (h : lastC (l ++ [x]) b a = some l.length) : waitC (l ++ [x]) b a = [] := by
  unfold waitC heldC
  rw [h]
  refine List.drop_of_length_le ?_
  rw [List.length_append, List.length_singleton]
  unfold fromC
  dsimp only
  omega
/-- One with hits: all that wait, and itself. -/
theorem ctx_hit (hx : hitX x = true) : ctxL (l ++ [x]) b a = ctxL l b a ++ ((shw ⟨#[45]⟩ (awC l b a) (waitC l b a)).1 ++ (shw ⟨#[58]⟩ (shw ⟨#[45]⟩ (awC l b a) (waitC l b a)).2 [x]).1) ∧ awC (l ++ [x]) b a = (shw ⟨#[58]⟩ (shw ⟨#[45]⟩ (awC l b a) (waitC l b a)).2 [x]).2 ∧ waitC (l ++ [x]) b a = [] := by
  obtain ⟨e1, e2⟩ := ctxL_at l x b a
  have hadd := ctxS_add (l := l) (x := x) (b := b) (a := a)
  rw [if_pos hx] at hadd
  have hle := heldC_le l b a
  have hlL : (l ++ [x]).length = l.length + 1 := by simp
  have ho : ∀ j, (ctxS l b a l.length).2 = some j → j < (l ++ [x]).length := fun j hj => by have := lastC_ok l b a j hj; omega
  obtain ⟨r1, r2, r3, -⟩ := run_shw (L := l ++ [x]) (h := false) (i := heldC l b a) (s := ctxS l b a l.length) ho (l.length - heldC l b a) (by omega) (fun j h1 h2 => by rw [hitB_old (by omega)]; exact hit_wait h1 (by omega))
  have htk : ((l ++ [x]).drop (heldC l b a)).take (l.length - heldC l b a) = waitC l b a := by
    rw [drop_snoc hle, List.take_left' (by rw [List.length_drop])]
    rfl
  have haw : aw (l ++ [x]) (ctxS l b a l.length).2 = awC l b a := aw_old (lastC_ok l b a)
  rw [htk, haw] at r1 r2
  obtain ⟨s', hs'⟩ : ∃ s', s' = runS (l ++ [x]) (ctxS l b a l.length) (heldC l b a) (l.length - heldC l b a) := ⟨_, rfl⟩
  have hstep : runS (l ++ [x]) (ctxS l b a l.length) (heldC l b a) (l.length + 1 - heldC l b a) = runS (l ++ [x]) s' l.length 1 := by
    rw [show l.length + 1 - heldC l b a = (l.length - heldC l b a) + 1 by omega]
    show toldS _ (runS _ _ _ _) _ = toldS _ s' (l.length + 0)
    rw [← hs', show heldC l b a + (l.length - heldC l b a) = l.length + 0 by omega]
  rw [← hs'] at r1 r2 r3
  obtain ⟨q1, q2, q3, q4⟩ := run_shw (L := l ++ [x]) (h := true) (i := l.length) (s := s') r3 1 (by omega) (fun j h1 h2 => by rw [show j = l.length by omega, hitB_new]; exact hx)
  have htk2 : ((l ++ [x]).drop l.length).take 1 = [x] := by
    rw [drop_snoc (Nat.le_refl _), List.drop_length]
    rfl
  rw [htk2, r2] at q1 q2
  rw [hstep] at hadd
  rw [hadd] at e1 e2
  have q4' := q4 (by decide)
  rw [q4'] at e2
  refine ⟨?_, ?_, wait_new (by rw [e2]; congr 1)⟩
  · rw [e1, q1, r1, List.append_assoc]
    rfl
  · refine Eq.trans ?_ q2
    rw [q4']
    show aw _ (lastC _ b a) = _
    rw [e2]
/-- One without, close behind one with hits: itself. -/
theorem ctx_beh (hx : hitX x = false) (hl : leftB l a = true) : ctxL (l ++ [x]) b a = ctxL l b a ++ (shw ⟨#[45]⟩ (awC l b a) [x]).1 ∧ awC (l ++ [x]) b a = (shw ⟨#[45]⟩ (awC l b a) [x]).2 ∧ waitC (l ++ [x]) b a = [] ∧ waitC l b a = [] := by
  obtain ⟨e1, e2⟩ := ctxL_at l x b a
  have hadd := ctxS_add (l := l) (x := x) (b := b) (a := a)
  rw [if_neg (by rw [hx]; decide), if_pos hl] at hadd
  have hlL : (l ++ [x]).length = l.length + 1 := by simp
  have ho : ∀ j, (ctxS l b a l.length).2 = some j → j < (l ++ [x]).length := fun j hj => by have := lastC_ok l b a j hj; omega
  obtain ⟨q1, q2, q3, q4⟩ := run_shw (L := l ++ [x]) (h := false) (i := l.length) (s := ctxS l b a l.length) ho 1 (by omega) (fun j h1 h2 => by rw [show j = l.length by omega, hitB_new]; exact hx)
  have htk2 : ((l ++ [x]).drop l.length).take 1 = [x] := by
    rw [drop_snoc (Nat.le_refl _), List.drop_length]
    rfl
  have haw : aw (l ++ [x]) (ctxS l b a l.length).2 = awC l b a := aw_old (lastC_ok l b a)
  rw [htk2, haw] at q1 q2
  have hr : runS (l ++ [x]) (ctxS l b a l.length) l.length 1 = toldS (l ++ [x]) (ctxS l b a l.length) l.length := rfl
  rw [hr] at q1 q2 q4
  rw [hadd] at e1 e2
  have q4' := q4 (by decide)
  rw [q4'] at e2 q2
  refine ⟨by rw [e1, q1]; rfl, ?_, wait_new (by rw [e2]; congr 1), ?_⟩
  · unfold awC
    rw [e2]
    exact q2
  · unfold waitC
    rw [wait_left hl]
    exact List.drop_length
/-- Else nothing is told; it waits. -/
theorem ctx_none (hx : hitX x = false) (hl : leftB l a = false) : ctxL (l ++ [x]) b a = ctxL l b a ∧ awC (l ++ [x]) b a = awC l b a ∧ waitC (l ++ [x]) b a = if b = 0 then [] else (if (waitC l b a).length = b then (waitC l b a).drop 1 else waitC l b a) ++ [x] := by
  obtain ⟨e1, e2⟩ := ctxL_at l x b a
  have hadd := ctxS_add (l := l) (x := x) (b := b) (a := a)
  rw [if_neg (by rw [hx]; decide), if_neg (by rw [hl]; decide)] at hadd
  rw [hadd] at e1 e2
  have e2' : lastC (l ++ [x]) b a = lastC l b a := e2
  refine ⟨e1, ?_, ?_⟩
  · unfold awC
    rw [e2']
    exact aw_old (lastC_ok l b a)
  · have hf := lastC_lt l b a
    have hle := heldC_le l b a
    have hL : heldC (l ++ [x]) b a = max (fromC (lastC l b a)) (l.length + 1 - b) := by
      unfold heldC
      rw [e2', List.length_append, List.length_singleton]
    have hl0 : heldC l b a = max (fromC (lastC l b a)) (l.length - b) := rfl
    have hwl : (waitC l b a).length = l.length - heldC l b a := by unfold waitC; rw [List.length_drop]
    by_cases hb : b = 0
    · rw [if_pos hb]
      unfold waitC
      exact List.drop_of_length_le (by rw [List.length_append, List.length_singleton, hL]; omega)
    · rw [if_neg hb, hwl]
      by_cases h1 : l.length - heldC l b a = b
      · rw [if_pos h1]
        have h2 : heldC (l ++ [x]) b a = heldC l b a + 1 := by omega
        unfold waitC
        rw [h2, drop_snoc (by omega), List.drop_drop]
      · rw [if_neg h1]
        have h2 : heldC (l ++ [x]) b a = heldC l b a := by omega
        unfold waitC
        rw [h2, drop_snoc hle]
end
end Go.Proofs.YtebmafghekfllaaDoor
