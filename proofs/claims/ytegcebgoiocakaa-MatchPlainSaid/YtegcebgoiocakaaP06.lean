/- The document's length of a tree is how many instructions it comes to. -/
import Derived.Test.YtegcebgoiocakaaM20
import Derived.Test.YtegcebgoiocakaaO02
import Derived.Test.YtegcebgoiocakaaP05
namespace Go.Proofs.Ytegcebgoiocakaa
open Go Go.RowKit
set_option linter.unusedVariables false

/-- Told alike, up to a bound. -/
def Alk (L : Int) (r : Int) (c : Nat) : Prop := ((c : Int) ≤ L → r = (c : Int)) ∧ (L ≤ (c : Int) → L ≤ r)
section
variable {L r s : Int} {c d : Nat}
theorem Alk.add (h : Alk L r c) (k : Alk L s d) (hr : 0 ≤ r) (hs : 0 ≤ s) : Alk L (r + s) (c + d) := by
  obtain ⟨h1, h2⟩ := h
  obtain ⟨k1, k2⟩ := k
  constructor
  · intro h; have := h1 (by omega); have := k1 (by omega); omega
  · intro h
    rcases Int.le_total L (c : Int) with h3 | h3
    · have := h2 h3; omega
    · rcases Int.le_total L (d : Int) with h4 | h4
      · have := k2 h4; omega
      · have := h1 h3; have := k1 h4; omega
theorem Alk.cap (h : Alk L r c) : Alk L (min r L) c := by
  obtain ⟨h1, h2⟩ := h
  exact ⟨fun h => by have := h1 h; omega, fun h => by have := h2 h; omega⟩
theorem Alk.mul (h : Alk L r c) (hb : 0 < L) (hr : 0 ≤ r) (m : Nat) : Alk L ((m : Int) * r) (m * c) := by
  obtain ⟨h1, h2⟩ := h
  rcases Nat.eq_zero_or_pos m with rfl | hm
  · simp only [Nat.zero_mul]
    exact ⟨fun _ => by simp, fun h => by simp at h; omega⟩
  · have hmc : ((m * c : Nat) : Int) = (m : Int) * (c : Int) := by push_cast; rfl
    have h6 : 1 * (c : Int) ≤ (m : Int) * (c : Int) := Int.mul_le_mul_of_nonneg_right (by omega) (by omega)
    have h7 : 1 * r ≤ (m : Int) * r := Int.mul_le_mul_of_nonneg_right (by omega) hr
    refine ⟨fun h => ?_, fun h => ?_⟩
    · rw [hmc] at h ⊢
      rw [h1 (by omega)]
    · rw [hmc] at h
      rcases Int.le_total (c : Int) L with h3 | h3
      · rw [h1 h3]; exact h
      · have := h2 h3; omega
theorem Alk.nat (c : Nat) : Alk L (c : Int) c := ⟨fun _ => rfl, fun h => h⟩
end
theorem alk_row : ∀ (T : Wood), TreeOk T → LenOk T → Alk bigL (rowLen T) (cntW T)
  | .nil, _, _ => Alk.nat 0
  | .cons op s mn mx k x, ⟨ho, _, hk, hx⟩, ⟨hl, h5, h6, hlk, hlx⟩ => by
    have ik := alk_row k hk hlk
    have ix := alk_row x hx hlx
    have hb : 0 < bigL := by decide
    have g1 := rowLen_ge k hlk
    have g2 := rowLen_ge x hlx
    have g3 := opLen_ge (op := op) (mn := mn) (mx := mx) (n := (k.len : Int)) g1 (fun h => by have := h5 h; omega) h6
    simp only [rowLen, cntW]
    refine Alk.add ?_ ix g3 g2
    clear ix hx hlx g2 g3
    rcases ho with rfl | rfl | rfl | rfl | rfl | rfl | rfl
    · exact Alk.nat 0
    · exact Alk.nat 1
    · exact Alk.nat 1
    · exact Alk.nat 1
    · rw [show opLen 4 mn mx (k.len : Int) (rowLen k) = min (rowLen k) bigL from rfl, show opCnt 4 mn mx k.len (cntW k) = cntW k from rfl]
      exact ik.cap
    · rw [show opLen 5 mn mx (k.len : Int) (rowLen k) = min (rowLen k + (2 * (k.len : Int) - 2)) bigL from rfl, show opCnt 5 mn mx k.len (cntW k) = cntW k + 2 * (k.len - 1) from rfl]
      have := h5 rfl
      rw [show (2 * (k.len : Int) - 2) = ((2 * (k.len - 1) : Nat) : Int) by omega]
      exact (ik.add (Alk.nat _) g1 (by omega)).cap
    · obtain ⟨m1, m2, m3⟩ := h6 rfl
      obtain ⟨m, rfl⟩ : ∃ m : Nat, mn = (m : Int) := ⟨mn.toNat, by omega⟩
      rw [show opLen 6 (m : Int) mx (k.len : Int) (rowLen k) = min ((m : Int) * rowLen k + (if mx < 0 then rowLen k + 2 else (mx - (m : Int)) * (rowLen k + 1))) bigL from rfl, show opCnt 6 (m : Int) mx k.len (cntW k) = m * cntW k + (if mx < 0 then cntW k + 2 else (max mx (m : Int) - (m : Int)).toNat * (cntW k + 1)) from rfl]
      refine Alk.cap ?_
      have hm := ik.mul hb g1 m
      have gm : 0 ≤ (m : Int) * rowLen k := Int.mul_nonneg (by omega) g1
      by_cases h0 : mx < 0
      · rw [if_pos h0, if_pos h0]
        exact hm.add (ik.add (Alk.nat 2) g1 (by omega)) gm (by omega)
      · rw [if_neg h0, if_neg h0]
        obtain ⟨mo, hmo⟩ : ∃ mo : Nat, mx - (m : Int) = (mo : Int) := ⟨(mx - (m : Int)).toNat, by omega⟩
        rw [hmo, show (max mx (m : Int) - (m : Int)).toNat = mo by omega]
        exact hm.add ((ik.add (Alk.nat 1) g1 (by omega)).mul hb (by omega) mo) gm (Int.mul_nonneg (by omega) (by omega))
theorem cnt_of_row {T : Wood} (h1 : TreeOk T) (h2 : LenOk T) (h : rowLen T ≤ 150) : rowLen T = (cntW T : Int) ∧ cntW T ≤ 150 := by
  obtain ⟨k1, k2⟩ := alk_row T h1 h2
  have : bigL = 1099511627776 := rfl
  rw [this] at k1 k2
  rcases Int.le_total (cntW T : Int) 1099511627776 with h3 | h3
  · have := k1 h3; exact ⟨this, by omega⟩
  · have := k2 h3; omega
end Go.Proofs.Ytegcebgoiocakaa
/- What a pattern's tree is: its counts, how many kids, how great its sets. -/
namespace Go.Proofs.Ytegcebgoiocakaa
open Go Go.RowKit
set_option linter.unusedVariables false

theorem canonF_len : ∀ {s : List (Int × Int)} {lo : Int}, 0 ≤ lo → CanonF lo s → s = [] ∨ 2 * (s.length : Int) + lo ≤ 1114113
  | [], _, _, _ => .inl rfl
  | p :: s, lo, h0, ⟨h1, h2, h3, h4⟩ => by
    refine .inr ?_
    have := canonF_len (by omega) h4
    rw [List.length_cons]
    rcases this with rfl | this
    · simp; omega
    · push_cast; omega
theorem canon_len {s : List (Int × Int)} (h : Canon s) : s.length ≤ 600000 := by
  rcases canonF_len (Int.le_refl 0) h with rfl | h
  · simp
  · omega
def CntOk (mn mx : Int) : Prop := 0 ≤ mn ∧ mn ≤ 50 ∧ (mx = -1 ∨ mn ≤ mx ∧ mx ≤ 50)
def TokQ (t : TokL) : Prop := t.set.length ≤ 600000 ∧ CntOk t.mn t.mx
theorem cnt0 : CntOk 0 0 := ⟨by decide, by decide, .inr ⟨by decide, by decide⟩⟩
theorem tokS_q {r : Int} : TokQ (tokS r) := ⟨Nat.zero_le _, cnt0⟩
theorem tokC_q {s : List (Int × Int)} (h : s.length ≤ 600000) : TokQ (tokC s) := ⟨h, cnt0⟩
theorem tokN_q {a b : Int} (h : CntOk a b) : TokQ (tokN a b) := ⟨Nat.zero_le _, h⟩
theorem isDig_in {a : Int} (h : isDig a = true) : 48 ≤ a ∧ a ≤ 57 := by simpa [isDig] using h
theorem numL_q {l r : List Int} {a : Int} (h : numL l = some (a, r)) : 0 ≤ a ∧ a ≤ 50 := by
  unfold numL at h
  repeat' split at h
  all_goals first
    | (cases h; done)
    | (injection h with h; injection h with h _; subst h
       simp only [isDig, Bool.and_eq_true, decide_eq_true_eq] at *
       omega)
theorem braceL_q {l r : List Int} {t : TokL} (h : braceL l = some (t, r)) : TokQ t := by
  unfold braceL at h
  split at h
  · rename_i h1
    injection h with h; injection h with h _; subst h
    have := numL_q h1
    exact tokN_q ⟨this.1, this.2, .inr ⟨Int.le_refl _, this.2⟩⟩
  · rename_i h1
    injection h with h; injection h with h _; subst h
    have := numL_q h1
    exact tokN_q ⟨this.1, this.2, .inl rfl⟩
  · rename_i h1
    have k1 := numL_q h1
    split at h
    · rename_i h2
      have k2 := numL_q h2
      split at h
      · cases h
      · injection h with h; injection h with h _; subst h
        exact tokN_q ⟨k1.1, k1.2, .inr ⟨by omega, k2.2⟩⟩
    · cases h
  · cases h
theorem namedS_q (r : Int) : (namedS r).length ≤ 4 := by
  unfold namedS
  split
  · decide
  · split
    · decide
    · split <;> decide
theorem escL_q {r : Int} {s : List (Int × Int)} {b : Bool} (h : escL r = some (s, b)) : s.length ≤ 600000 := by
  unfold escL at h
  repeat' split at h
  all_goals first
    | (cases h; done)
    | (injection h with h; injection h with h _; subst h; first | exact canon_len (setOf_canon _) | exact Nat.le_trans (namedS_q r) (by decide) | exact (show 1 ≤ 600000 by decide))
theorem classL_q {l r : List Int} {s : List (Int × Int)} (h : classL l = some (s, r)) : s.length ≤ 600000 := by
  unfold classL at h
  split at h
  · obtain ⟨p, _, h⟩ := Option.map_eq_some_iff.1 h
    injection h with h _; subst h
    exact canon_len (setOf_canon _)
  · obtain ⟨p, _, h⟩ := Option.map_eq_some_iff.1 h
    injection h with h _; subst h
    exact canon_len (setOf_canon _)
theorem tokL_q {l r : List Int} {t : TokL} (h : tokL l = some (t, r)) : TokQ t := by
  cases l with
  | nil => cases h
  | cons c l =>
    rw [tokL.eq_def] at h
    dsimp only at h
    repeat' split at h
    all_goals first
      | (injection h with h; injection h with h _; subst h; first | exact tokS_q | exact tokN_q ⟨by decide, by decide, .inl rfl⟩ | exact tokN_q ⟨by decide, by decide, .inr ⟨by decide, by decide⟩⟩ | exact tokC_q (show 2 ≤ 600000 by decide) | exact tokC_q (show 1 ≤ 600000 by decide))
      | exact braceL_q h
      | (cases h; done)
      | skip
    · obtain ⟨⟨s, q⟩, h1, h⟩ := Option.map_eq_some_iff.1 h
      injection h with h _; subst h
      exact tokC_q (classL_q h1)
    · obtain ⟨⟨s, b⟩, h1, h⟩ := Option.map_eq_some_iff.1 h
      injection h with h _; subst h
      exact tokC_q (escL_q h1)
theorem toksL_q : ∀ (f : Nat) (l : List Int) (ts : List TokL), toksL f l = some ts → ts.length ≤ l.length ∧ ∀ t ∈ ts, TokQ t
  | _, [], ts, h => by
    rw [toksL] at h
    injection h with h; subst h
    exact ⟨Nat.le_refl _, fun t ht => nomatch ht⟩
  | 0, _ :: _, _, h => by cases h
  | f + 1, r :: l, ts, h => by
    rw [toksL] at h
    split at h
    · cases h
    · rename_i t l' ht
      obtain ⟨us, hu, h⟩ := Option.map_eq_some_iff.1 h
      subst h
      have h1 := tokL_lt ht
      obtain ⟨h2, h3⟩ := toksL_q f l' us hu
      refine ⟨by rw [List.length_cons]; omega, fun u hu => ?_⟩
      rcases List.mem_cons.1 hu with rfl | hu
      · exact tokL_q ht
      · exact h3 u hu
/-! ### Trees -/
def QW (T : Wood) : Prop := TreeOk T ∧ LenOk T
theorem treeOk_app : ∀ {a b : Wood}, TreeOk a → TreeOk b → TreeOk (a.app b)
  | .nil, _, _, h => h
  | .cons .., _, ⟨h1, h2, h3, h4⟩, hb => ⟨h1, h2, h3, treeOk_app h4 hb⟩
theorem lenOk_app : ∀ {a b : Wood}, LenOk a → LenOk b → LenOk (a.app b)
  | .nil, _, _, h => h
  | .cons .., _, ⟨h1, h2, h3, h4, h5⟩, hb => ⟨h1, h2, h3, h4, lenOk_app h5 hb⟩
theorem QW.app {a b : Wood} (h : QW a) (k : QW b) : QW (a.app b) := ⟨treeOk_app h.1 k.1, lenOk_app h.2 k.2⟩
theorem QW.nil : QW .nil := ⟨trivial, trivial⟩
theorem q_leaf {op : Int} {s : List (Int × Int)} (h : op = 0 ∨ op = 1 ∨ op = 2 ∨ op = 3) (hs : s.length ≤ 600000) : QW (leaf op s) :=
  ⟨⟨by omega, by omega, trivial, trivial⟩, by show (0 : Nat) ≤ 1000; omega, fun h => by omega, fun h => by omega, trivial, trivial⟩
theorem q_one {op : Int} (h : op = 4 ∨ op = 5) : ∀ {l : Wood}, QW l → l.len ≤ 1000 → QW (oneN op l) ∧ (oneN op l).len = 1
  | .nil, _, _ => ⟨q_leaf (.inl rfl) (Nat.zero_le _), rfl⟩
  | .cons o s a z k .nil, h', _ => ⟨h', rfl⟩
  | .cons o s a z k (.cons o' s' a' z' k' x), h', hl => ⟨⟨⟨by omega, Nat.zero_le _, h'.1, trivial⟩, hl, fun _ => by simp only [Wood.len]; omega, fun h6 => by omega, h'.2, trivial⟩, rfl⟩
theorem q_rep {mn mx : Int} (hc : CntOk mn mx) : ∀ {p : Wood}, QW p → QW (repLast mn mx p) ∧ (repLast mn mx p).len = p.len
  | .nil, h => ⟨h, rfl⟩
  | .cons o s a z k .nil, h' => ⟨⟨⟨by omega, Nat.zero_le _, h'.1, trivial⟩, by show (1 : Nat) ≤ 1000; omega, fun h5 => by omega, fun _ => ⟨hc.1, by have := hc.2.1; omega, by have := hc.2.2; omega⟩, h'.2, trivial⟩, rfl⟩
  | .cons o s a z k (.cons o' s' a' z' k' x), ⟨⟨h1, h2, h3, h4⟩, ⟨k1, k2, k3, k4, k5⟩⟩ => by
    have := q_rep hc (p := .cons o' s' a' z' k' x) ⟨h4, k5⟩
    rw [repLast.eq_3 _ _ _ _ _ _ _ _ (by intro e; cases e)]
    exact ⟨⟨⟨h1, h2, h3, this.1.1⟩, k1, k2, k3, k4, this.1.2⟩, by simp only [Wood.len] at this ⊢; omega⟩
theorem q_fin {a p : Wood} (ha : QW a) (hp : QW p) (hal : a.len ≤ 900) (hpl : p.len ≤ 900) : QW (finN a p) ∧ (finN a p).len = 1 := by
  obtain ⟨h1, h2⟩ := q_one (Or.inl rfl) hp (by omega)
  exact q_one (op := 5) (Or.inr rfl) (ha.app h1) (by rw [Wood.len_app]; omega)
theorem runT_q (D : Nat) : ∀ (ts : List TokL) (st : List (Wood × Wood)) (a p : Wood) (lo : Bool) (T : Wood) (L : Nat), L + ts.length ≤ 800 → (∀ t ∈ ts, TokQ t) → (∀ q ∈ st, (QW q.1 ∧ q.1.len ≤ L) ∧ (QW q.2 ∧ q.2.len ≤ L)) → (QW a ∧ a.len ≤ L) → (QW p ∧ p.len ≤ L) → runT D ts st a p lo = some T → QW T ∧ T.len = 1
  | [], [], a, p, lo, T, L, hL, _, _, ha, hp, h => by
    rw [runT] at h
    injection h with h; subst h
    exact q_fin ha.1 hp.1 (by simp at hL; omega) (by simp at hL; omega)
  | [], _ :: _, _, _, _, _, _, _, _, _, _, _, h => by cases h
  | t :: ts, st, a, p, lo, T, L, hL, ht, hst, ha, hp, h => by
    obtain ⟨hs, hc⟩ := ht t (by simp)
    rw [List.length_cons] at hL
    have ih := fun st a p lo h1 h2 h3 => runT_q D ts st a p lo T (L + 1) (by omega) (fun t h => ht t (by simp [h])) h1 h2 h3
    have hst' : ∀ q ∈ st, (QW q.1 ∧ q.1.len ≤ L + 1) ∧ (QW q.2 ∧ q.2.len ≤ L + 1) := fun q hq => by
      obtain ⟨⟨h1, h2⟩, h3, h4⟩ := hst q hq
      exact ⟨⟨h1, by omega⟩, h3, by omega⟩
    have ha' : QW a ∧ a.len ≤ L + 1 := ⟨ha.1, by omega⟩
    have one1 : ∀ {q : Wood}, q.len = 1 → QW q → QW (p.app q) ∧ (p.app q).len ≤ L + 1 := fun h1 h2 => ⟨hp.1.app h2, by rw [Wood.len_app]; omega⟩
    have nl : QW .nil ∧ Wood.nil.len ≤ L + 1 := ⟨QW.nil, Nat.zero_le _⟩
    rw [runT.eq_def] at h
    dsimp only at h
    split at h
    · exact ih _ _ _ _ hst' ha' (one1 rfl (q_leaf (.inr (.inl rfl)) hs)) h
    · split at h
      · split at h
        · have k := q_rep hc hp.1
          exact ih _ _ _ _ hst' ha' ⟨k.1, by omega⟩ h
        · cases h
      · split at h
        · have k := q_one (op := 4) (Or.inl rfl) hp.1 (by omega)
          exact ih _ _ _ _ hst' ⟨ha.1.app k.1, by rw [Wood.len_app]; omega⟩ nl h
        · split at h
          · exact ih _ _ _ _ hst' ha' (one1 rfl (q_leaf (.inr (.inr (.inl rfl))) (Nat.zero_le _))) h
          · split at h
            · exact ih _ _ _ _ hst' ha' (one1 rfl (q_leaf (.inr (.inr (.inr rfl))) (Nat.zero_le _))) h
            · split at h
              · cases st with
                | nil => cases h
                | cons q st =>
                  obtain ⟨a', p'⟩ := q
                  have k := q_fin ha.1 hp.1 (by omega) (by omega)
                  have q := hst (a', p') (by simp)
                  exact ih _ _ _ _ (fun q hq => hst' q (by simp [hq])) ⟨q.1.1, by have := q.1.2; simp at this; omega⟩ ⟨q.2.1.app k.1, by rw [Wood.len_app]; have := q.2.2; simp at this; omega⟩ h
              · split at h
                · exact ih _ _ _ _ (fun q hq => by
                    rcases List.mem_cons.1 hq with rfl | hq
                    · exact ⟨⟨ha.1, by have := ha.2; simp; omega⟩, hp.1, by have := hp.2; simp; omega⟩
                    · exact hst' q hq) nl nl h
                · cases h
theorem parseT_q {s : ByteArray} {T : Wood} (hs : s.size ≤ 200) (h : parseT s = some T) : TreeOk T ∧ LenOk T ∧ T.len = 1 := by
  unfold parseT at h
  obtain ⟨l, h1, h2⟩ := Option.bind_eq_some_iff.1 h
  have h3 := pointsL_len _ _ _ (Nat.le_refl _) h1
  rw [nums_length] at h3
  unfold treeL at h2
  obtain ⟨ts, h4, h5⟩ := Option.bind_eq_some_iff.1 h2
  obtain ⟨k1, k2⟩ := toksL_q _ _ _ h4
  obtain ⟨i1, i2⟩ := runT_q 0 ts [] .nil .nil false T 0 (by omega) k2 (fun q hq => by cases hq) ⟨QW.nil, Nat.le_refl _⟩ ⟨QW.nil, Nat.le_refl _⟩ h5
  exact ⟨i1.1, i1.2, i2⟩
end Go.Proofs.Ytegcebgoiocakaa
/- The program of any pattern that is not too long. -/
namespace Go.Proofs.Ytegcebgoiocakaa
open Go Go.RowKit
set_option linter.unusedVariables false
set_option maxRecDepth 20000

theorem okI_okB {c : Nat} {v : InstL} (h : OkI c v) : okB (c + 1) v = true := by
  obtain ⟨h1, h2, h3, h4, h5, h6⟩ := h
  have hx : inB (c + 1) v.x = true := by unfold inB; simp; omega
  have hy : inB (c + 1) v.y = true := by unfold inB; simp; omega
  unfold okB
  rcases h1 with h1 | h1 | h1 | h1 <;> rw [h1] <;> simp [hx, hy]
set_option maxHeartbeats 4000000 in
theorem compile_Y {w : World} {x : NV} {c : Nat} (hc : c ≤ 1000) (hL : LenC w.heap.size w x.val c) (hT : ∀ g, TreeY w.heap.size g w x.val c) : Calls Try.prog 24 #[.agg #[.int .i64 x.op, .slice x.A x.ns x.cs, .int .i64 x.mn, .int .i64 x.mx, .slice x.D x.nk x.ck]] w fun e w' => ∃ P pc l, e = .returned (.tuple #[.slice P (c + 1) pc, .int .i64 0]) ∧ InsF (fun b => w.heap.size ≤ b) w' P (c + 1) l ∧ rightB (c + 1) l = true ∧ (∀ v ∈ l, v.n ≤ 1000000) ∧ Below w.heap.size w w' := by
  have HL := Lib.hid (show ∀ w1, Below w.heap.size w w1 → w.heap.size ≤ w1.heap.size → Calls Try.prog 36 #[.agg #[.int .i64 x.op, .slice x.A x.ns x.cs, .int .i64 x.mn, .int .i64 x.mx, .slice x.D x.nk x.ck]] w1 fun e w' => e = .returned (.int .i64 (c : Int)) ∧ Below w1.heap.size w1 w' from hL)
  have HT := Lib.hid (show ∀ g w1 P pc xs, Below w.heap.size w w1 → WrS w.heap.size g w1 P 0 pc xs → Calls Try.prog 37 #[.pointer (some ⟨g, 0, none⟩), .agg #[.int .i64 x.op, .slice x.A x.ns x.cs, .int .i64 x.mn, .int .i64 x.mx, .slice x.D x.nk x.ck]] w1 (fun e w' => e = .returned (.tuple #[]) ∧ ∃ P' pc' xs', WrS w.heap.size g w' P' c pc' xs' ∧ (∃ ys, codes xs' = codes xs ++ ys ∧ ys.length = c ∧ OkL c ys ∧ NewS w1 xs xs') ∧ Wk w.heap.size g (.slice P 0 pc) w1 w' ∧ Vk w1 (.slice P 0 pc) (.slice P' c pc')) from fun g w1 P pc xs hb h => by
    have := hT g w1 P 0 pc xs hb h (by omega)
    unfold AddedY StY at this
    rwa [Nat.zero_add] at this)
  obtain ⟨i0, hi, hz0, hz1, hz2⟩ := info_parts info_inst
  have hc0 : ¬ (c : Int) ≥ 2000 := by omega
  have hcw : IntKind.i64.wrap ((c : Int) + 1) = (c : Int) + 1 := by rw [IntKind.wrap_i64]; omega
  clear hL hT
  go_enter Try.func24, Try.ntmps24
  go_wp2_with (first
    | (go_at_call 36; (with_reducible refine (HL.out _ ((Below.refl _ _).alloc (Nat.le_refl _) _) (by simp)).mono ?_); rintro e w1 ⟨rfl, hb1⟩; have HX := Lib.hid (show w1.heap[w.heap.size]? = some (.cells #[.int .i64 x.op, .slice x.A x.ns x.cs, .int .i64 x.mn, .int .i64 x.mx, .slice x.D x.nk x.ck] 52 (0, 0)) from (hb1.block _ (by simp)).trans (heap_alloc_new w _)); have H1 := Lib.hid (((Below.refl w.heap.size w).alloc (Nat.le_refl _) (.cells #[.int .i64 x.op, .slice x.A x.ns x.cs, .int .i64 x.mn, .int .i64 x.mx, .slice x.D x.nk x.ck] 52)).trans (hb1.mono (by simp))); clear hb1)
    | (at_make; refine wpList_make_own _ rfl _ _ 23 rfl w.heap.size 45 i0 _ 4 Try.underlying23 hi hz0 hz1 .i64 .i64 (c + 1) (c + 1) rfl rfl rfl (by rw [hz2]; omega) (by unfold maxLen; omega) H1.out.size ?_; intro w2 hown hgrow; have H2 := Lib.hid (make_doneX H1.out HX.out hown hgrow); obtain ⟨y0, y1, y2, y3, y4⟩ := H2.out.2.2; clear hown hgrow)
    | (go_at_call 37; (with_reducible refine (HT.out _ _ _ _ _ H2.out.1 H2.out.2.1).mono ?_); rintro e w4 ⟨rfl, P', pc', xs', k1, kc, k2, k3⟩; have HS := Lib.hid k1; have HB := Lib.hid (H2.out.1.trans k2.1); have g1 : w4.cell? ⟨w2.heap.size, 0, none⟩ = some (.slice P' c pc') := cell_of_row w4 _ 0 _ _ (0, 0) k1.hg; obtain ⟨P5, pc5, w5, ha, _, _, _, _, hwr5, _, _, hk5⟩ := (HS.out.below ((Below.refl w4.heap.size w4).alloc (Nat.le_refl _) (.cells #[.int .i64 0, .slice none 0 0, .int .i64 0, .int .i64 0] 45))).push (x := ⟨⟨0, [], 0, 0⟩, none, 0, 0⟩) (d := w4.heap.size) (heap_alloc_new w4 _) (rowF_nil _ _) (by omega); have HA := Lib.hid (show (Builtin.append_ #[23, 23] 23 #[.slice P' c pc', .slice (some ⟨w4.heap.size, 0, none⟩) 1 1]).run Try.prog (w4.alloc (.cells #[.int .i64 0, .slice none 0 0, .int .i64 0, .int .i64 0] 45)) = .ok (.slice P5 (c + 1) pc5) w5 from ha); have HK5 := Lib.hid ((HB.out.alloc HB.out.size (.cells #[.int .i64 0, .slice none 0 0, .int .i64 0, .int .i64 0] 45)).trans hk5); have HI5 := Lib.hid (And.intro hwr5 kc); clear k1 kc k2 k3 ha hk5 hwr5)
    | (at_builtin; refine wpList_append_run rfl _ _ 23 rfl rfl _ _ _ _ rfl rfl HA.out ?_))
  go_ret2
  obtain ⟨ys, hy1, hy2, hy3, -⟩ := HI5.out.2
  have hcod : codes (xs' ++ [⟨⟨0, [], 0, 0⟩, none, 0, 0⟩]) = ys ++ [⟨0, [], 0, 0⟩] := by rw [codes_app, hy1]; rfl
  have hI := (HI5.out.1.insF (fun v hv => by
    rw [hcod] at hv
    rcases List.mem_append.1 hv with hv | hv
    · exact Nat.le_trans (hy3 v hv).2.2.2.2.2 (by decide)
    · rw [List.mem_singleton] at hv; subst hv; decide)).keep (w' := w5) (by simp) fun b hF _ => (Below.heap_setCell _ _ _ _ hF.2).symm
  refine ⟨P5, pc5, _, rfl, hI.mono fun b hF _ => hF.1, ?_, fun v hv => ?_, HK5.out⟩
  · rw [rightB_codes, hcod, List.all_append]
    simp only [Bool.and_eq_true, decide_eq_true_eq]
    refine ⟨⟨List.all_eq_true.2 fun v hv => okI_okB (hy3 v hv), ?_⟩, Nat.succ_pos _⟩
    simp [okB]
  · have h1 := (hI.2.2 v hv).1.1.1
    have h2 : v.i ∈ codes (xs' ++ [⟨⟨0, [], 0, 0⟩, none, 0, 0⟩]) := List.mem_map_of_mem hv
    rw [hcod] at h2
    rcases List.mem_append.1 h2 with h2 | h2
    · have := (hy3 _ h2).2.2.2.2.2; omega
    · rw [List.mem_singleton] at h2; rw [h2] at h1; simp at h1; omega
/-- A pattern's tree, wherever it stays: its length, its program. -/
theorem tree_at {F : Nat → Prop} {w1 : World} {x : NV} {T : Wood} (h : NodesIn F w1 [x] T) (ho : TreeOk T) (hl : LenOk T) : ∀ w2, Below w1.heap.size w1 w2 →
    (Calls Try.prog 23 #[.agg #[.int .i64 x.op, .slice x.A x.ns x.cs, .int .i64 x.mn, .int .i64 x.mx, .slice x.D x.nk x.ck]] w2 fun e w' => e = .returned (.int .i64 (rowLen T)) ∧ Below w2.heap.size w2 w') ∧
    (rowLen T ≤ 150 → Calls Try.prog 24 #[.agg #[.int .i64 x.op, .slice x.A x.ns x.cs, .int .i64 x.mn, .int .i64 x.mx, .slice x.D x.nk x.ck]] w2 fun e w' => ∃ P pc l, e = .returned (.tuple #[.slice P (cntW T + 1) pc, .int .i64 0]) ∧ InsF (fun b => w2.heap.size ≤ b) w' P (cntW T + 1) l ∧ rightB (cntW T + 1) l = true ∧ (∀ v ∈ l, v.n ≤ 1000000) ∧ Below w2.heap.size w2 w') := fun w2 hb => by
  have h2 : NodesIn (fun b => b < w2.heap.size) w2 [x] T := h.move hb.size fun b _ hlt => ⟨Nat.lt_of_lt_of_le hlt hb.size, hb.block b hlt⟩
  refine ⟨rlen_any T.size T (Nat.le_refl _) _ w2 _ h2.one hl, fun h150 => ?_⟩
  have hc := (cnt_of_row ho hl h150).2
  have hL := len_anyP T.size T (Nat.le_refl _) _ h2.one ho hl
  rw [show min (cntW T) bigN = cntW T from Nat.min_eq_left (Nat.le_trans hc (by decide))] at hL
  exact compile_Y (by omega) hL fun g => tree_anyY (Nat.le_refl _) T.size T (Nat.le_refl _) _ h2.one ho hl
/-- What made answers. -/
def MadeE (s : ByteArray) (w : World) (e : Ending) (w' : World) : Prop :=
  Below w.heap.size w w' ∧ (e = .returned (.slice none 0 0) ∨ ∃ P n pc l, e = .returned (.slice P n pc) ∧ 0 < n ∧ n ≤ 151 ∧ InsF (fun b => w.heap.size ≤ b) w' P n l ∧ rightB n l = true ∧ ∀ v ∈ l, v.n ≤ 1000000)
set_option maxHeartbeats 4000000 in
theorem made11_any (s : ByteArray) (w : World) : Calls Try.prog 9 #[.string s] w (MadeE s w) := by
  have HP := Lib.hid (rparse_any s w)
  go_enter Try.func9, Try.ntmps9
  go_wp2_with fail
  refine HP.out.mono ?_
  rintro e w1 ⟨hb, ⟨_, rfl⟩ | ⟨_, _, rfl⟩ | ⟨x, T, hs, hpt, rfl, hN⟩⟩
  · have HB := Lib.hid hb
    clear hb
    go_wp2
    go_ret
    exact ⟨HB.out.alloc HB.out.size _, .inl rfl⟩
  · have HB := Lib.hid hb
    clear hb
    go_wp2
    go_ret
    exact ⟨HB.out.alloc HB.out.size _, .inl rfl⟩
  · obtain ⟨ho, hl, _⟩ := parseT_q hs hpt
    have HC := Lib.hid (tree_at hN ho hl)
    have HB := Lib.hid hb
    obtain ⟨L, hL⟩ : ∃ L, L = rowLen T := ⟨_, rfl⟩
    rw [← hL] at HC
    have HLO := Lib.hid (And.intro hL (And.intro ho hl))
    have HC1 := Lib.hid (HC.out (w1.alloc (.cells #[.int .i64 x.op, .slice x.A x.ns x.cs, .int .i64 x.mn, .int .i64 x.mx, .slice x.D x.nk x.ck] 52)) ((Below.refl _ _).alloc (Nat.le_refl _) _)).1
    clear hb hN ho hl hL hs hpt
    simp only [NV.val]
    by_cases h150 : 150 < L
    · go_wp2_with (go_at_call 23; (with_reducible refine HC1.out.mono ?_); rintro e w2 ⟨rfl, hb⟩; have HB2 := Lib.hid (((Below.refl w1.heap.size w1).alloc (Nat.le_refl _) (.cells #[.int .i64 x.op, .slice x.A x.ns x.cs, .int .i64 x.mn, .int .i64 x.mx, .slice x.D x.nk x.ck] 52)).trans (hb.mono (by simp))); clear hb)
      go_ret
      exact ⟨HB.out.trans (HB2.out.mono HB.out.size), .inl rfl⟩
    · have HLe := Lib.hid (show L ≤ 150 by omega)
      go_wp2_with (first
        | (go_at_call 23; (with_reducible refine HC1.out.mono ?_); rintro e w2 ⟨rfl, hb⟩; have hbx := Lib.hid (show w2.heap[w1.heap.size]? = some (.cells #[.int .i64 x.op, .slice x.A x.ns x.cs, .int .i64 x.mn, .int .i64 x.mx, .slice x.D x.nk x.ck] 52 (0, 0)) from (hb.block _ (by simp)).trans (heap_alloc_new w1 _)); obtain ⟨y0, y1, y2, y3, y4, yf⟩ := box_facts hbx.out; have HB2 := Lib.hid (((Below.refl w1.heap.size w1).alloc (Nat.le_refl _) (.cells #[.int .i64 x.op, .slice x.A x.ns x.cs, .int .i64 x.mn, .int .i64 x.mx, .slice x.D x.nk x.ck] 52)).trans (hb.mono (by simp))); have HC2 := Lib.hid ((HC.out w2 HB2.out).2 HLe.out); clear hb)
        | (go_at_call 24; (with_reducible refine HC2.out.mono ?_); rintro e w3 ⟨P, pc, l, rfl, hI, hr, hs, hb⟩; have H3 := Lib.hid (And.intro hI (And.intro hr (And.intro hs hb))); clear hI hr hs hb))
      go_ret
      have hsz := Nat.le_trans HB.out.size HB2.out.size
      refine ⟨(HB.out.trans (HB2.out.mono HB.out.size)).trans (H3.out.2.2.2.mono hsz), .inr ⟨P, _, pc, l, rfl, Nat.succ_pos _, ?_, H3.out.1.mono fun b hF _ => Nat.le_trans hsz hF, H3.out.2.1, H3.out.2.2.1⟩⟩
      have := (cnt_of_row HLO.out.2.1 HLO.out.2.2 (by rw [← HLO.out.1]; exact HLe.out)).2
      omega
end Go.Proofs.Ytegcebgoiocakaa
/- MatchAll: all matches, one behind the other, are the document's. -/
namespace Go.Proofs.Ytegcebgoiocakaa
open Go Go.RowKit
set_option linter.unusedVariables false
set_option maxRecDepth 20000

set_option maxHeartbeats 8000000 in
theorem all11 (s T : ByteArray) (w : World) :
    Calls Try.prog 4 #[.string s, .string T] w fun e w' => e = .returned (.bool true) ∧ Below w.heap.size w w' := by
  have HA := Lib.hid (awake11_any w)
  have HA2 := Lib.hid fun w => awake11_any w
  have HM := Lib.hid fun w => made11_any s w
  by_cases hbig : 60 < s.size ∨ 40 < T.size
  · have hdone : ∀ w1, Below w.heap.size w w1 → ∀ w2, Below w1.heap.size w1 w2 → Below w.heap.size w w2 := fun w1 h1 w2 h2 => h1.trans (h2.mono h1.size)
    by_cases h60 : 60 < s.size
    · have h1 : (60 : Int) < (s.size : Int) := by omega
      clear hbig h60
      go_enter Try.func4, Try.ntmps4
      go_wp2_with (first
        | (go_at_call 8; (with_reducible refine HA.out.mono ?_); rintro e w1 ⟨rfl, hb⟩; have HB := Lib.hid hb; clear hb)
        | (go_at_call 8; (with_reducible refine (HA2.out _).mono ?_); rintro e w2 ⟨rfl, hb⟩; have HB2 := Lib.hid hb; clear hb))
      go_ret
      exact ⟨rfl, hdone _ HB.out _ HB2.out⟩
    · have h1 : ¬ (60 : Int) < (s.size : Int) := by omega
      have h2 : (40 : Int) < (T.size : Int) := by omega
      clear hbig h60
      go_enter Try.func4, Try.ntmps4
      go_wp2_with (first
        | (go_at_call 8; (with_reducible refine HA.out.mono ?_); rintro e w1 ⟨rfl, hb⟩; have HB := Lib.hid hb; clear hb)
        | (go_at_call 8; (with_reducible refine (HA2.out _).mono ?_); rintro e w2 ⟨rfl, hb⟩; have HB2 := Lib.hid hb; clear hb))
      go_ret
      exact ⟨rfl, hdone _ HB.out _ HB2.out⟩
  · have h1 : ¬ (60 : Int) < (s.size : Int) := by omega
    have h2 : ¬ (40 : Int) < (T.size : Int) := by omega
    have HT := Lib.hid (show T.size ≤ 40 by omega)
    clear hbig
    go_enter Try.func4, Try.ntmps4
    go_wp2_with (go_at_call 8; (with_reducible refine HA.out.mono ?_); rintro e w1 ⟨rfl, hb⟩; have HB := Lib.hid hb; clear hb)
    refine (HM.out _).mono ?_
    rintro e w2 ⟨hb, rfl | ⟨P, n, pc, l, rfl, hn0, hn, hI, hr, hset⟩⟩
    · have HB2 := Lib.hid (HB.out.trans (hb.mono HB.out.size))
      clear hb
      go_wp2
      go_ret
      exact ⟨rfl, HB2.out⟩
    · have HB2 := Lib.hid (HB.out.trans (hb.mono HB.out.size))
      have hT := HT.out
      have hIF : ∀ w', Below w2.heap.size w2 w' → InsF (fun b => b < w2.heap.size) w' P n l := fun w' hb => (hI.mono (F' := fun b => b < w2.heap.size) (fun b _ h => h)).belowB hb
      have hmn : (T.size + 1) * n ≤ 50000 := Nat.le_trans (Nat.mul_le_mul (show T.size + 1 ≤ 41 by omega) hn) (by decide)
      have C1 := Lib.hid fun (w' : World) (hb : Below w2.heap.size w2 w') => all_match P n pc l T w' (hIF w' hb) hr (by omega) (by omega)
      have D1 := Lib.hid fun (w' : World) (hb : Below w2.heap.size w2 w') => rall_match P n pc l T w' (hIF w' hb) hr hset hmn (by omega)
      have HRR := Lib.hid (rright_any P n pc l w2 hI.insAt (by omega))
      rw [hr] at HRR
      have hn1 : ((n : Int) == 0) = false := by simp; omega
      have hn2 : ¬ (n : Int) = 0 := by omega
      clear hb hI hr hset hmn hIF hT hn hn0
      go_wp2_with (first
        | (go_at_call 10; (with_reducible refine HRR.out.mono ?_); rintro e w3 ⟨rfl, hb1⟩; have HB3 := Lib.hid hb1; clear hb1)
        | (go_at_call 19; (with_reducible refine (C1.out _ HB3.out).mono ?_); rintro e w4 ⟨P1, q1, p1, hs1, rfl, ha1, ho1, hb1⟩; have HB4 := Lib.hid (HB3.out.trans (hb1.mono HB3.out.size)); have E1 := Lib.hid ha1; have R4 := Lib.hid (rowH_own ho1); clear ha1 ho1 hb1)
        | (go_at_call 20; (with_reducible refine (D1.out _ HB4.out).mono ?_); rintro e w5 ⟨P2, q2, p2, hs2, rfl, ha2, ho2, hb1⟩; have HB5 := Lib.hid (HB4.out.trans (hb1.mono HB4.out.size)); obtain rfl := E1.out.uniq ha2; have r1 := R4.out.below hb1; have r2 := rowH_own ho2; obtain rfl : q1 = q2 := r1.1.symm.trans r2.1; have HS := Lib.hid (hsame_any _ P1 P2 q1 p1 p2 w5 r1 r2 (by have h3 := ha2.len1 (by have := HT.out; omega); have h4 := r1.1; rw [List.length_map] at h4; omega)); clear ha2 ho2 hb1 r1 r2)
        | (go_at_call 18; (with_reducible refine HS.out.mono ?_); rintro e w6 ⟨rfl, qq, rfl⟩))
      go_ret
      exact ⟨rfl, below_drewN (HB2.out.trans (HB5.out.mono HB2.out.size)) qq⟩
end Go.Proofs.Ytegcebgoiocakaa
