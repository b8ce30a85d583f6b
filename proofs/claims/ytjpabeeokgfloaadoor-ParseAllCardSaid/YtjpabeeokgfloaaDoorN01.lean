/- The reader of code points: its memory; peek, next, take. -/
import Derived.Test.YtjpabeeokgfloaaDoorM04
import Derived.Test.YtjpabeeokgfloaaDoorM06
import Derived.Test.YtjpabeeokgfloaaDoorM09
import Derived.Test.YtjpabeeokgfloaaDoorM10
import Derived.Laws.ResultCell
import Derived.BigQuiet
import Derived.Deep.Slices
import Derived.Deep.Fields
import Derived.ChangeSame
import Derived.OpenShut
import Derived.ProofKit
namespace Go.Proofs.YtjpabeeokgfloaaDoor
open Go Go.RowKit
set_option linter.unusedVariables false
set_option maxRecDepth 20000

/-- Nothing that was there has turned but block g. -/
def Off (g : Nat) (w w' : World) : Prop := Below g w w' ∧ ∀ k, k < w.heap.size → k ≠ g → w'.heap[k]? = w.heap[k]?
theorem Off.refl (g : Nat) (w : World) : Off g w w := ⟨Below.refl _ _, fun _ _ _ => rfl⟩
theorem Off.trans {g : Nat} {a b c : World} (h : Off g a b) (k : Off g b c) : Off g a c :=
  ⟨h.1.trans k.1, fun i h1 h2 => (k.2 i (Nat.lt_of_lt_of_le h1 h.1.size) h2).trans (h.2 i h1 h2)⟩
theorem Off.drewN {g : Nat} {a b : World} (h : Off g a b) (q : Nat) : Off g a (b.drewN q) := ⟨below_drewN h.1 q, h.2⟩
theorem Off.of_below {g : Nat} {a b : World} (h : Below a.heap.size a b) (hg : g < a.heap.size) : Off g a b := ⟨Below.mono h (Nat.le_of_lt hg), fun k hk _ => h.block k hk⟩
theorem Off.setCell {g : Nat} {a b : World} (h : Off g a b) (j : Nat) (v : Value) : Off g a (b.setCell ⟨g, j, none⟩ v) :=
  ⟨h.1.setCell (Nat.le_refl _) v, fun k hk hne => (Below.heap_setCell _ _ _ _ hne).trans (h.2 k hk hne)⟩
theorem Off.alloc {g : Nat} {a b : World} (h : Off g a b) (hg : g < a.heap.size) (o : Obj) : Off g a (b.alloc o) := h.trans (Off.of_below ((Below.refl _ _).alloc (Nat.le_refl _) o) (Nat.lt_of_lt_of_le hg h.1.size))

/-- The reader that lies in block g: the code points that are left. -/
structure RdAt (w : World) (g : Nat) (A : Option Addr) (n c : Nat) (l : List Int) : Prop where
  blk : w.heap[g]? = some (.cells #[.slice A n c] 41 (0, 0))
  row : RowI .i64 w A n l
  cap : n ≤ c ∧ c ≤ maxLen
  few : n ≤ 1000
  low : ∀ a, A = some a → a.block < g
  nil : A = none → n = 0 ∧ c = 0
  pts : ∀ x ∈ l, 0 ≤ x ∧ x ≤ 1114111
def Rd (w : World) (g : Nat) (l : List Int) : Prop := ∃ A n c, RdAt w g A n c l
section
variable {w w' : World} {g n c : Nat} {A : Option Addr} {l : List Int}
theorem RdAt.lt (h : RdAt w g A n c l) : g < w.heap.size := (Array.getElem?_eq_some_iff.1 h.blk).1
theorem RdAt.c0 (h : RdAt w g A n c l) : w.cell? ⟨g, 0, none⟩ = some (.slice A n c) := cell_of_row w g 0 _ _ (0, 0) h.blk
theorem RdAt.fz (h : RdAt w g A n c l) : w.frozen? ⟨g, 0, none⟩ = false := by have := h.blk; simp [World.frozen?, this]
theorem RdAt.drewN (h : RdAt w g A n c l) (q : Nat) : RdAt (w.drewN q) g A n c l := ⟨h.blk, h.row, h.cap, h.few, h.low, h.nil, h.pts⟩
theorem RdAt.below (h : RdAt w g A n c l) (hb : Below w.heap.size w w') : RdAt w' g A n c l := ⟨(hb.block g h.lt).trans h.blk, h.row.below hb (Nat.le_refl _), h.cap, h.few, h.low, h.nil, h.pts⟩
/-- Nothing up to the reader has turned. -/
theorem RdAt.keep (h : RdAt w g A n c l) {B : Nat} (hb : Below B w w') (hB : g < B) : RdAt w' g A n c l :=
  ⟨(hb.block g hB).trans h.blk, rowI_keep h.row fun b o e _ => hb.block b (by have := h.low _ e; simp only at this; omega), h.cap, h.few, h.low, h.nil, h.pts⟩
theorem Rd.keep (h : Rd w g l) {B : Nat} (hb : Below B w w') (hB : g < B) : Rd w' g l := by obtain ⟨A, n, c, h⟩ := h; exact ⟨A, n, c, h.keep hb hB⟩
theorem Rd.lt (h : Rd w g l) : g < w.heap.size := by obtain ⟨A, n, c, h⟩ := h; exact h.lt
theorem Rd.below (h : Rd w g l) (hb : Below w.heap.size w w') : Rd w' g l := by obtain ⟨A, n, c, h⟩ := h; exact ⟨A, n, c, h.below hb⟩
theorem Rd.drewN (h : Rd w g l) (q : Nat) : Rd (w.drewN q) g l := by obtain ⟨A, n, c, h⟩ := h; exact ⟨A, n, c, h.drewN q⟩
theorem Rd.pts (h : Rd w g l) : ∀ x ∈ l, 0 ≤ x ∧ x ≤ 1114111 := by obtain ⟨A, n, c, h⟩ := h; exact h.pts
theorem Rd.few (h : Rd w g l) : l.length ≤ 1000 := by obtain ⟨A, n, c, h⟩ := h; rw [h.row.1]; exact h.few
theorem RdAt.nilL (h : RdAt w g A n c []) : n = 0 := by have := h.row.1; simpa using this.symm
theorem RdAt.cons {x : Int} (h : RdAt w g A n c (x :: l)) : ∃ b o, A = some ⟨b, o, none⟩ ∧ 0 < n ∧ n = l.length + 1 ∧ b ≠ g ∧ w.cell? ⟨b, o, none⟩ = some (.int .i64 x) ∧ 0 ≤ x ∧ x ≤ 1114111 := by
  have hl := h.row.1
  rw [List.length_cons] at hl
  obtain ⟨b, o, hA, _, hc⟩ := h.row.2 (by omega)
  have := hc 0 (by omega)
  have hp := h.pts x (List.mem_cons_self ..)
  exact ⟨b, o, hA, by omega, by omega, Nat.ne_of_lt (h.low _ hA), by simpa using this, hp.1, hp.2⟩
/-- The first k code points have been read. -/
theorem RdAt.cut (h : RdAt w g A n c l) {k : Nat} (hk : k ≤ n) {A' : Option Addr} {n' c' : Nat} (hA : (k < c ∧ A' = Option.map (fun x => x.add k) A) ∨ (k = c ∧ A' = A)) (hn : n' = n - k) (hc : c' = c - k) : RdAt (w.setCell ⟨g, 0, none⟩ (.slice A' n' c')) g A' n' c' (l.drop k) := by
  subst hn; subst hc
  have hrow : RowI .i64 w A' (n - k) (l.drop k) := by
    rcases hA with ⟨_, rfl⟩ | ⟨rfl, rfl⟩
    · exact rowI_from h.row hk
    · have hn : n = k := by have := h.cap.1; omega
      have : l.drop k = [] := List.drop_of_length_le (by rw [h.row.1]; omega)
      rw [this, hn, Nat.sub_self]
      exact RowI.nil_
  have hne : ∀ a, A' = some a → a.block < g := by
    rcases hA with ⟨_, rfl⟩ | ⟨_, rfl⟩
    · intro a e
      rcases A with _ | a'
      · cases e
      · simp only [Option.map_some, Option.some.injEq] at e
        subst e
        have := h.low a' rfl
        unfold Addr.add
        split <;> exact this
    · exact h.low
  refine ⟨heap_setCell_same w g 0 _ _ _ h.blk, ?_, ⟨by have := h.cap; omega, by have := h.cap; omega⟩, by have := h.few; omega, hne, ?_, fun x hx => h.pts x (List.mem_of_mem_drop hx)⟩
  · exact rowI_keep hrow fun b o e _ => Below.heap_setCell _ _ _ _ (Nat.ne_of_lt (hne _ e))
  · intro e
    rcases hA with ⟨_, rfl⟩ | ⟨_, rfl⟩
    · rcases A with _ | a
      · have := h.nil rfl; omega
      · cases e
    · have := h.nil e; omega
end

theorem peek_any {w : World} {g : Nat} {l : List Int} (h : Rd w g l) :
    Calls Tryd.prog 36 #[.pointer (some ⟨g, 0, none⟩)] w fun e w' => e = .returned (.int .i64 (l.headD (-1))) ∧ w = w' := by
  obtain ⟨A, n, c, h⟩ := h
  have c0 := h.c0
  rcases l with _ | ⟨x, l⟩
  · have hn := h.nilL
    subst hn
    clear h
    go_enter Tryd.func36, Tryd.ntmps36
    go_wp2
    go_ret
    exact ⟨rfl, rfl⟩
  · obtain ⟨b, o, rfl, h0, _, _, c1, _, _⟩ := h.cons
    have h1 : ((n : Int) == 0) = false := by simp; omega
    clear h
    go_enter Tryd.func36, Tryd.ntmps36
    go_wp2
    go_ret
    exact ⟨rfl, rfl⟩

theorem next_nil {w : World} {g : Nat} (h : Rd w g []) :
    Calls Tryd.prog 38 #[.pointer (some ⟨g, 0, none⟩)] w fun e w' => e = .returned (.int .i64 (-1)) ∧ w = w' := by
  have HP := Lib.hid (peek_any h)
  clear h
  go_enter Tryd.func38, Tryd.ntmps38
  go_wp2_with (go_at_call 36; (with_reducible refine HP.out.mono ?_); rintro e w1 ⟨rfl, rfl⟩; rw [show ([] : List Int).headD (-1) = -1 from rfl])
  go_ret
  exact ⟨rfl, rfl⟩
theorem next_cons {w : World} {g : Nat} {x : Int} {l : List Int} (h : Rd w g (x :: l)) :
    Calls Tryd.prog 38 #[.pointer (some ⟨g, 0, none⟩)] w fun e w' => e = .returned (.int .i64 x) ∧ Rd w' g l ∧ Off g w w' := by
  have HP := Lib.hid (peek_any h)
  obtain ⟨A, n, c, h⟩ := h
  have c0 := h.c0
  have f0 := h.fz
  obtain ⟨b, o, rfl, h0, hnl, _, _, hx0, _⟩ := h.cons
  have hx : (x != -1) = true := by simp; omega
  obtain ⟨hc1, hc2⟩ := h.cap
  rcases Nat.eq_or_lt_of_le (show 1 ≤ c by omega) with hc | hc
  · subst hc
    have hn : n = 1 := by omega
    subst hn
    have HC := Lib.hid (h.cut (k := 1) (Nat.le_refl _) (.inr ⟨rfl, rfl⟩) rfl rfl)
    clear h hc1 hc2 hnl h0
    go_enter Tryd.func38, Tryd.ntmps38
    go_wp2_with (go_at_call 36; (with_reducible refine HP.out.mono ?_); rintro e w1 ⟨rfl, rfl⟩; rw [show (x :: l).headD (-1) = x from rfl])
    go_ret
    exact ⟨rfl, ⟨_, _, _, HC.out⟩, (Off.refl _ _).setCell _ _⟩
  · have HC := Lib.hid (h.cut (k := 1) (A' := some ⟨b, o + 1, none⟩) (n' := l.length) (c' := c - 1) (show 1 ≤ n by omega) (.inl ⟨hc, by simp [Addr.add]⟩) (by omega) rfl)
    subst hnl
    have h2 : ((l.length : Int) + 1) ≤ (c : Int) := by omega
    clear h hc2
    go_enter Tryd.func38, Tryd.ntmps38
    go_wp2_with (go_at_call 36; (with_reducible refine HP.out.mono ?_); rintro e w1 ⟨rfl, rfl⟩; rw [show (x :: l).headD (-1) = x from rfl])
    go_ret
    exact ⟨rfl, ⟨_, _, _, HC.out⟩, (Off.refl _ _).setCell _ _⟩
/-- The next code point is read, if there is one. -/
theorem next_any {w : World} {g : Nat} {l : List Int} (h : Rd w g l) :
    Calls Tryd.prog 38 #[.pointer (some ⟨g, 0, none⟩)] w fun e w' => e = .returned (.int .i64 (l.headD (-1))) ∧ Rd w' g l.tail ∧ Off g w w' := by
  rcases l with _ | ⟨x, l⟩
  · exact (next_nil h).mono fun e w' ⟨he, hw⟩ => ⟨he, hw ▸ h, hw ▸ Off.refl _ _⟩
  · exact next_cons h

theorem take_no {w : World} {g : Nat} {l : List Int} {x : Int} (h : Rd w g l) (hx : l.headD (-1) ≠ x) :
    Calls Tryd.prog 21 #[.pointer (some ⟨g, 0, none⟩), .int .i64 x] w fun e w' => e = .returned (.bool false) ∧ w = w' := by
  have HP := Lib.hid (peek_any h)
  have hx : (l.headD (-1) != x) = true := by simpa using hx
  generalize l.headD (-1) = y at HP hx
  clear h
  go_enter Tryd.func21, Tryd.ntmps21
  go_wp2_with (go_at_call 36; (with_reducible refine HP.out.mono ?_); rintro e w1 ⟨rfl, rfl⟩)
  go_ret
  exact ⟨rfl, rfl⟩
theorem take_yes {w : World} {g : Nat} {l : List Int} {x : Int} (h : Rd w g (x :: l)) :
    Calls Tryd.prog 21 #[.pointer (some ⟨g, 0, none⟩), .int .i64 x] w fun e w' => e = .returned (.bool true) ∧ Rd w' g l ∧ Off g w w' := by
  have HP := Lib.hid (peek_any h)
  have HN := Lib.hid (next_cons h)
  have hx : (x != x) = false := by simp
  clear h
  go_enter Tryd.func21, Tryd.ntmps21
  go_wp2_with (first
    | (go_at_call 36; (with_reducible refine HP.out.mono ?_); rintro e w1 ⟨rfl, rfl⟩; rw [show (x :: l).headD (-1) = x from rfl])
    | (go_at_call 38; (with_reducible refine HN.out.mono ?_); rintro e w2 ⟨rfl, hr, ho⟩; have HO := Lib.hid (And.intro hr ho); clear hr ho))
  go_ret
  exact ⟨rfl, HO.out.1, HO.out.2⟩
end Go.Proofs.YtjpabeeokgfloaaDoor
/- The parser's small functions: sign, itself, one, char. -/
namespace Go.Proofs.YtjpabeeokgfloaaDoor
open Go Go.RowKit
set_option linter.unusedVariables false
set_option maxRecDepth 20000

theorem cell1_result {fn : Func} {p : Tmp} {ty : TypeId} (h : fn.results = #[.cell p ty]) (tmps : Array Value) (P : Program) (w : World) :
    (results fn tmps).run P w = ((asAddr (tmps.getD p undef)).run P w).andThen fun a w₁ => (loadVar ty a).run P w₁ := by
  simp only [results, h]
  simp [Sem.run_bind, Result.andThen]

theorem sign_yes (c : Int) (h : signB c = true) (w : World) : Calls Tryd.prog 64 #[.int .i64 c] w fun e w' => e = .returned (.bool true) ∧ w = w' := by
  unfold signB at h
  rw [decide_eq_true_iff] at h
  simp only [List.mem_cons, List.not_mem_nil, or_false] at h
  rcases h with rfl | rfl | rfl | rfl | rfl | rfl | rfl | rfl | rfl | rfl | rfl | rfl | rfl | rfl
  all_goals
    go_enter Tryd.func64, Tryd.ntmps64
    go_wp2
    go_ret
    exact ⟨rfl, rfl⟩
theorem sign_no (c : Int) (h : signB c = false) (w : World) : Calls Tryd.prog 64 #[.int .i64 c] w fun e w' => e = .returned (.bool false) ∧ w = w' := by
  unfold signB at h
  rw [decide_eq_false_iff_not] at h
  simp only [List.mem_cons, List.not_mem_nil, or_false, not_or] at h
  obtain ⟨h1, h2, h3, h4, h5, h6, h7, h8, h9, h10, h11, h12, h13, h14⟩ := h
  go_enter Tryd.func64, Tryd.ntmps64
  go_wp2
  go_ret
  exact ⟨rfl, rfl⟩
theorem sign_any (c : Int) (w : World) : Calls Tryd.prog 64 #[.int .i64 c] w fun e w' => e = .returned (.bool (signB c)) ∧ w = w' := by
  cases h : signB c with
  | true => exact sign_yes c h w
  | false => exact sign_no c h w

/-- What stands for one number behind a backslash. -/
def itselfL (c : Int) : Int × Bool := if c = 110 then (10, true) else if c = 114 then (13, true) else if c = 116 then (9, true) else (c, decide (c = 45) || signB c)
theorem itself_any (c : Int) (w : World) : Calls Tryd.prog 62 #[.int .i64 c] w fun e w' => e = .returned (.tuple #[.int .i64 (itselfL c).1, .bool (itselfL c).2]) ∧ w = w' := by
  have HS := Lib.hid fun w => sign_any c w
  unfold itselfL
  by_cases h1 : c = 110
  · subst h1
    go_enter Tryd.func62, Tryd.ntmps62
    go_wp2
    go_ret2
    exact ⟨rfl, rfl⟩
  by_cases h2 : c = 114
  · subst h2
    go_enter Tryd.func62, Tryd.ntmps62
    go_wp2
    go_ret2
    exact ⟨rfl, rfl⟩
  by_cases h3 : c = 116
  · subst h3
    go_enter Tryd.func62, Tryd.ntmps62
    go_wp2
    go_ret2
    exact ⟨rfl, rfl⟩
  rw [if_neg h1, if_neg h2, if_neg h3]
  by_cases h4 : c = 45
  · subst h4
    clear HS h1 h2 h3
    go_enter Tryd.func62, Tryd.ntmps62
    go_wp2
    go_ret2
    exact ⟨rfl, rfl⟩
  · have h5 : (c == 45) = false := by simpa using h4
    generalize hs : signB c = s at *
    rw [decide_eq_false h4, Bool.false_or]
    clear hs h4
    go_enter Tryd.func62, Tryd.ntmps62
    go_wp2_with (go_at_call 64; (with_reducible refine (HS.out _).mono ?_); rintro e w1 ⟨rfl, rfl⟩)
    go_ret2
    exact ⟨rfl, rfl⟩

theorem one_any (c : Int) (w : World) : Calls Tryd.prog 60 #[.int .i64 c] w fun e w' => e = .returned (.agg #[.int .i64 c, .int .i64 c]) ∧ Below w.heap.size w w' := by
  go_enter Tryd.func60, Tryd.ntmps60
  go_wp2
  refine bodyPost_ret (v := .agg #[.int .i64 c, .int .i64 c]) ?_ rfl ⟨rfl, by go_grown⟩
  rw [cell1_result rfl]; go_simp
theorem char_any (A : Option Addr) (n c : Nat) (w : World) : Calls Tryd.prog 57 #[.slice A n c] w fun e w' => e = .returned (.agg #[.int .i64 1, .slice A n c, .int .i64 0, .int .i64 0, .slice none 0 0]) ∧ Below w.heap.size w w' := by
  go_enter Tryd.func57, Tryd.ntmps57
  go_wp2
  refine bodyPost_ret (v := .agg #[.int .i64 1, .slice A n c, .int .i64 0, .int .i64 0, .slice none 0 0]) ?_ rfl ⟨rfl, by go_grown⟩
  rw [cell1_result rfl]; go_simp

/-! ### What escL makes of it -/
theorem escL_itself {c x : Int} (h : itselfL c = (x, true)) : escL c = some ([(x, x)], true) := by
  unfold itselfL at h
  unfold escL
  split at h
  · rename_i hc; subst hc; injection h with h _; subst h; rfl
  split at h
  · rename_i hc; subst hc; injection h with h _; subst h; rfl
  split at h
  · rename_i hc; subst hc; injection h with h _; subst h; rfl
  · injection h with h1 h2
    subst h1
    rw [Bool.or_eq_true, decide_eq_true_iff] at h2
    unfold signB at h2
    rw [decide_eq_true_iff] at h2
    simp only [List.mem_cons, List.not_mem_nil, or_false] at h2
    rw [if_neg (by omega), if_neg (by omega), if_neg (by omega), if_neg (by omega), if_neg (by omega), if_pos]
    simp only [signL, List.mem_cons, List.not_mem_nil, or_false]
    omega
/-- A letter that has a set. -/
def letterB (c : Int) : Bool := decide (c = 100 ∨ c = 119 ∨ c = 115 ∨ c = 68 ∨ c = 87 ∨ c = 83)
theorem escL_none {c x : Int} (h : itselfL c = (x, false)) (hl : letterB c = false) : escL c = none := by
  unfold letterB at hl
  rw [decide_eq_false_iff_not] at hl
  unfold itselfL at h
  unfold escL
  split at h
  · cases h
  split at h
  · cases h
  split at h
  · cases h
  · injection h with h1 h2
    subst h1
    rw [Bool.or_eq_false_iff, decide_eq_false_iff_not] at h2
    unfold signB at h2
    rw [decide_eq_false_iff_not] at h2
    simp only [List.mem_cons, List.not_mem_nil, or_false, not_or] at h2
    rw [if_neg (by omega), if_neg (by omega), if_neg (by omega), if_neg (by omega), if_neg (by omega), if_neg]
    simp only [signL, List.mem_cons, List.not_mem_nil, or_false]
    omega
theorem escL_letter {c : Int} (h : letterB c = true) : ∃ s, escL c = some (s, false) := by
  unfold letterB at h
  rw [decide_eq_true_iff] at h
  unfold escL
  by_cases h1 : c = 100 ∨ c = 119 ∨ c = 115
  · rw [if_pos h1]; exact ⟨_, rfl⟩
  · rw [if_neg h1, if_pos (by omega)]; exact ⟨_, rfl⟩
theorem itself_letter {c : Int} (h : letterB c = true) : itselfL c = (c, false) := by
  unfold letterB at h
  rw [decide_eq_true_iff] at h
  unfold itselfL
  rw [if_neg (by omega), if_neg (by omega), if_neg (by omega)]
  have : signB c = false := by
    unfold signB
    rw [decide_eq_false_iff_not]
    simp only [List.mem_cons, List.not_mem_nil, or_false, not_or]
    omega
  rw [this, decide_eq_false (by omega)]
  rfl
end Go.Proofs.YtjpabeeokgfloaaDoor
/- What came in: a list of ranges, each a struct of two whole numbers. -/
namespace Go.Proofs.YtjpabeeokgfloaaDoor
open Go Go.RowKit Go.ChangeShapes Go.WideShapes Go.ChangeAt
set_option linter.unusedVariables false
set_option maxRecDepth 20000

theorem int_cells1 : Tryd.prog.cellsOf 3 = 1 := by kernel_rfl
/-- A list of ranges that came in. -/
def InG (w : World) (A : Option Addr) (n c : Nat) (s : List (Int × Int)) : Prop :=
  RowG w A n s ∧ n ≤ c ∧ c ≤ maxLen ∧ (A = none → n = 0 ∧ c = 0) ∧ ∀ p ∈ s, (Lit.int .i64 p.1).wf = true ∧ (Lit.int .i64 p.2).wf = true

section
variable {H : Type} {enc : TypeId × Value → H} {W : World} {base : Nat} {held : Bool}
/-- The list of ranges, opened. -/
theorem rngs_of {a : Option Addr} {len cap fuel : Nat} {x : DataW H × List MemPlace} (hf : DataW.trod enc Tryd.prog W base (fun _ => true) held fuel 23 [.slice a len cap] = some x) : ∃ xs, InG W a len cap xs := by
  rcases Go.Deep.open_slice Tryd.underlying23 hf with ⟨hcs, _⟩ | ⟨ad, l, c, m, n, D, Pl, hcs, _, hl, hm, hmm, _, hel⟩
  · simp at hcs
    obtain ⟨rfl, rfl, rfl⟩ := hcs
    exact ⟨[], ⟨rfl, fun h => absurd h (by omega)⟩, Nat.le_refl _, Nat.zero_le _, fun _ => ⟨rfl, rfl⟩, by simp⟩
  · simp at hcs
    obtain ⟨rfl, rfl, rfl⟩ := hcs
    simp only [if_true] at hmm
    subst hmm
    rw [rng_cells] at hel
    have each : ∀ i, ∃ y : Int × Int, i < m → W.cell? (ad.add (i * 2)) = some (.int .i64 y.1) ∧ W.cell? ((ad.add (i * 2)).add 1) = some (.int .i64 y.2) ∧ (Lit.int .i64 y.1).wf = true ∧ (Lit.int .i64 y.2).wf = true := by
      intro i
      by_cases hi : i < m
      · obtain ⟨cs', hc, ht⟩ := hel i hi
        obtain ⟨_, hcl, hat⟩ := World.cells?_some hc
        obtain ⟨ys, n', _, _, _, hyl, hfl⟩ := DataW.trod_struct Tryd.underlying62 ht
        match cs', hcl with
        | [c0, c1], _ =>
          match ys, hyl with
          | [y0, y1], _ =>
            have q0 : DataW.trod enc Tryd.prog W base (fun _ => true) held n' 3 [c0] = some y0 := by
              have h := hfl 0 _ rfl
              change DataW.trod enc Tryd.prog W base (fun _ => true) held n' 3 (List.take (Tryd.prog.cellsOf 3) [c0, c1]) = some y0 at h
              rw [int_cells1] at h
              exact h
            have q1 : DataW.trod enc Tryd.prog W base (fun _ => true) held n' 3 [c1] = some y1 := by
              have h := hfl 1 _ rfl
              change DataW.trod enc Tryd.prog W base (fun _ => true) held n' 3 (List.take (Tryd.prog.cellsOf 3) [c1]) = some y1 at h
              rw [int_cells1] at h
              exact h
            obtain ⟨k, e0, _, z0⟩ := DataW.trod_int Tryd.underlying3 q0
            obtain ⟨i1, e1, _, z1⟩ := DataW.trod_int Tryd.underlying3 q1
            injection e0 with e0
            injection e1 with e1
            have a0 := hat 0 (by omega)
            have a1 := hat 1 (by omega)
            have hz : (ad.add (i * 2)).add 0 = ad.add (i * 2) := by simp [Addr.add]
            rw [hz] at a0
            refine ⟨(k, i1), fun _ => ⟨?_, ?_, z0, z1⟩⟩
            · rw [a0, e0]; rfl
            · rw [a1, e1]; rfl
      · exact ⟨(0, 0), fun h => absurd h hi⟩
    obtain ⟨f, hfn⟩ := Classical.axiomOfChoice each
    refine ⟨(List.range len).map f, ⟨by simp, fun hn => ?_⟩, hl, hm, (fun h => by cases h), fun p hp => ?_⟩
    · obtain ⟨b, off, spot⟩ := ad
      obtain ⟨h0, _⟩ := hfn 0 (by omega)
      have hspot : spot = none := by simpa [Addr.add] using World.cell?_spot h0
      subst hspot
      refine ⟨b, off, rfl, World.block_lt_of_cell? W (⟨b, off, none⟩ : Addr) (by simpa [Addr.add] using h0), fun j hj => ?_⟩
      obtain ⟨g0, g1, _⟩ := hfn j (by omega)
      have hadd : ∀ (o i : Nat), (⟨b, o, none⟩ : Addr).add i = ⟨b, o + i, none⟩ := fun o i => by unfold Addr.add; split <;> simp_all
      rw [hadd] at g0 g1
      rw [hadd] at g1
      have e : ((List.range len).map f).getD j (0, 0) = f j := by simp [List.getD, hj]
      rw [e]
      exact ⟨g0, g1⟩
    · obtain ⟨i, hi, rfl⟩ := List.mem_map.1 hp
      have := hfn i (by have := List.mem_range.1 hi; omega)
      exact ⟨this.2.2.1, this.2.2.2⟩
end
end Go.Proofs.YtjpabeeokgfloaaDoor
/- Sets as answers: what is new, what came in; the letters. -/
namespace Go.Proofs.YtjpabeeokgfloaaDoor
open Go Go.RowKit
set_option linter.unusedVariables false
set_option maxRecDepth 20000

/-- An answer that is new: a row of ranges. -/
def OutG (W w' : World) (V : Value) (t : List (Int × Int)) : Prop := w'.ownsRow W.heap.size 62 2 V t.length (cellsG t) ∧ Below W.heap.size W w'
def inR (r : Int) : Bool := decide (0 ≤ r ∧ r ≤ 1114111)

theorem CanonF.wf : ∀ {s : List (Int × Int)} {lo : Int}, 0 ≤ lo → CanonF lo s → ∀ p ∈ s, 0 ≤ p.1 ∧ p.1 ≤ p.2 ∧ p.2 ≤ 1114111
  | [], _, _, _, _, hp => by cases hp
  | q :: s, lo, h0, ⟨h1, h2, h3, h4⟩, p, hp => by
    rcases List.mem_cons.1 hp with rfl | hp
    · exact ⟨by omega, h2, h3⟩
    · exact CanonF.wf (by omega) h4 p hp
theorem CanonF.len : ∀ {s : List (Int × Int)} {lo : Int}, 0 ≤ lo → CanonF lo s → 2 * (s.length : Int) + lo ≤ 1114113 + lo % 1 ∨ s = []
  | [], _, _, _ => .inr rfl
  | q :: s, lo, h0, ⟨h1, h2, h3, h4⟩ => by
    left
    rcases CanonF.len (by omega) h4 with h | h
    · rw [List.length_cons]; omega
    · rw [h]; simp; omega
theorem Canon.small {s : List (Int × Int)} (h : Canon s) : s.length ≤ 600000 := by
  rcases CanonF.len (Int.le_refl _) h with h1 | h1
  · omega
  · rw [h1]; simp
theorem wf_small {x : Int} (h : -1000000000 ≤ x ∧ x ≤ 1000000000) : (Lit.int .i64 x).wf = true := by
  simp [Lit.wf, IntKind.min, IntKind.max, IntKind.signed, IntKind.bits]
  omega
theorem Canon.wf {s : List (Int × Int)} (h : Canon s) : ∀ p ∈ s, (Lit.int .i64 p.1).wf = true ∧ (Lit.int .i64 p.2).wf = true := fun p hp => by
  have := CanonF.wf (Int.le_refl _) h p hp
  exact ⟨wf_small (by omega), wf_small (by omega)⟩
theorem inG_of_own {w : World} {B : Nat} {V : Value} {s : List (Int × Int)} (h : w.ownsRow B 62 2 V s.length (cellsG s)) (hw : ∀ p ∈ s, (Lit.int .i64 p.1).wf = true ∧ (Lit.int .i64 p.2).wf = true) : ∃ A c, V = .slice A s.length c ∧ InG w A s.length c s := by
  obtain ⟨A, c, rfl, h1, h2, h3⟩ := rowG_of_own h rfl
  refine ⟨A, c, rfl, h1, h2, h3, fun hA => ?_, hw⟩
  rcases h.2 with ⟨e, h0⟩ | ⟨g, cap, cur, e, _⟩
  · injection e with e1 e2 e3
    exact ⟨h0, e3⟩
  · injection e with e1 _ _
    rw [hA] at e1
    cases e1
section
variable {w w' : World} {A : Option Addr} {n c : Nat} {s : List (Int × Int)}
theorem InG.below (h : InG w A n c s) (hb : Below w.heap.size w w') : InG w' A n c s := ⟨h.1.below hb (Nat.le_refl _), h.2⟩
theorem InG.row (h : InG w A n c s) : RowG w A n s := h.1
theorem InG.drewN (h : InG w A n c s) (q : Nat) : InG (w.drewN q) A n c s := ⟨h.1.drewN q, h.2⟩
end
theorem canon_out {W w' : World} {V : Value} {t : List (Int × Int)} (h : OutG W w' V t) (hc : Canon t) : ∃ A c, V = .slice A t.length c ∧ InG w' A t.length c t ∧ t.length ≤ 600000 := by
  obtain ⟨A, c, h1, h2⟩ := inG_of_own h.1 hc.wf
  exact ⟨A, c, h1, h2, hc.small⟩

def digitL (r : Int) : Bool := decide (48 ≤ r) && decide (r ≤ 57)
def wordL (r : Int) : Bool := digitL r || (decide (65 ≤ r) && decide (r ≤ 90)) || (decide (97 ≤ r) && decide (r ≤ 122)) || r == 95
def spaceL (r : Int) : Bool := r == 32 || (decide (9 ≤ r) && decide (r ≤ 13))
def namedL (c r : Int) : Bool × Bool :=
  if c = 100 then (digitL r, true) else if c = 119 then (wordL r, true) else if c = 115 then (spaceL r, true)
  else if c = 68 then (!digitL r, true) else if c = 87 then (!wordL r, true) else if c = 83 then (!spaceL r, true) else (false, false)
end Go.Proofs.YtjpabeeokgfloaaDoor
