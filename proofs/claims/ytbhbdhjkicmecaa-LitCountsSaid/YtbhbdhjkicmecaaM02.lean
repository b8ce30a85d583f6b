/- Code points gone through token by token. -/
import Derived.Test.YtbhbdhjkicmecaaM01
import Derived.Laws.BytesArg
import Derived.IntWalk
import Derived.Laws.BitsLemmas
import Derived.Test.YtbhbdhjkicmecaaRows
import Derived.WalkKit
import Derived.ProofKit
import Derived.OpenShut
import Derived.Handy
import Derived.Lib.Hide
namespace Go.Proofs.Ytbhbdhjkicmecaa
open Go Go.RowKit
set_option linter.unusedVariables false

/-! ### Each token takes code points away -/
theorem ptL_lt {l : List Int} {s : List (Int × Int)} {is : Bool} {r : List Int} (h : ptL l = some (s, is, r)) : r.length < l.length := by
  rcases l with _ | ⟨x, l⟩
  · cases h
  unfold ptL at h
  dsimp only at h
  split at h
  · cases h
  split at h
  · rcases l with _ | ⟨e, l⟩
    · cases h
    · dsimp only at h
      obtain ⟨p, _, h⟩ := Option.map_eq_some_iff.1 h
      injection h with _ h; injection h with _ h; subst h
      simp only [List.length_cons]; omega
  · injection h with h; injection h with _ h; injection h with _ h; subst h
    simp
theorem partL_lt {l : List Int} {s : List (Int × Int)} {r : List Int} (h : partL l = some (s, r)) : r.length < l.length := by
  unfold partL at h
  split at h
  · cases h
  · rename_i s1 is l1 h1
    have q1 := ptL_lt h1
    split at h
    · rename_i l2
      split at h
      · split at h
        · rename_i t l3 h3
          have q3 := ptL_lt h3
          split at h
          · cases h
          · injection h with h; injection h with _ h; subst h
            simp only [List.length_cons] at q1; omega
        · cases h
      · injection h with h; injection h with _ h; subst h; exact q1
    · injection h with h; injection h with _ h; subst h; exact q1
theorem partsL_lt : ∀ (f : Nat) (l : List Int) (xs : List (Int × Int)) (more : Bool) (s : List (Int × Int)) (r : List Int), partsL f l xs more = some (s, r) → r.length < l.length
  | 0, _, _, _, _, _, h => by cases h
  | f + 1, l, xs, more, s, r, h => by
    rw [partsL.eq_def] at h
    dsimp only at h
    split at h
    · injection h with h; injection h with _ h; subst h; simp
    · split at h
      · cases h
      · rename_i s1 l1 h1
        have := partL_lt h1
        have := partsL_lt f _ _ _ _ _ h
        omega
theorem classL_lt {l : List Int} {s : List (Int × Int)} {r : List Int} (h : classL l = some (s, r)) : r.length < l.length := by
  unfold classL at h
  split at h
  · obtain ⟨⟨a, b⟩, h1, h⟩ := Option.map_eq_some_iff.1 h
    injection h with _ h; subst h
    have := partsL_lt _ _ _ _ _ _ h1
    simp only [List.length_cons]; omega
  · obtain ⟨⟨a, b⟩, h1, h⟩ := Option.map_eq_some_iff.1 h
    injection h with _ h; subst h
    exact partsL_lt _ _ _ _ _ _ h1
theorem numL_lt {l : List Int} {a : Int} {r : List Int} (h : numL l = some (a, r)) : r.length < l.length := by
  unfold numL at h
  split at h
  · split at h
    · split at h
      · split at h
        · cases h
        · injection h with h; injection h with _ h; subst h; simp only [List.length_cons]; omega
      · injection h with h; injection h with _ h; subst h; simp
    · cases h
  · split at h
    · injection h with h; injection h with _ h; subst h; simp
    · cases h
  · cases h
theorem braceL_lt {l : List Int} {t : TokL} {r : List Int} (h : braceL l = some (t, r)) : r.length < l.length := by
  unfold braceL at h
  split at h
  · rename_i l' h1
    have := numL_lt h1
    injection h with h; injection h with _ h; subst h; simp only [List.length_cons] at this; omega
  · rename_i l' h1
    have := numL_lt h1
    injection h with h; injection h with _ h; subst h; simp only [List.length_cons] at this; omega
  · rename_i l' _ h1
    have := numL_lt h1
    split at h
    · rename_i l'' h2
      have := numL_lt h2
      split at h
      · cases h
      · injection h with h; injection h with _ h; subst h; simp only [List.length_cons] at *; omega
    · cases h
  · cases h
theorem tokL_lt {l : List Int} {t : TokL} {r : List Int} (h : tokL l = some (t, r)) : r.length < l.length := by
  rcases l with _ | ⟨x, l⟩
  · cases h
  unfold tokL at h
  dsimp only at h
  rw [List.length_cons]
  split at h
  · injection h with h; injection h with _ h; subst h; omega
  split at h
  · injection h with h; injection h with _ h; subst h; omega
  split at h
  · injection h with h; injection h with _ h; subst h; omega
  split at h
  · injection h with h; injection h with _ h; subst h; omega
  split at h
  · have := braceL_lt h; omega
  split at h
  · injection h with h; injection h with _ h; subst h; omega
  split at h
  · obtain ⟨⟨a, b⟩, h1, h⟩ := Option.map_eq_some_iff.1 h
    injection h with _ h; subst h
    have := classL_lt h1; simp only; omega
  split at h
  · rcases l with _ | ⟨e, l⟩
    · cases h
    · obtain ⟨p, _, h⟩ := Option.map_eq_some_iff.1 h
      injection h with _ h; subst h; simp only [List.length_cons]; omega
  split at h
  · cases h
  · injection h with h; injection h with _ h; subst h; omega

theorem toksL_fuel : ∀ (f : Nat) (l : List Int), l.length ≤ f → toksL f l = toksL l.length l
  | 0, [], _ => rfl
  | 0, _ :: _, h => by simp at h
  | f + 1, [], _ => rfl
  | f + 1, r :: l, h => by
    rw [List.length_cons, toksL, toksL]
    rcases ht : tokL (r :: l) with _ | ⟨t, l'⟩
    · rfl
    · have := tokL_lt ht
      rw [List.length_cons] at this h
      dsimp only
      rw [toksL_fuel f l' (by omega), toksL_fuel l.length l' (by omega)]

/-! ### The whole, code point by code point -/
def runL (l : List Int) (st : List (Wood × Wood)) (a p : Wood) (lo : Bool) : Option Wood := (toksL l.length l).bind fun ts => runT 0 ts st a p lo
theorem treeL_run (l : List Int) : treeL l = runL l [] .nil .nil false := rfl
section
variable {l l' : List Int} {t : TokL} {st : List (Wood × Wood)} {a p : Wood} {lo : Bool}
theorem runL_nil : runL [] st a p lo = if st = [] then some (finN a p) else none := by
  rcases st with _ | ⟨x, st⟩ <;> simp [runL, toksL, runT]
theorem toksL_none {r : Int} (h : tokL (r :: l) = none) : toksL (r :: l).length (r :: l) = none := by rw [List.length_cons, toksL, h]
theorem toksL_some {r : Int} (h : tokL (r :: l) = some (t, l')) : toksL (r :: l).length (r :: l) = (toksL l'.length l').map fun ts => t :: ts := by
  have := tokL_lt h
  rw [List.length_cons] at this
  rw [List.length_cons, toksL, h]
  dsimp only
  rw [toksL_fuel _ _ (by omega)]
theorem runL_none (h : tokL l = none) (hl : l ≠ []) : runL l st a p lo = none := by
  rcases l with _ | ⟨r, l⟩
  · exact absurd rfl hl
  · unfold runL; rw [toksL_none h]; rfl
theorem runL_some (h : tokL l = some (t, l')) : runL l st a p lo = (toksL l'.length l').bind fun ts => runT 0 (t :: ts) st a p lo := by
  rcases l with _ | ⟨r, l⟩
  · cases h
  · unfold runL
    rw [toksL_some h]
    rcases toksL l'.length l' with _ | ts <;> rfl
theorem runL_char (h : tokL l = some (t, l')) (hk : t.kind = 0) : runL l st a p lo = runL l' st a (p.app (leaf 1 t.set)) true := by
  rw [runL_some h]; simp only [run_char hk]; rfl
theorem runL_count (h : tokL l = some (t, l')) (hk : t.kind = 2) : runL l st a p lo = if lo = true then runL l' st a (repLast t.mn t.mx p) false else none := by
  rw [runL_some h]; simp only [run_count hk]
  cases lo with
  | true => rfl
  | false => rcases toksL l'.length l' with _ | ts <;> rfl
theorem runL_bar (h : tokL l = some (t, l')) (hk : t.kind = 1) (hr : t.r = 124) : runL l st a p lo = runL l' st (a.app (oneN 4 p)) .nil false := by
  rw [runL_some h]; simp only [run_bar hk hr]; rfl
theorem runL_begin (h : tokL l = some (t, l')) (hk : t.kind = 1) (hr : t.r = 94) : runL l st a p lo = runL l' st a (p.app (leaf 2 [])) false := by
  rw [runL_some h]; simp only [run_begin hk hr]; rfl
theorem runL_end (h : tokL l = some (t, l')) (hk : t.kind = 1) (hr : t.r = 36) : runL l st a p lo = runL l' st a (p.app (leaf 3 [])) false := by
  rw [runL_some h]; simp only [run_end hk hr]; rfl
theorem runL_paren (h : tokL l = some (t, l')) (hk : t.kind = 1) (hr : t.r = 40) : runL l st a p lo = if st.length < 10 then runL l' ((a, p) :: st) .nil .nil false else none := by
  rw [runL_some h]; simp only [run_paren hk hr, Nat.zero_add]
  by_cases hd : st.length < 10
  · simp only [if_pos hd]; rfl
  · simp only [if_neg hd]; rcases toksL l'.length l' with _ | ts <;> rfl
theorem runL_shut (h : tokL l = some (t, l')) (hk : t.kind = 1) (hr : t.r = 41) : runL l st a p lo = match st with
    | [] => none
    | (a', p') :: st' => runL l' st' a' (p'.app (finN a p)) true := by
  rw [runL_some h]
  rcases st with _ | ⟨⟨a', p'⟩, st⟩
  · simp only [run_shut_nil hk hr]; rcases toksL l'.length l' with _ | ts <;> rfl
  · simp only [run_shut _ _ hk hr]; rfl
end
/-! ### Signs -/
theorem tok_bar (l : List Int) : tokL (124 :: l) = some (tokS 124, l) := rfl
theorem tok_open (l : List Int) : tokL (40 :: l) = some (tokS 40, l) := rfl
theorem tok_shut (l : List Int) : tokL (41 :: l) = some (tokS 41, l) := rfl
theorem tok_begin (l : List Int) : tokL (94 :: l) = some (tokS 94, l) := rfl
theorem tok_end (l : List Int) : tokL (36 :: l) = some (tokS 36, l) := rfl
theorem tok_star (l : List Int) : tokL (42 :: l) = some (tokN 0 (-1), l) := rfl
theorem tok_plus (l : List Int) : tokL (43 :: l) = some (tokN 1 (-1), l) := rfl
theorem tok_quest (l : List Int) : tokL (63 :: l) = some (tokN 0 1, l) := rfl
theorem tok_brace (l : List Int) : tokL (123 :: l) = braceL l := rfl
theorem tok_dot (l : List Int) : tokL (46 :: l) = some (tokC [(0, 9), (11, 1114111)], l) := rfl
theorem tok_class (l : List Int) : tokL (91 :: l) = (classL l).map fun p => (tokC p.1, p.2) := rfl
theorem tok_back (e : Int) (l : List Int) : tokL (92 :: e :: l) = (escL e).map fun p => (tokC p.1, l) := rfl
theorem tok_shutb (l : List Int) : tokL (93 :: l) = none := rfl
theorem tok_shutc (l : List Int) : tokL (125 :: l) = none := rfl
/-- A sign, but for the hyphen. -/
def signB (r : Int) : Bool := decide (r ∈ [46, 94, 36, 124, 40, 41, 91, 93, 123, 125, 42, 43, 63, 92])
theorem tok_plain {r : Int} (l : List Int) (h : signB r = false) : tokL (r :: l) = some (tokC [(r, r)], l) := by
  unfold signB at h
  rw [decide_eq_false_iff_not] at h
  simp only [List.mem_cons, List.not_mem_nil, or_false, not_or] at h
  unfold tokL
  dsimp only
  rw [if_neg (by omega), if_neg (by omega), if_neg (by omega), if_neg (by omega), if_neg (by omega), if_neg (by omega), if_neg (by omega), if_neg (by omega), if_neg (by omega)]
/-- The tokens that are no counts are told by their first sign. -/
def countB (r : Int) : Bool := decide (r = 42 ∨ r = 43 ∨ r = 63 ∨ r = 123)
theorem braceL_kind {l l' : List Int} {t : TokL} (h : braceL l = some (t, l')) : t.kind = 2 := by
  unfold braceL at h
  split at h
  · injection h with h; injection h with h _; subst h; rfl
  · injection h with h; injection h with h _; subst h; rfl
  · split at h
    · split at h
      · cases h
      · injection h with h; injection h with h _; subst h; rfl
    · cases h
  · cases h
theorem tok_kind {r : Int} {l l' : List Int} {t : TokL} (h : tokL (r :: l) = some (t, l')) : t.kind = 2 ↔ countB r = true := by
  unfold countB
  rw [decide_eq_true_iff]
  unfold tokL at h
  dsimp only at h
  split at h
  · injection h with h; injection h with h _; subst h; simp only [tokS]; omega
  split at h
  · injection h with h; injection h with h _; subst h; exact ⟨fun _ => by omega, fun _ => rfl⟩
  split at h
  · injection h with h; injection h with h _; subst h; exact ⟨fun _ => by omega, fun _ => rfl⟩
  split at h
  · injection h with h; injection h with h _; subst h; exact ⟨fun _ => by omega, fun _ => rfl⟩
  split at h
  · have := braceL_kind h; omega
  split at h
  · injection h with h; injection h with h _; subst h; simp only [tokC]; omega
  split at h
  · obtain ⟨⟨a, b⟩, h1, h⟩ := Option.map_eq_some_iff.1 h
    injection h with h _; subst h; simp only [tokC]; omega
  split at h
  · rcases l with _ | ⟨e, l⟩
    · cases h
    · obtain ⟨p, _, h⟩ := Option.map_eq_some_iff.1 h
      injection h with h _; subst h; simp only [tokC]; omega
  split at h
  · cases h
  · injection h with h; injection h with h _; subst h; simp only [tokC]; omega
theorem runT_loose {D : Nat} {t : TokL} {ts : List TokL} {st : List (Wood × Wood)} {a p : Wood} {lo lo' : Bool} (h : t.kind ≠ 2) : runT D (t :: ts) st a p lo = runT D (t :: ts) st a p lo' := by
  cases st <;> simp [runT, h]
/-- Where no count stands it's all the same whether one may. -/
theorem runL_loose {l : List Int} {st : List (Wood × Wood)} {a p : Wood} {lo lo' : Bool} (h : countB (l.headD (-1)) = false) : runL l st a p lo = runL l st a p lo' := by
  rcases l with _ | ⟨r, l⟩
  · rw [runL_nil, runL_nil]
  · rcases ht : tokL (r :: l) with _ | ⟨t, l'⟩
    · rw [runL_none ht (by simp), runL_none ht (by simp)]
    · have hk : t.kind ≠ 2 := fun e => by
        have := (tok_kind ht).1 e
        rw [List.headD_cons] at h
        rw [h] at this
        cases this
      rw [runL_some ht, runL_some ht]
      simp only [runT_loose (lo := lo) (lo' := lo') hk]
/-- Where a count stands that may not. -/
theorem runL_count_no {l : List Int} {st : List (Wood × Wood)} {a p : Wood} (h : countB (l.headD (-1)) = true) : runL l st a p false = none := by
  rcases l with _ | ⟨r, l⟩
  · exact absurd h (by decide)
  · rcases ht : tokL (r :: l) with _ | ⟨t, l'⟩
    · rw [runL_none ht (by simp)]
    · rw [runL_count ht ((tok_kind ht).2 h)]
      rfl
theorem repLast_app (mn mx : Int) (n : Wood) (hn : n.len = 1) : ∀ p : Wood, repLast mn mx (p.app n) = p.app (.cons 6 [] mn mx n .nil)
  | .nil => by
    obtain ⟨o, s, x, z, k, rfl⟩ := Wood.one_of_len hn
    rfl
  | .cons o s x z k .nil => by
    obtain ⟨o', s', x', z', k', rfl⟩ := Wood.one_of_len hn
    rfl
  | .cons o s x z k (.cons o2 s2 x2 z2 k2 y) => by
    have ih := repLast_app mn mx n hn (.cons o2 s2 x2 z2 k2 y)
    simp only [Wood.app, repLast] at ih ⊢
    rw [ih]
/-- What is behind alternatives that are through. -/
def shutL (l : List Int) (st : List (Wood × Wood)) (n : Wood) : Option Wood :=
  match l, st with
  | [], [] => some n
  | 41 :: l', (a, p) :: st' => runL l' st' a (p.app n) true
  | _, _ => none
theorem shut_end {l : List Int} {st : List (Wood × Wood)} {a p : Wood} {lo : Bool} (h : l = [] ∨ ∃ l', l = 41 :: l') : runL l st a p lo = shutL l st (finN a p) := by
  rcases h with rfl | ⟨l', rfl⟩
  · rw [runL_nil]
    rcases st with _ | ⟨⟨x, y⟩, st⟩ <;> rfl
  · rw [runL_shut (tok_shut l') rfl rfl]
    rcases st with _ | ⟨⟨x, y⟩, st⟩ <;> rfl
end Go.Proofs.Ytbhbdhjkicmecaa
/- A token is one of the kinds. -/
namespace Go.Proofs.Ytbhbdhjkicmecaa
open Go Go.RowKit
set_option linter.unusedVariables false

theorem tokL_ok {l r : List Int} {t : TokL} (h : tokL l = some (t, r)) : TokOk t := by
  rcases l with _ | ⟨x, l⟩
  · cases h
  unfold tokL at h
  try dsimp only at h
  unfold TokOk
  split at h
  · rename_i hx
    injection h with h; injection h with h _; subst h
    refine .inr (.inr ⟨rfl, ?_⟩)
    simp only [tokS]; omega
  split at h
  · injection h with h; injection h with h _; subst h; exact .inr (.inl rfl)
  split at h
  · injection h with h; injection h with h _; subst h; exact .inr (.inl rfl)
  split at h
  · injection h with h; injection h with h _; subst h; exact .inr (.inl rfl)
  split at h
  · exact .inr (.inl (braceL_kind h))
  split at h
  · injection h with h; injection h with h _; subst h; exact .inl rfl
  split at h
  · obtain ⟨⟨a, b⟩, h1, h⟩ := Option.map_eq_some_iff.1 h
    injection h with h _; subst h; exact .inl rfl
  split at h
  · rcases l with _ | ⟨e, l⟩
    · cases h
    · obtain ⟨p, _, h⟩ := Option.map_eq_some_iff.1 h
      injection h with h _; subst h; exact .inl rfl
  split at h
  · cases h
  · injection h with h; injection h with h _; subst h; exact .inl rfl
end Go.Proofs.Ytbhbdhjkicmecaa
/- Plain words on numbers for package code: which numbers are code points, how many octets they have, and which. -/
namespace Go.Proofs.Ytbhbdhjkicmecaa
open Go

/-- Is r a code point? -/
def isI (r : Int) : Bool := decide (0 ≤ r) && decide (r ≤ 1114111) && !(decide (55296 ≤ r) && decide (r ≤ 57343))
/-- How many octets. -/
def szI (r : Int) : Int := if isI r = false then 0 else if r < 128 then 1 else if r < 2048 then 2 else if r < 65536 then 3 else 4
/-- r, or 65533. -/
def sndI (r : Int) : Int := if isI r = true then r else 65533

theorem isI_true {r : Int} : isI r = true ↔ 0 ≤ r ∧ r ≤ 1114111 ∧ ¬ (55296 ≤ r ∧ r ≤ 57343) := by
  unfold isI; simp; omega
theorem isI_false {r : Int} : isI r = false ↔ ¬ (0 ≤ r ∧ r ≤ 1114111 ∧ ¬ (55296 ≤ r ∧ r ≤ 57343)) := by
  rw [← isI_true]; simp
theorem sndI_is (r : Int) : isI (sndI r) = true := by
  unfold sndI; split
  · assumption
  · decide

theorem wraps_i64 (n : Int) (h₀ : 0 ≤ n) (h₁ : n < 2 ^ 62) : IntKind.i64.wrap n = n := by rw [IntKind.wrap_i64]; omega
theorem bits_or_comm (k : IntKind) (a b : Int) : bits .or k a b = bits .or k b a := by
  simp only [bits, BitVec.or_comm]
theorem i64_and63 {x : Int} (h₀ : 0 ≤ x) (h₁ : x < 4611686018427387904) : bits .and .i64 x 63 = x % 64 := bits_mask .i64 62 (by decide) wraps_i64 6 (by decide) x h₀ h₁
theorem i64_and1023 {x : Int} (h₀ : 0 ≤ x) (h₁ : x < 4611686018427387904) : bits .and .i64 x 1023 = x % 1024 := bits_mask .i64 62 (by decide) wraps_i64 10 (by decide) x h₀ h₁
theorem i64_or128 {y : Int} (h₀ : 0 ≤ y) (h₁ : y < 64) : bits .or .i64 y 128 = 128 + y := by
  rw [bits_or_comm]
  exact bits_join .i64 62 (by decide) wraps_i64 6 128 y (by decide) (by decide) (by decide) h₀ h₁ (by omega)
theorem i64_or6 {x y : Int} (hx₀ : 0 ≤ x) (hx : x % 64 = 0) (hx₁ : x < 4611686018427387904) (h₀ : 0 ≤ y) (h₁ : y < 64) : bits .or .i64 x y = x + y :=
  bits_join .i64 62 (by decide) wraps_i64 6 x y hx₀ hx hx₁ h₀ h₁ (by omega)
theorem i64_or10 {x y : Int} (hx₀ : 0 ≤ x) (hx : x % 1024 = 0) (hx₁ : x < 4611686018427387904) (h₀ : 0 ≤ y) (h₁ : y < 1024) : bits .or .i64 x y = x + y :=
  bits_join .i64 62 (by decide) wraps_i64 10 x y hx₀ hx hx₁ h₀ h₁ (by omega)
theorem i64_or12 {x y : Int} (hx₀ : 0 ≤ x) (hx : x % 4096 = 0) (hx₁ : x < 4611686018427387904) (h₀ : 0 ≤ y) (h₁ : y < 4096) : bits .or .i64 x y = x + y :=
  bits_join .i64 62 (by decide) wraps_i64 12 x y hx₀ hx hx₁ h₀ h₁ (by omega)
theorem i64_or18 {x y : Int} (hx₀ : 0 ≤ x) (hx : x % 262144 = 0) (hx₁ : x < 4611686018427387904) (h₀ : 0 ≤ y) (h₁ : y < 262144) : bits .or .i64 x y = x + y :=
  bits_join .i64 62 (by decide) wraps_i64 18 x y hx₀ hx hx₁ h₀ h₁ (by omega)

/-- The octets of r, a number that is a code point. -/
def putI (r : Int) : List Int :=
  if r < 128 then [r] else
  if r < 2048 then [192 + r / 64, 128 + r % 64] else
  if r < 65536 then [224 + r / 4096, 128 + r / 64 % 64, 128 + r % 64] else
  [240 + r / 262144, 128 + r / 4096 % 64, 128 + r / 64 % 64, 128 + r % 64]
end Go.Proofs.Ytbhbdhjkicmecaa
/- Contracts of the small functions of package code. -/
namespace Go.Proofs.Ytbhbdhjkicmecaa
open Go Go.RowKit

theorem is_any (r : Int) (w : World) : Calls Try.prog 27 #[.int .i64 r] w fun e w' => e = .returned (.bool (isI r)) ∧ w = w' := by
  by_cases h1 : 0 ≤ r <;> by_cases h2 : r ≤ 1114111 <;> by_cases h3 : 55296 ≤ r <;> by_cases h4 : r ≤ 57343
  all_goals
    go_enter Try.func27, Try.ntmps27
    go_wp2
    go_ret
    exact ⟨by first | (simp [isI, h1, h2, h3, h4]; done) | (simp [isI]; omega), rfl⟩

theorem refIs_any (r : Int) (w : World) : Calls Try.prog 35 #[.int .i64 r] w fun e w' => e = .returned (.bool (isI r)) ∧ w = w' := by
  by_cases h1 : 0 ≤ r <;> by_cases h2 : r ≤ 1114111 <;> by_cases h3 : 55296 ≤ r <;> by_cases h4 : r ≤ 57343
  all_goals
    go_enter Try.func35, Try.ntmps35
    go_wp2
    go_ret
    exact ⟨by first | (simp [isI, h1, h2, h3, h4]; done) | (simp [isI]; omega), rfl⟩

theorem isI_cases {r : Int} (h : isI r = true) : 0 ≤ r ∧ r ≤ 1114111 := by rw [isI_true] at h; omega

theorem size_no (r : Int) (w : World) (h : isI r = false) : Calls Try.prog 44 #[.int .i64 r] w fun e w' => e = .returned (.int .i64 0) ∧ w = w' := by
  have hc := is_any r w
  rw [h] at hc
  go_enter Try.func44, Try.ntmps44
  go_wp2_with (go_at_call 27; refine hc.mono ?_; rintro e w' ⟨rfl, rfl⟩)
  go_ret
  exact ⟨rfl, rfl⟩

theorem size_any (r : Int) (w : World) : Calls Try.prog 44 #[.int .i64 r] w fun e w' => e = .returned (.int .i64 (szI r)) ∧ w = w' := by
  rcases hb : isI r with _ | _
  · refine (size_no r w hb).mono ?_
    rintro e w' ⟨rfl, rfl⟩
    simp [szI, hb]
  · have hc := is_any r w
    rw [hb] at hc
    have HB := Lib.hid hb; clear hb
    rcases (show r < 128 ∨ (128 ≤ r ∧ r < 2048) ∨ (2048 ≤ r ∧ r < 65536) ∨ 65536 ≤ r by omega) with h1 | ⟨h1, h2⟩ | ⟨h1, h2⟩ | h1
    all_goals
      go_enter Try.func44, Try.ntmps44
      go_wp2_with (go_at_call 27; refine hc.mono ?_; rintro e w' ⟨rfl, rfl⟩)
      go_ret
      exact ⟨by simp [szI, HB.out]; omega, rfl⟩

theorem refSize_any (r : Int) (w : World) : Calls Try.prog 36 #[.int .i64 r] w fun e w' => e = .returned (.int .i64 (szI r)) ∧ w = w' := by
  have hc := refIs_any r w
  rcases hb : isI r with _ | _
  · rw [hb] at hc
    have HB := Lib.hid hb; clear hb
    go_enter Try.func36, Try.ntmps36
    go_wp2_with (go_at_call 35; refine hc.mono ?_; rintro e w' ⟨rfl, rfl⟩)
    go_ret
    exact ⟨by simp [szI, HB.out], rfl⟩
  · rw [hb] at hc
    have HB := Lib.hid hb; clear hb
    rcases (show r < 128 ∨ (128 ≤ r ∧ r < 2048) ∨ (2048 ≤ r ∧ r < 65536) ∨ 65536 ≤ r by omega) with h1 | ⟨h1, h2⟩ | ⟨h1, h2⟩ | h1
    all_goals
      go_enter Try.func36, Try.ntmps36
      go_wp2_with (go_at_call 35; refine hc.mono ?_; rintro e w' ⟨rfl, rfl⟩)
      go_ret
      exact ⟨by simp [szI, HB.out]; omega, rfl⟩

theorem sound_any (r : Int) (w : World) : Calls Try.prog 43 #[.int .i64 r] w fun e w' => e = .returned (.int .i64 (sndI r)) ∧ w = w' := by
  have hc := is_any r w
  rcases hb : isI r with _ | _
  all_goals
    rw [hb] at hc
    have HB := Lib.hid hb; clear hb
    go_enter Try.func43, Try.ntmps43
    go_wp2_with (go_at_call 27; refine hc.mono ?_; rintro e w' ⟨rfl, rfl⟩)
    go_ret
    exact ⟨by simp [sndI, HB.out], rfl⟩



theorem behind_any (r : Int) (w : World) (h0 : 0 ≤ r) (h1 : r ≤ 1114111) : Calls Try.prog 45 #[.int .i64 r] w fun e w' => e = .returned (.int .u8 (128 + r % 64)) ∧ w = w' := by
  have e1 := i64_and63 h0 (by omega)
  have e2 := i64_or128 (y := r % 64) (by omega) (by omega)
  have h2 : 0 ≤ r % 64 := by omega
  have h3 : r % 64 < 64 := by omega
  go_enter Try.func45, Try.ntmps45
  go_wp2
  go_ret
  exact ⟨by simp, rfl⟩
theorem ones2 (w : World) : Calls Try.prog 46 #[.int .i64 2] w fun e w' => e = .returned (.int .u8 192) ∧ w = w' := by
  go_enter Try.func46, Try.ntmps46
  go_wp2
  go_ret
  exact ⟨rfl, rfl⟩
theorem ones3 (w : World) : Calls Try.prog 46 #[.int .i64 3] w fun e w' => e = .returned (.int .u8 224) ∧ w = w' := by
  go_enter Try.func46, Try.ntmps46
  go_wp2
  go_ret
  exact ⟨rfl, rfl⟩
theorem ones4 (w : World) : Calls Try.prog 46 #[.int .i64 4] w fun e w' => e = .returned (.int .u8 240) ∧ w = w' := by
  go_enter Try.func46, Try.ntmps46
  go_wp2
  go_ret
  exact ⟨rfl, rfl⟩
end Go.Proofs.Ytbhbdhjkicmecaa
