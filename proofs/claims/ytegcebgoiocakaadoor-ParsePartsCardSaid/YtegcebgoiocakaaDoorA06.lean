/- Code points gone through token by token. -/
import Derived.Test.YtegcebgoiocakaaDoorA03
import Derived.Test.YtegcebgoiocakaaDoorA04
import Derived.Test.YtegcebgoiocakaaDoorA05
import Derived.Laws.ResultCell
import Derived.BigQuiet
import Derived.Deep.Slices
import Derived.Deep.Fields
import Derived.ChangeSame
import Derived.OpenShut
import Derived.ProofKit
namespace Go.Proofs.YtegcebgoiocakaaDoor
open Go Go.RowKit
set_option linter.unusedVariables false

/-! ### Each token takes code points away -/
theorem ptL_lt {l : List Int} {s : List (Int × Int)} {is : Bool} {r : List Int} (h : ptL l = some (s, is, r)) : r.length < l.length := by
  rcases l with _ | ⟨x, l⟩
  · cases h
  unfold ptL at h
  dsimp only at h
  split at h
  · cases h
  split at h
  · rcases l with _ | ⟨e, l⟩
    · cases h
    · dsimp only at h
      obtain ⟨p, _, h⟩ := Option.map_eq_some_iff.1 h
      injection h with _ h; injection h with _ h; subst h
      simp only [List.length_cons]; omega
  · injection h with h; injection h with _ h; injection h with _ h; subst h
    simp
theorem partL_lt {l : List Int} {s : List (Int × Int)} {r : List Int} (h : partL l = some (s, r)) : r.length < l.length := by
  unfold partL at h
  split at h
  · cases h
  · rename_i s1 is l1 h1
    have q1 := ptL_lt h1
    split at h
    · rename_i l2
      split at h
      · split at h
        · rename_i t l3 h3
          have q3 := ptL_lt h3
          split at h
          · cases h
          · injection h with h; injection h with _ h; subst h
            simp only [List.length_cons] at q1; omega
        · cases h
      · injection h with h; injection h with _ h; subst h; exact q1
    · injection h with h; injection h with _ h; subst h; exact q1
theorem partsL_lt : ∀ (f : Nat) (l : List Int) (xs : List (Int × Int)) (more : Bool) (s : List (Int × Int)) (r : List Int), partsL f l xs more = some (s, r) → r.length < l.length
  | 0, _, _, _, _, _, h => by cases h
  | f + 1, l, xs, more, s, r, h => by
    rw [partsL.eq_def] at h
    dsimp only at h
    split at h
    · injection h with h; injection h with _ h; subst h; simp
    · split at h
      · cases h
      · rename_i s1 l1 h1
        have := partL_lt h1
        have := partsL_lt f _ _ _ _ _ h
        omega
theorem classL_lt {l : List Int} {s : List (Int × Int)} {r : List Int} (h : classL l = some (s, r)) : r.length < l.length := by
  unfold classL at h
  split at h
  · obtain ⟨⟨a, b⟩, h1, h⟩ := Option.map_eq_some_iff.1 h
    injection h with _ h; subst h
    have := partsL_lt _ _ _ _ _ _ h1
    simp only [List.length_cons]; omega
  · obtain ⟨⟨a, b⟩, h1, h⟩ := Option.map_eq_some_iff.1 h
    injection h with _ h; subst h
    exact partsL_lt _ _ _ _ _ _ h1
theorem numL_lt {l : List Int} {a : Int} {r : List Int} (h : numL l = some (a, r)) : r.length < l.length := by
  unfold numL at h
  split at h
  · split at h
    · split at h
      · split at h
        · cases h
        · injection h with h; injection h with _ h; subst h; simp only [List.length_cons]; omega
      · injection h with h; injection h with _ h; subst h; simp
    · cases h
  · split at h
    · injection h with h; injection h with _ h; subst h; simp
    · cases h
  · cases h
theorem braceL_lt {l : List Int} {t : TokL} {r : List Int} (h : braceL l = some (t, r)) : r.length < l.length := by
  unfold braceL at h
  split at h
  · rename_i l' h1
    have := numL_lt h1
    injection h with h; injection h with _ h; subst h; simp only [List.length_cons] at this; omega
  · rename_i l' h1
    have := numL_lt h1
    injection h with h; injection h with _ h; subst h; simp only [List.length_cons] at this; omega
  · rename_i l' _ h1
    have := numL_lt h1
    split at h
    · rename_i l'' h2
      have := numL_lt h2
      split at h
      · cases h
      · injection h with h; injection h with _ h; subst h; simp only [List.length_cons] at *; omega
    · cases h
  · cases h
theorem tokL_lt {l : List Int} {t : TokL} {r : List Int} (h : tokL l = some (t, r)) : r.length < l.length := by
  rcases l with _ | ⟨x, l⟩
  · cases h
  unfold tokL at h
  dsimp only at h
  rw [List.length_cons]
  split at h
  · injection h with h; injection h with _ h; subst h; omega
  split at h
  · injection h with h; injection h with _ h; subst h; omega
  split at h
  · injection h with h; injection h with _ h; subst h; omega
  split at h
  · injection h with h; injection h with _ h; subst h; omega
  split at h
  · have := braceL_lt h; omega
  split at h
  · injection h with h; injection h with _ h; subst h; omega
  split at h
  · obtain ⟨⟨a, b⟩, h1, h⟩ := Option.map_eq_some_iff.1 h
    injection h with _ h; subst h
    have := classL_lt h1; simp only; omega
  split at h
  · rcases l with _ | ⟨e, l⟩
    · cases h
    · obtain ⟨p, _, h⟩ := Option.map_eq_some_iff.1 h
      injection h with _ h; subst h; simp only [List.length_cons]; omega
  split at h
  · cases h
  · injection h with h; injection h with _ h; subst h; omega

theorem toksL_fuel : ∀ (f : Nat) (l : List Int), l.length ≤ f → toksL f l = toksL l.length l
  | 0, [], _ => rfl
  | 0, _ :: _, h => by simp at h
  | f + 1, [], _ => rfl
  | f + 1, r :: l, h => by
    rw [List.length_cons, toksL, toksL]
    rcases ht : tokL (r :: l) with _ | ⟨t, l'⟩
    · rfl
    · have := tokL_lt ht
      rw [List.length_cons] at this h
      dsimp only
      rw [toksL_fuel f l' (by omega), toksL_fuel l.length l' (by omega)]

/-! ### The whole, code point by code point -/
def runL (l : List Int) (st : List (Wood × Wood)) (a p : Wood) (lo : Bool) : Option Wood := (toksL l.length l).bind fun ts => runT 0 ts st a p lo
theorem treeL_run (l : List Int) : treeL l = runL l [] .nil .nil false := rfl
section
variable {l l' : List Int} {t : TokL} {st : List (Wood × Wood)} {a p : Wood} {lo : Bool}
theorem runL_nil : runL [] st a p lo = if st = [] then some (finN a p) else none := by
  rcases st with _ | ⟨x, st⟩ <;> simp [runL, toksL, runT]
theorem toksL_none {r : Int} (h : tokL (r :: l) = none) : toksL (r :: l).length (r :: l) = none := by rw [List.length_cons, toksL, h]
theorem toksL_some {r : Int} (h : tokL (r :: l) = some (t, l')) : toksL (r :: l).length (r :: l) = (toksL l'.length l').map fun ts => t :: ts := by
  have := tokL_lt h
  rw [List.length_cons] at this
  rw [List.length_cons, toksL, h]
  dsimp only
  rw [toksL_fuel _ _ (by omega)]
theorem runL_none (h : tokL l = none) (hl : l ≠ []) : runL l st a p lo = none := by
  rcases l with _ | ⟨r, l⟩
  · exact absurd rfl hl
  · unfold runL; rw [toksL_none h]; rfl
theorem runL_some (h : tokL l = some (t, l')) : runL l st a p lo = (toksL l'.length l').bind fun ts => runT 0 (t :: ts) st a p lo := by
  rcases l with _ | ⟨r, l⟩
  · cases h
  · unfold runL
    rw [toksL_some h]
    rcases toksL l'.length l' with _ | ts <;> rfl
theorem runL_char (h : tokL l = some (t, l')) (hk : t.kind = 0) : runL l st a p lo = runL l' st a (p.app (leaf 1 t.set)) true := by
  rw [runL_some h]; simp only [run_char hk]; rfl
theorem runL_count (h : tokL l = some (t, l')) (hk : t.kind = 2) : runL l st a p lo = if lo = true then runL l' st a (repLast t.mn t.mx p) false else none := by
  rw [runL_some h]; simp only [run_count hk]
  cases lo with
  | true => rfl
  | false => rcases toksL l'.length l' with _ | ts <;> rfl
theorem runL_bar (h : tokL l = some (t, l')) (hk : t.kind = 1) (hr : t.r = 124) : runL l st a p lo = runL l' st (a.app (oneN 4 p)) .nil false := by
  rw [runL_some h]; simp only [run_bar hk hr]; rfl
theorem runL_begin (h : tokL l = some (t, l')) (hk : t.kind = 1) (hr : t.r = 94) : runL l st a p lo = runL l' st a (p.app (leaf 2 [])) false := by
  rw [runL_some h]; simp only [run_begin hk hr]; rfl
theorem runL_end (h : tokL l = some (t, l')) (hk : t.kind = 1) (hr : t.r = 36) : runL l st a p lo = runL l' st a (p.app (leaf 3 [])) false := by
  rw [runL_some h]; simp only [run_end hk hr]; rfl
theorem runL_paren (h : tokL l = some (t, l')) (hk : t.kind = 1) (hr : t.r = 40) : runL l st a p lo = if st.length < 10 then runL l' ((a, p) :: st) .nil .nil false else none := by
  rw [runL_some h]; simp only [run_paren hk hr, Nat.zero_add]
  by_cases hd : st.length < 10
  · simp only [if_pos hd]; rfl
  · simp only [if_neg hd]; rcases toksL l'.length l' with _ | ts <;> rfl
theorem runL_shut (h : tokL l = some (t, l')) (hk : t.kind = 1) (hr : t.r = 41) : runL l st a p lo = match st with
    | [] => none
    | (a', p') :: st' => runL l' st' a' (p'.app (finN a p)) true := by
  rw [runL_some h]
  rcases st with _ | ⟨⟨a', p'⟩, st⟩
  · simp only [run_shut_nil hk hr]; rcases toksL l'.length l' with _ | ts <;> rfl
  · simp only [run_shut _ _ hk hr]; rfl
end
/-! ### Signs -/
theorem tok_bar (l : List Int) : tokL (124 :: l) = some (tokS 124, l) := rfl
theorem tok_open (l : List Int) : tokL (40 :: l) = some (tokS 40, l) := rfl
theorem tok_shut (l : List Int) : tokL (41 :: l) = some (tokS 41, l) := rfl
theorem tok_begin (l : List Int) : tokL (94 :: l) = some (tokS 94, l) := rfl
theorem tok_end (l : List Int) : tokL (36 :: l) = some (tokS 36, l) := rfl
theorem tok_star (l : List Int) : tokL (42 :: l) = some (tokN 0 (-1), l) := rfl
theorem tok_plus (l : List Int) : tokL (43 :: l) = some (tokN 1 (-1), l) := rfl
theorem tok_quest (l : List Int) : tokL (63 :: l) = some (tokN 0 1, l) := rfl
theorem tok_brace (l : List Int) : tokL (123 :: l) = braceL l := rfl
theorem tok_dot (l : List Int) : tokL (46 :: l) = some (tokC [(0, 9), (11, 1114111)], l) := rfl
theorem tok_class (l : List Int) : tokL (91 :: l) = (classL l).map fun p => (tokC p.1, p.2) := rfl
theorem tok_back (e : Int) (l : List Int) : tokL (92 :: e :: l) = (escL e).map fun p => (tokC p.1, l) := rfl
theorem tok_shutb (l : List Int) : tokL (93 :: l) = none := rfl
theorem tok_shutc (l : List Int) : tokL (125 :: l) = none := rfl
/-- A sign, but for the hyphen. -/
def signB (r : Int) : Bool := decide (r ∈ [46, 94, 36, 124, 40, 41, 91, 93, 123, 125, 42, 43, 63, 92])
theorem tok_plain {r : Int} (l : List Int) (h : signB r = false) : tokL (r :: l) = some (tokC [(r, r)], l) := by
  unfold signB at h
  rw [decide_eq_false_iff_not] at h
  simp only [List.mem_cons, List.not_mem_nil, or_false, not_or] at h
  unfold tokL
  dsimp only
  rw [if_neg (by omega), if_neg (by omega), if_neg (by omega), if_neg (by omega), if_neg (by omega), if_neg (by omega), if_neg (by omega), if_neg (by omega), if_neg (by omega)]
/-- The tokens that are no counts are told by their first sign. -/
def countB (r : Int) : Bool := decide (r = 42 ∨ r = 43 ∨ r = 63 ∨ r = 123)
theorem braceL_kind {l l' : List Int} {t : TokL} (h : braceL l = some (t, l')) : t.kind = 2 := by
  unfold braceL at h
  split at h
  · injection h with h; injection h with h _; subst h; rfl
  · injection h with h; injection h with h _; subst h; rfl
  · split at h
    · split at h
      · cases h
      · injection h with h; injection h with h _; subst h; rfl
    · cases h
  · cases h
theorem tok_kind {r : Int} {l l' : List Int} {t : TokL} (h : tokL (r :: l) = some (t, l')) : t.kind = 2 ↔ countB r = true := by
  unfold countB
  rw [decide_eq_true_iff]
  unfold tokL at h
  dsimp only at h
  split at h
  · injection h with h; injection h with h _; subst h; simp only [tokS]; omega
  split at h
  · injection h with h; injection h with h _; subst h; exact ⟨fun _ => by omega, fun _ => rfl⟩
  split at h
  · injection h with h; injection h with h _; subst h; exact ⟨fun _ => by omega, fun _ => rfl⟩
  split at h
  · injection h with h; injection h with h _; subst h; exact ⟨fun _ => by omega, fun _ => rfl⟩
  split at h
  · have := braceL_kind h; omega
  split at h
  · injection h with h; injection h with h _; subst h; simp only [tokC]; omega
  split at h
  · obtain ⟨⟨a, b⟩, h1, h⟩ := Option.map_eq_some_iff.1 h
    injection h with h _; subst h; simp only [tokC]; omega
  split at h
  · rcases l with _ | ⟨e, l⟩
    · cases h
    · obtain ⟨p, _, h⟩ := Option.map_eq_some_iff.1 h
      injection h with h _; subst h; simp only [tokC]; omega
  split at h
  · cases h
  · injection h with h; injection h with h _; subst h; simp only [tokC]; omega
theorem runT_loose {D : Nat} {t : TokL} {ts : List TokL} {st : List (Wood × Wood)} {a p : Wood} {lo lo' : Bool} (h : t.kind ≠ 2) : runT D (t :: ts) st a p lo = runT D (t :: ts) st a p lo' := by
  cases st <;> simp [runT, h]
/-- Where no count stands it's all the same whether one may. -/
theorem runL_loose {l : List Int} {st : List (Wood × Wood)} {a p : Wood} {lo lo' : Bool} (h : countB (l.headD (-1)) = false) : runL l st a p lo = runL l st a p lo' := by
  rcases l with _ | ⟨r, l⟩
  · rw [runL_nil, runL_nil]
  · rcases ht : tokL (r :: l) with _ | ⟨t, l'⟩
    · rw [runL_none ht (by simp), runL_none ht (by simp)]
    · have hk : t.kind ≠ 2 := fun e => by
        have := (tok_kind ht).1 e
        rw [List.headD_cons] at h
        rw [h] at this
        cases this
      rw [runL_some ht, runL_some ht]
      simp only [runT_loose (lo := lo) (lo' := lo') hk]
/-- Where a count stands that may not. -/
theorem runL_count_no {l : List Int} {st : List (Wood × Wood)} {a p : Wood} (h : countB (l.headD (-1)) = true) : runL l st a p false = none := by
  rcases l with _ | ⟨r, l⟩
  · exact absurd h (by decide)
  · rcases ht : tokL (r :: l) with _ | ⟨t, l'⟩
    · rw [runL_none ht (by simp)]
    · rw [runL_count ht ((tok_kind ht).2 h)]
      rfl
theorem repLast_app (mn mx : Int) (n : Wood) (hn : n.len = 1) : ∀ p : Wood, repLast mn mx (p.app n) = p.app (.cons 6 [] mn mx n .nil)
  | .nil => by
    obtain ⟨o, s, x, z, k, rfl⟩ := Wood.one_of_len hn
    rfl
  | .cons o s x z k .nil => by
    obtain ⟨o', s', x', z', k', rfl⟩ := Wood.one_of_len hn
    rfl
  | .cons o s x z k (.cons o2 s2 x2 z2 k2 y) => by
    have ih := repLast_app mn mx n hn (.cons o2 s2 x2 z2 k2 y)
    simp only [Wood.app, repLast] at ih ⊢
    rw [ih]
/-- What is behind alternatives that are through. -/
def shutL (l : List Int) (st : List (Wood × Wood)) (n : Wood) : Option Wood :=
  match l, st with
  | [], [] => some n
  | 41 :: l', (a, p) :: st' => runL l' st' a (p.app n) true
  | _, _ => none
theorem shut_end {l : List Int} {st : List (Wood × Wood)} {a p : Wood} {lo : Bool} (h : l = [] ∨ ∃ l', l = 41 :: l') : runL l st a p lo = shutL l st (finN a p) := by
  rcases h with rfl | ⟨l', rfl⟩
  · rw [runL_nil]
    rcases st with _ | ⟨⟨x, y⟩, st⟩ <;> rfl
  · rw [runL_shut (tok_shut l') rfl rfl]
    rcases st with _ | ⟨⟨x, y⟩, st⟩ <;> rfl
end Go.Proofs.YtegcebgoiocakaaDoor
/- Rows of ranges that the call owns: append of ranges, a store into the last one. -/
namespace Go.Proofs.YtegcebgoiocakaaDoor
open Go Go.RowKit
set_option linter.unusedVariables false
set_option maxRecDepth 20000

/-- append of ranges to a row of the call's own. -/
theorem app_inG' {W w : World} {P : Option Addr} {q pc : Nat} {xs : List (Int × Int)} (h : w.ownsRow W.heap.size 51 2 (.slice P q pc) q (cellsG xs)) {A : Option Addr} {n c : Nat} {s : List (Int × Int)} (hr : RowG w A n s) (hA : A = none → n = 0 ∧ c = 0) (hq : q ≤ 3000000) (hn : n ≤ 3000000) (hb : Below W.heap.size W w) :
    ∃ P' pc' w', (Builtin.append_ #[23, 23] 23 #[.slice P q pc, .slice A n c]).run Tryd.prog w = .ok (.slice P' (q + n) pc') w' ∧ w'.ownsRow W.heap.size 51 2 (.slice P' (q + n) pc') (q + n) (cellsG (xs ++ s)) ∧ Below W.heap.size W w' ∧ ∀ g, g < w.heap.size → (Value.slice P q pc).ownBlock ≠ some g → w'.heap[g]? = w.heap[g]? := by
  obtain ⟨i0, hi, hz0, hz1, hz2⟩ := info_parts info_rng
  have hl := hr.1
  rw [cellsG_append]
  rcases A with _ | ad
  · obtain ⟨rfl, rfl⟩ := hA rfl
    have hs : s = [] := List.eq_nil_of_length_eq_zero hl
    subst hs
    rw [show cellsG [] = [] from rfl, List.append_nil]
    exact ⟨P, pc, w, run_append_owned_none (P := Tryd.prog) w W.heap.size 23 23 51 i0 2 Tryd.underlying23 hi _ q _ h, h, hb, fun _ _ _ => rfl⟩
  · have hcells : ∀ j u, (cellsG s)[j]? = some u → w.cell? (ad.add j) = some u := by
      intro j u hu
      have hj : j < n * 2 := by
        have := cellsG_length s
        rcases Nat.lt_or_ge j (cellsG s).length with h1 | h1
        · omega
        · rw [List.getElem?_eq_none h1] at hu; cases hu
      obtain ⟨b, o, hA, _, hc⟩ := hr.2 (by omega)
      injection hA with hA
      subst hA
      have hadd : (⟨b, o, none⟩ : Addr).add j = ⟨b, o + j, none⟩ := by unfold Addr.add; split <;> simp_all
      obtain ⟨e0, e1⟩ := cellsG_at s (j / 2) (by omega)
      obtain ⟨c0, c1⟩ := hc (j / 2) (by omega)
      rw [hadd]
      rcases Nat.mod_two_eq_zero_or_one j with hm | hm
      · have e : j = j / 2 * 2 := by omega
        rw [e] at hu ⊢
        rw [e0] at hu
        rw [c0, hu]
      · have e : j = j / 2 * 2 + 1 := by omega
        rw [e] at hu ⊢
        rw [e1] at hu
        rw [← Nat.add_assoc, c1, hu]
    obtain ⟨V', w', h1, h2, h3, _⟩ := run_append_own (P := Tryd.prog) w W.heap.size 23 23 51 i0 _ 2 16 Tryd.underlying23 hi hz0 hz1 hz2 rfl (by decide) _ q _ h ad n c (cellsG s) (by rw [cellsG_length, hl]) hcells
      (by intro u hu; obtain ⟨p, _, hp⟩ := List.mem_flatMap.1 hu; simp at hp; rcases hp with rfl | rfl <;> rfl) (by unfold maxLen; omega) (by omega) hb.size
    have hb' : Below W.heap.size W w' := hb.grown h3 hb.size (by intro k hk; exact (row_lt h hk).1)
    have hk' : ∀ g, g < w.heap.size → (Value.slice P q pc).ownBlock ≠ some g → w'.heap[g]? = w.heap[g]? := fun g hg hne => h3.block g hg fun e => hne e.symm
    rcases h2.2 with ⟨rfl, h0⟩ | ⟨b, cap, cu, rfl, _⟩
    · rw [h0] at h2 ⊢
      exact ⟨none, 0, w', h1, h2, hb', hk'⟩
    · exact ⟨_, _, w', h1, h2, hb', hk'⟩
/-- .. without what stays. -/
theorem app_inG {W w : World} {P : Option Addr} {q pc : Nat} {xs : List (Int × Int)} (h : w.ownsRow W.heap.size 51 2 (.slice P q pc) q (cellsG xs)) {A : Option Addr} {n c : Nat} {s : List (Int × Int)} (hr : RowG w A n s) (hA : A = none → n = 0 ∧ c = 0) (hq : q ≤ 3000000) (hn : n ≤ 3000000) (hb : Below W.heap.size W w) :
    ∃ P' pc' w', (Builtin.append_ #[23, 23] 23 #[.slice P q pc, .slice A n c]).run Tryd.prog w = .ok (.slice P' (q + n) pc') w' ∧ w'.ownsRow W.heap.size 51 2 (.slice P' (q + n) pc') (q + n) (cellsG (xs ++ s)) ∧ Below W.heap.size W w' := by
  obtain ⟨P', pc', w', h1, h2, h3, _⟩ := app_inG' h hr hA hq hn hb
  exact ⟨P', pc', w', h1, h2, h3⟩
/-- Ranges that lie in a block just made. -/
theorem rowG_made (w : World) (s : List (Int × Int)) : RowG (w.alloc (.cells (cellsG s).toArray 51)) (some ⟨w.heap.size, 0, none⟩) s.length s := by
  refine ⟨rfl, fun hn => ⟨w.heap.size, 0, rfl, by simp, fun j hj => ?_⟩⟩
  obtain ⟨e1, e2⟩ := cellsG_at s j hj
  refine ⟨?_, ?_⟩
  · rw [cell_of_row _ w.heap.size (0 + j * 2) _ 51 (0, 0) (heap_alloc_new w _), ← e1, Nat.zero_add]; simp
  · rw [cell_of_row _ w.heap.size (0 + j * 2 + 1) _ 51 (0, 0) (heap_alloc_new w _), ← e2, Nat.zero_add]; simp
theorem ownG_alloc {w : World} {B : Nat} {v : Value} {n : Nat} {xs : List Value} (h : w.ownsRow B 51 2 v n xs) (o : Obj) : (w.alloc o).ownsRow B 51 2 v n xs :=
  row_keep h fun k hk _ => Below.heap_alloc w o k hk
theorem ownG_kept {w w' : World} {B : Nat} {v : Value} {n : Nat} {xs : List Value} (h : w.ownsRow B 51 2 v n xs) (hb : Below w.heap.size w w') : w'.ownsRow B 51 2 v n xs :=
  row_keep h fun k hk _ => hb.block k hk
/-- append of ranges that are listed. -/
theorem push_rngs {W w : World} {P : Option Addr} {q pc : Nat} {xs : List (Int × Int)} (h : w.ownsRow W.heap.size 51 2 (.slice P q pc) q (cellsG xs)) (s : List (Int × Int)) (hq : q ≤ 3000000) (hn : s.length ≤ 3000000) (hb : Below W.heap.size W w) :
    ∃ P' pc' w', (Builtin.append_ #[23, 23] 23 #[.slice P q pc, .slice (some ⟨w.heap.size, 0, none⟩) s.length s.length]).run Tryd.prog (w.alloc (.cells (cellsG s).toArray 51)) = .ok (.slice P' (q + s.length) pc') w' ∧ w'.ownsRow W.heap.size 51 2 (.slice P' (q + s.length) pc') (q + s.length) (cellsG (xs ++ s)) ∧ Below W.heap.size W w' :=
  app_inG (ownG_alloc h _) (rowG_made w s) (fun e => by cases e) hq hn (hb.alloc hb.size _)
/-- .. and what stays. -/
theorem push_keep {W w : World} {P : Option Addr} {q pc : Nat} {xs : List (Int × Int)} (h : w.ownsRow W.heap.size 51 2 (.slice P q pc) q (cellsG xs)) (s : List (Int × Int)) (hq : q ≤ 3000000) (hn : s.length ≤ 3000000) (hb : Below W.heap.size W w) :
    ∃ P' pc' w', (Builtin.append_ #[23, 23] 23 #[.slice P q pc, .slice (some ⟨w.heap.size, 0, none⟩) s.length s.length]).run Tryd.prog (w.alloc (.cells (cellsG s).toArray 51)) = .ok (.slice P' (q + s.length) pc') w' ∧ w'.ownsRow W.heap.size 51 2 (.slice P' (q + s.length) pc') (q + s.length) (cellsG (xs ++ s)) ∧ Below W.heap.size W w' ∧ ∀ g, g < w.heap.size → (Value.slice P q pc).ownBlock ≠ some g → w'.heap[g]? = w.heap[g]? := by
  obtain ⟨P', pc', w', h1, h2, h3, h4⟩ := app_inG' (ownG_alloc h (.cells (cellsG s).toArray 51)) (rowG_made w s) (fun e => by cases e) hq hn (hb.alloc hb.size _)
  exact ⟨P', pc', w', h1, h2, h3, fun g hg hne => (h4 g (by simp; omega) hne).trans (Below.heap_alloc w _ g hg)⟩
theorem nilG (w : World) (B : Nat) : w.ownsRow B 51 2 (.slice none 0 0) 0 (cellsG []) := World.ownsRow_nil _ _ _ _

/-- The last one's end is set. -/
theorem cellsG_last (v : List (Int × Int)) (q : Int × Int) (y : Int) : (cellsG (v ++ [q])).set (v.length * 2 + 1) (.int .i64 y) = cellsG (v ++ [(q.1, y)]) := by
  rw [cellsG_append, cellsG_append, List.set_append_right _ _ (by rw [cellsG_length]; omega), cellsG_length, show v.length * 2 + 1 - v.length * 2 = 1 by omega]
  rfl
theorem last_own {W w : World} {P : Option Addr} {n pc : Nat} {v : List (Int × Int)} {q : Int × Int} (h : w.ownsRow W.heap.size 51 2 (.slice P n pc) n (cellsG (v ++ [q]))) (hb : Below W.heap.size W w) :
    ∃ g, P = some ⟨g, 0, none⟩ ∧ n = v.length + 1 ∧ W.heap.size ≤ g ∧ g < w.heap.size ∧ n ≤ pc ∧ pc ≤ maxLen ∧ w.cell? ⟨g, v.length * 2, none⟩ = some (.int .i64 q.1) ∧ w.cell? ⟨g, v.length * 2 + 1, none⟩ = some (.int .i64 q.2) ∧ w.frozen? ⟨g, v.length * 2 + 1, none⟩ = false ∧
      ∀ y, (w.setCell ⟨g, v.length * 2 + 1, none⟩ (.int .i64 y)).ownsRow W.heap.size 51 2 (.slice P n pc) n (cellsG (v ++ [(q.1, y)])) ∧ Below W.heap.size W (w.setCell ⟨g, v.length * 2 + 1, none⟩ (.int .i64 y)) := by
  have hl := h.1
  rw [cellsG_length, List.length_append] at hl
  simp only [List.length_cons, List.length_nil] at hl
  rcases h.2 with ⟨e, h0⟩ | ⟨g, cap, cur, e, hB, hg, hnc, hcm, hcs, ht⟩
  · omega
  · injection e with e1 _ e3
    subst e1; subst e3
    obtain ⟨x1, x2⟩ := cellsG_at (v ++ [q]) v.length (by simp)
    have hd : (v ++ [q]).getD v.length (0, 0) = q := by simp [List.getD]
    rw [hd] at x1 x2
    have hc : ∀ j, j < n * 2 → w.cell? ⟨g, j, none⟩ = (cellsG (v ++ [q]))[j]? := fun j hj => by
      rw [cell_of_row w g j cur 51 (0, 0) hg, ← ht, List.getElem?_take_of_lt hj, Array.getElem?_toList]
    refine ⟨g, rfl, by omega, hB, (Array.getElem?_eq_some_iff.1 hg).1, hnc, hcm, by rw [hc _ (by omega), x1], by rw [hc _ (by omega), x2], by simp [World.frozen?, hg], fun y => ?_⟩
    obtain ⟨s1, s2⟩ := h.stored (v.length * 2 + 1) (.int .i64 y)
    rw [cellsG_last] at s1
    exact ⟨s1, hb.grown s2 hb.size (by intro k hk; injection hk with hk; omega)⟩
end Go.Proofs.YtegcebgoiocakaaDoor
/- The parser's small functions: sign, itself, one, char. -/
namespace Go.Proofs.YtegcebgoiocakaaDoor
open Go Go.RowKit
set_option linter.unusedVariables false
set_option maxRecDepth 20000

theorem cell1_result {fn : Func} {p : Tmp} {ty : TypeId} (h : fn.results = #[.cell p ty]) (tmps : Array Value) (P : Program) (w : World) :
    (results fn tmps).run P w = ((asAddr (tmps.getD p undef)).run P w).andThen fun a w₁ => (loadVar ty a).run P w₁ := by
  simp only [results, h]
  simp [Sem.run_bind, Result.andThen]

theorem sign_yes (c : Int) (h : signB c = true) (w : World) : Calls Tryd.prog 41 #[.int .i64 c] w fun e w' => e = .returned (.bool true) ∧ w = w' := by
  unfold signB at h
  rw [decide_eq_true_iff] at h
  simp only [List.mem_cons, List.not_mem_nil, or_false] at h
  rcases h with rfl | rfl | rfl | rfl | rfl | rfl | rfl | rfl | rfl | rfl | rfl | rfl | rfl | rfl
  all_goals
    go_enter Tryd.func41, Tryd.ntmps41
    go_wp2
    go_ret
    exact ⟨rfl, rfl⟩
theorem sign_no (c : Int) (h : signB c = false) (w : World) : Calls Tryd.prog 41 #[.int .i64 c] w fun e w' => e = .returned (.bool false) ∧ w = w' := by
  unfold signB at h
  rw [decide_eq_false_iff_not] at h
  simp only [List.mem_cons, List.not_mem_nil, or_false, not_or] at h
  obtain ⟨h1, h2, h3, h4, h5, h6, h7, h8, h9, h10, h11, h12, h13, h14⟩ := h
  go_enter Tryd.func41, Tryd.ntmps41
  go_wp2
  go_ret
  exact ⟨rfl, rfl⟩
theorem sign_any (c : Int) (w : World) : Calls Tryd.prog 41 #[.int .i64 c] w fun e w' => e = .returned (.bool (signB c)) ∧ w = w' := by
  cases h : signB c with
  | true => exact sign_yes c h w
  | false => exact sign_no c h w

/-- What stands for one number behind a backslash. -/
def itselfL (c : Int) : Int × Bool := if c = 110 then (10, true) else if c = 114 then (13, true) else if c = 116 then (9, true) else (c, decide (c = 45) || signB c)
theorem itself_any (c : Int) (w : World) : Calls Tryd.prog 39 #[.int .i64 c] w fun e w' => e = .returned (.tuple #[.int .i64 (itselfL c).1, .bool (itselfL c).2]) ∧ w = w' := by
  have HS := Lib.hid fun w => sign_any c w
  unfold itselfL
  by_cases h1 : c = 110
  · subst h1
    go_enter Tryd.func39, Tryd.ntmps39
    go_wp2
    go_ret2
    exact ⟨rfl, rfl⟩
  by_cases h2 : c = 114
  · subst h2
    go_enter Tryd.func39, Tryd.ntmps39
    go_wp2
    go_ret2
    exact ⟨rfl, rfl⟩
  by_cases h3 : c = 116
  · subst h3
    go_enter Tryd.func39, Tryd.ntmps39
    go_wp2
    go_ret2
    exact ⟨rfl, rfl⟩
  rw [if_neg h1, if_neg h2, if_neg h3]
  by_cases h4 : c = 45
  · subst h4
    clear HS h1 h2 h3
    go_enter Tryd.func39, Tryd.ntmps39
    go_wp2
    go_ret2
    exact ⟨rfl, rfl⟩
  · have h5 : (c == 45) = false := by simpa using h4
    generalize hs : signB c = s at *
    rw [decide_eq_false h4, Bool.false_or]
    clear hs h4
    go_enter Tryd.func39, Tryd.ntmps39
    go_wp2_with (go_at_call 41; (with_reducible refine (HS.out _).mono ?_); rintro e w1 ⟨rfl, rfl⟩)
    go_ret2
    exact ⟨rfl, rfl⟩

theorem one_any (c : Int) (w : World) : Calls Tryd.prog 37 #[.int .i64 c] w fun e w' => e = .returned (.agg #[.int .i64 c, .int .i64 c]) ∧ Below w.heap.size w w' := by
  go_enter Tryd.func37, Tryd.ntmps37
  go_wp2
  refine bodyPost_ret (v := .agg #[.int .i64 c, .int .i64 c]) ?_ rfl ⟨rfl, by go_grown⟩
  rw [cell1_result rfl]; go_simp
theorem char_any (A : Option Addr) (n c : Nat) (w : World) : Calls Tryd.prog 34 #[.slice A n c] w fun e w' => e = .returned (.agg #[.int .i64 1, .slice A n c, .int .i64 0, .int .i64 0, .slice none 0 0]) ∧ Below w.heap.size w w' := by
  go_enter Tryd.func34, Tryd.ntmps34
  go_wp2
  refine bodyPost_ret (v := .agg #[.int .i64 1, .slice A n c, .int .i64 0, .int .i64 0, .slice none 0 0]) ?_ rfl ⟨rfl, by go_grown⟩
  rw [cell1_result rfl]; go_simp

/-! ### What escL makes of it -/
theorem escL_itself {c x : Int} (h : itselfL c = (x, true)) : escL c = some ([(x, x)], true) := by
  unfold itselfL at h
  unfold escL
  split at h
  · rename_i hc; subst hc; injection h with h _; subst h; rfl
  split at h
  · rename_i hc; subst hc; injection h with h _; subst h; rfl
  split at h
  · rename_i hc; subst hc; injection h with h _; subst h; rfl
  · injection h with h1 h2
    subst h1
    rw [Bool.or_eq_true, decide_eq_true_iff] at h2
    unfold signB at h2
    rw [decide_eq_true_iff] at h2
    simp only [List.mem_cons, List.not_mem_nil, or_false] at h2
    rw [if_neg (by omega), if_neg (by omega), if_neg (by omega), if_neg (by omega), if_neg (by omega), if_pos]
    simp only [signL, List.mem_cons, List.not_mem_nil, or_false]
    omega
/-- A letter that has a set. -/
def letterB (c : Int) : Bool := decide (c = 100 ∨ c = 119 ∨ c = 115 ∨ c = 68 ∨ c = 87 ∨ c = 83)
theorem escL_none {c x : Int} (h : itselfL c = (x, false)) (hl : letterB c = false) : escL c = none := by
  unfold letterB at hl
  rw [decide_eq_false_iff_not] at hl
  unfold itselfL at h
  unfold escL
  split at h
  · cases h
  split at h
  · cases h
  split at h
  · cases h
  · injection h with h1 h2
    subst h1
    rw [Bool.or_eq_false_iff, decide_eq_false_iff_not] at h2
    unfold signB at h2
    rw [decide_eq_false_iff_not] at h2
    simp only [List.mem_cons, List.not_mem_nil, or_false, not_or] at h2
    rw [if_neg (by omega), if_neg (by omega), if_neg (by omega), if_neg (by omega), if_neg (by omega), if_neg]
    simp only [signL, List.mem_cons, List.not_mem_nil, or_false]
    omega
theorem escL_letter {c : Int} (h : letterB c = true) : ∃ s, escL c = some (s, false) := by
  unfold letterB at h
  rw [decide_eq_true_iff] at h
  unfold escL
  by_cases h1 : c = 100 ∨ c = 119 ∨ c = 115
  · rw [if_pos h1]; exact ⟨_, rfl⟩
  · rw [if_neg h1, if_pos (by omega)]; exact ⟨_, rfl⟩
theorem itself_letter {c : Int} (h : letterB c = true) : itselfL c = (c, false) := by
  unfold letterB at h
  rw [decide_eq_true_iff] at h
  unfold itselfL
  rw [if_neg (by omega), if_neg (by omega), if_neg (by omega)]
  have : signB c = false := by
    unfold signB
    rw [decide_eq_false_iff_not]
    simp only [List.mem_cons, List.not_mem_nil, or_false, not_or]
    omega
  rw [this, decide_eq_false (by omega)]
  rfl
end Go.Proofs.YtegcebgoiocakaaDoor
/- What came in: a list of ranges, each a struct of two whole numbers. -/
namespace Go.Proofs.YtegcebgoiocakaaDoor
open Go Go.RowKit Go.ChangeShapes Go.WideShapes Go.ChangeAt
set_option linter.unusedVariables false
set_option maxRecDepth 20000

theorem int_cells1 : Tryd.prog.cellsOf 3 = 1 := by kernel_rfl
/-- A list of ranges that came in. -/
def InG (w : World) (A : Option Addr) (n c : Nat) (s : List (Int × Int)) : Prop :=
  RowG w A n s ∧ n ≤ c ∧ c ≤ maxLen ∧ (A = none → n = 0 ∧ c = 0) ∧ ∀ p ∈ s, (Lit.int .i64 p.1).wf = true ∧ (Lit.int .i64 p.2).wf = true

section
variable {H : Type} {enc : TypeId × Value → H} {W : World} {base : Nat} {held : Bool}
/-- The list of ranges, opened. -/
theorem rngs_of {a : Option Addr} {len cap fuel : Nat} {x : DataW H × List MemPlace} (hf : DataW.trod enc Tryd.prog W base (fun _ => true) held fuel 23 [.slice a len cap] = some x) : ∃ xs, InG W a len cap xs := by
  rcases Go.Deep.open_slice Tryd.underlying23 hf with ⟨hcs, _⟩ | ⟨ad, l, c, m, n, D, Pl, hcs, _, hl, hm, hmm, _, hel⟩
  · simp at hcs
    obtain ⟨rfl, rfl, rfl⟩ := hcs
    exact ⟨[], ⟨rfl, fun h => absurd h (by omega)⟩, Nat.le_refl _, Nat.zero_le _, fun _ => ⟨rfl, rfl⟩, by simp⟩
  · simp at hcs
    obtain ⟨rfl, rfl, rfl⟩ := hcs
    simp only [if_true] at hmm
    subst hmm
    rw [rng_cells] at hel
    have each : ∀ i, ∃ y : Int × Int, i < m → W.cell? (ad.add (i * 2)) = some (.int .i64 y.1) ∧ W.cell? ((ad.add (i * 2)).add 1) = some (.int .i64 y.2) ∧ (Lit.int .i64 y.1).wf = true ∧ (Lit.int .i64 y.2).wf = true := by
      intro i
      by_cases hi : i < m
      · obtain ⟨cs', hc, ht⟩ := hel i hi
        obtain ⟨_, hcl, hat⟩ := World.cells?_some hc
        obtain ⟨ys, n', _, _, _, hyl, hfl⟩ := DataW.trod_struct Tryd.underlying51 ht
        match cs', hcl with
        | [c0, c1], _ =>
          match ys, hyl with
          | [y0, y1], _ =>
            have q0 : DataW.trod enc Tryd.prog W base (fun _ => true) held n' 3 [c0] = some y0 := by
              have h := hfl 0 _ rfl
              change DataW.trod enc Tryd.prog W base (fun _ => true) held n' 3 (List.take (Tryd.prog.cellsOf 3) [c0, c1]) = some y0 at h
              rw [int_cells1] at h
              exact h
            have q1 : DataW.trod enc Tryd.prog W base (fun _ => true) held n' 3 [c1] = some y1 := by
              have h := hfl 1 _ rfl
              change DataW.trod enc Tryd.prog W base (fun _ => true) held n' 3 (List.take (Tryd.prog.cellsOf 3) [c1]) = some y1 at h
              rw [int_cells1] at h
              exact h
            obtain ⟨k, e0, _, z0⟩ := DataW.trod_int Tryd.underlying3 q0
            obtain ⟨i1, e1, _, z1⟩ := DataW.trod_int Tryd.underlying3 q1
            injection e0 with e0
            injection e1 with e1
            have a0 := hat 0 (by omega)
            have a1 := hat 1 (by omega)
            have hz : (ad.add (i * 2)).add 0 = ad.add (i * 2) := by simp [Addr.add]
            rw [hz] at a0
            refine ⟨(k, i1), fun _ => ⟨?_, ?_, z0, z1⟩⟩
            · rw [a0, e0]; rfl
            · rw [a1, e1]; rfl
      · exact ⟨(0, 0), fun h => absurd h hi⟩
    obtain ⟨f, hfn⟩ := Classical.axiomOfChoice each
    refine ⟨(List.range len).map f, ⟨by simp, fun hn => ?_⟩, hl, hm, (fun h => by cases h), fun p hp => ?_⟩
    · obtain ⟨b, off, spot⟩ := ad
      obtain ⟨h0, _⟩ := hfn 0 (by omega)
      have hspot : spot = none := by simpa [Addr.add] using World.cell?_spot h0
      subst hspot
      refine ⟨b, off, rfl, World.block_lt_of_cell? W (⟨b, off, none⟩ : Addr) (by simpa [Addr.add] using h0), fun j hj => ?_⟩
      obtain ⟨g0, g1, _⟩ := hfn j (by omega)
      have hadd : ∀ (o i : Nat), (⟨b, o, none⟩ : Addr).add i = ⟨b, o + i, none⟩ := fun o i => by unfold Addr.add; split <;> simp_all
      rw [hadd] at g0 g1
      rw [hadd] at g1
      have e : ((List.range len).map f).getD j (0, 0) = f j := by simp [List.getD, hj]
      rw [e]
      exact ⟨g0, g1⟩
    · obtain ⟨i, hi, rfl⟩ := List.mem_map.1 hp
      have := hfn i (by have := List.mem_range.1 hi; omega)
      exact ⟨this.2.2.1, this.2.2.2⟩
end
end Go.Proofs.YtegcebgoiocakaaDoor
