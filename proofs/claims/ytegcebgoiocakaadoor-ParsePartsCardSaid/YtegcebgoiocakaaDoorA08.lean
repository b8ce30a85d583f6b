/- The document's Made: a set made between the ends of ranges. -/
import Derived.Test.YtegcebgoiocakaaDoorA04
import Derived.Test.YtegcebgoiocakaaDoorA06
import Derived.Test.YtegcebgoiocakaaDoorA07
import Derived.BigQuiet
import Derived.BigRegion
import Derived.Deep.RegionHeldLaw
import Derived.OwnWalk
namespace Go.Proofs.YtegcebgoiocakaaDoor
open Go Go.RowKit
set_option linter.unusedVariables false
set_option maxRecDepth 20000

theorem take_snocI {es : List Int} {i : Nat} (h : i < es.length) : es.take (i + 1) = es.take i ++ [es.getD i 0] := by
  rw [List.take_succ_eq_append_getElem h]
  simp [List.getD, List.getElem?_eq_getElem h]

/-- append at the end of a region that draws, by what its run is known to give. -/
theorem step_append {P : Program} {ops : Array Oper} {o : Oper} {a : Act} {w : World} {K : Act → World → Prop} {Q : Exit → Act → World → Prop} {E : Prop} (hgd : o.guard = none) (s x : Operand) (t : TypeId)
    (ho : o.op = .call { callee := .builtin .append, args := #[s, x], argTypes := #[t, t] }) (hty : o.type = t)
    (v y v' : Value) (w' : World) (hs : a.eval s = v) (hx : a.eval x = y) (hrun : (Builtin.append_ #[t, t] t #[v, y]).run P w = .ok v' w')
    (hK : K (a.put o.dst v') w') : if Region.wanted o (yielded ops a.tmps) = true then Oper.wp P o a w K Q else E := by
  have hw : Region.wanted o (yielded ops a.tmps) = true := by simp [Region.wanted, hgd]
  rw [if_pos hw]
  subst hty
  unfold Oper.wp
  simp [execOp, ho, resolve, invoke, builtin, hs, hx, hrun, Result.andThen]
  exact hK


end Go.Proofs.YtegcebgoiocakaaDoor
/- The document's in, named, escaped. -/
namespace Go.Proofs.YtegcebgoiocakaaDoor
open Go Go.RowKit
set_option linter.unusedVariables false
set_option maxRecDepth 20000


/-- Ranges that lie in a block just made, as a row of the call's own. -/
theorem ownG_made (w : World) (s : List (Int × Int)) (hl : s.length ≤ 1000000) : (w.alloc (.cells (cellsG s).toArray 51)).ownsRow w.heap.size 51 2 (.slice (some ⟨w.heap.size, 0, none⟩) s.length s.length) s.length (cellsG s) :=
  ⟨cellsG_length s, .inr ⟨w.heap.size, s.length, _, rfl, Nat.le_refl _, heap_alloc_new w _, Nat.le_refl _, by unfold maxLen; omega, by simp [cellsG_length], by rw [← cellsG_length s]; simp⟩⟩
theorem namedS_wf (r : Int) : ∀ p ∈ namedS r, 0 ≤ p.1 ∧ p.1 ≤ p.2 ∧ p.2 ≤ 1114111 := by
  unfold namedS
  split
  · intro p hp; simp at hp; subst hp; decide
  · split
    · intro p hp; simp at hp; rcases hp with rfl | rfl | rfl | rfl <;> decide
    · split
      · intro p hp; simp at hp; rcases hp with rfl | rfl <;> decide
      · intro p hp; cases hp
theorem rowG_own9 {w : World} {B : Nat} {P : Option Addr} {q pc : Nat} {s : List (Int × Int)} (h : w.ownsRow B 51 2 (.slice P q pc) q (cellsG s)) : RowG w P q s := by
  obtain ⟨A', c', e, h, _⟩ := rowG_of_own h (by have := h.1; rw [cellsG_length] at this; omega)
  injection e with e1 _ _
  rw [e1]
  exact h
/-- The ranges that a letter has are few. -/
theorem namedS_len (r : Int) : (namedS r).length ≤ 4 := by
  unfold namedS
  (repeat' split) <;> simp

def escV (W w' : World) (e : Ending) (r : Int) : Prop :=
  match escL r with
  | none => e = .returned (.tuple #[.slice none 0 0, .bool false, .bool false])
  | some (s, is) => ∃ P q pc, e = .returned (.tuple #[.slice P q pc, .bool is, .bool true]) ∧ w'.ownsRow W.heap.size 51 2 (.slice P q pc) q (cellsG s)
theorem sign_nums : nums ⟨#[46, 94, 36, 124, 40, 41, 91, 93, 123, 125, 42, 43, 63, 92, 45]⟩ = signL := rfl
end Go.Proofs.YtegcebgoiocakaaDoor
/- The document's point: of a class, at a place. -/
namespace Go.Proofs.YtegcebgoiocakaaDoor
open Go Go.RowKit
set_option linter.unusedVariables false
set_option maxRecDepth 20000

/-- What point answers. -/
def ptV (W w' : World) (e : Ending) (l : List Int) : Prop :=
  match ptL l with
  | none => e = .returned (.tuple #[.slice none 0 0, .bool false, .int .i64 0])
  | some (s, is, rest) => ∃ (P : Option Addr) (q pc k : Nat), e = .returned (.tuple #[.slice P q pc, .bool is, .int .i64 (k : Int)]) ∧ 1 ≤ k ∧ k ≤ l.length ∧ rest = l.drop k ∧ w'.ownsRow W.heap.size 51 2 (.slice P q pc) q (cellsG s)
theorem ptV_none {W w' : World} {l : List Int} (h : ptL l = none) : ptV W w' (.returned (.tuple #[.slice none 0 0, .bool false, .int .i64 0])) l := by
  unfold ptV; rw [h]
theorem ptV_some {W w' : World} {l : List Int} {s : List (Int × Int)} {is : Bool} {rest : List Int} {P : Option Addr} {q pc k : Nat} (h : ptL l = some (s, is, rest)) (h1 : 1 ≤ k) (h2 : k ≤ l.length) (h3 : rest = l.drop k) (ho : w'.ownsRow W.heap.size 51 2 (.slice P q pc) q (cellsG s)) :
    ptV W w' (.returned (.tuple #[.slice P q pc, .bool is, .int .i64 (k : Int)])) l := by
  unfold ptV; rw [h]; exact ⟨P, q, pc, k, rfl, h1, h2, h3, ho⟩
/-- What stands for nothing of its own in a class. -/
theorem brk_nums : nums ⟨#[91, 93, 94, 45]⟩ = [91, 93, 94, 45] := rfl

end Go.Proofs.YtegcebgoiocakaaDoor
/- Points and parts of classes: what they are. -/
namespace Go.Proofs.YtegcebgoiocakaaDoor
open Go Go.RowKit
set_option linter.unusedVariables false

/-- Within the code points. -/
def WfP (s : List (Int × Int)) : Prop := ∀ p ∈ s, 0 ≤ p.1 ∧ p.1 ≤ p.2 ∧ p.2 ≤ 1114111
theorem WfP.append {s t : List (Int × Int)} (h1 : WfP s) (h2 : WfP t) : WfP (s ++ t) := fun p hp => (List.mem_append.1 hp).elim (h1 p) (h2 p)
theorem wfP_one {a b : Int} (h0 : 0 ≤ a) (h1 : a ≤ b) (h2 : b ≤ 1114111) : WfP [(a, b)] := fun p hp => by
  rw [List.mem_singleton] at hp; subst hp; exact ⟨h0, h1, h2⟩

theorem setOf_digits : setOf (fun x => !hasL (namedS 100) x) = [(0, 47), (58, 1114111)] :=
  (setOf_one (by simp [Canon, CanonF]) fun r => by
    rw [Bool.eq_iff_iff]
    simp [namedS, hasL, List.any]
    omega).symm
theorem setOf_words : setOf (fun x => !hasL (namedS 119) x) = [(0, 47), (58, 64), (91, 94), (96, 96), (123, 1114111)] :=
  (setOf_one (by simp [Canon, CanonF]) fun r => by
    rw [Bool.eq_iff_iff]
    simp [namedS, hasL, List.any]
    omega).symm
theorem setOf_spaces : setOf (fun x => !hasL (namedS 115) x) = [(0, 8), (14, 31), (33, 1114111)] :=
  (setOf_one (by simp [Canon, CanonF]) fun r => by
    rw [Bool.eq_iff_iff]
    simp [namedS, hasL, List.any]
    omega).symm

/-- What stands behind a backslash: at most five ranges; a point is one number. -/
theorem escL_is {r : Int} {s : List (Int × Int)} {is : Bool} (h : escL r = some (s, is)) : WfP s ∧ s.length ≤ 5 ∧ (is = true → ∃ x, s = [(x, x)]) := by
  unfold escL at h
  split at h
  · rename_i hr
    injection h with h; injection h with h1 h2
    subst h1; subst h2
    refine ⟨?_, ?_, fun h => by cases h⟩
    · rcases hr with rfl | rfl | rfl <;> intro p hp <;> simp [namedS] at hp <;> first | (rcases hp with rfl | rfl | rfl | rfl <;> decide) | (rcases hp with rfl | rfl <;> decide) | (subst hp; decide)
    · rcases hr with rfl | rfl | rfl <;> decide
  split at h
  · rename_i hr
    injection h with h; injection h with h1 h2
    subst h1; subst h2
    rcases hr with rfl | rfl | rfl
    · rw [show (68 : Int) + 32 = 100 from rfl, setOf_digits]
      exact ⟨by intro p hp; simp at hp; rcases hp with rfl | rfl <;> decide, by decide, fun h => by cases h⟩
    · rw [show (87 : Int) + 32 = 119 from rfl, setOf_words]
      exact ⟨by intro p hp; simp at hp; rcases hp with rfl | rfl | rfl | rfl | rfl <;> decide, by decide, fun h => by cases h⟩
    · rw [show (83 : Int) + 32 = 115 from rfl, setOf_spaces]
      exact ⟨by intro p hp; simp at hp; rcases hp with rfl | rfl | rfl <;> decide, by decide, fun h => by cases h⟩
  split at h
  · injection h with h; injection h with h1 h2; subst h1; exact ⟨wfP_one (by decide) (by decide) (by decide), by simp, fun _ => ⟨_, rfl⟩⟩
  split at h
  · injection h with h; injection h with h1 h2; subst h1; exact ⟨wfP_one (by decide) (by decide) (by decide), by simp, fun _ => ⟨_, rfl⟩⟩
  split at h
  · injection h with h; injection h with h1 h2; subst h1; exact ⟨wfP_one (by decide) (by decide) (by decide), by simp, fun _ => ⟨_, rfl⟩⟩
  split at h
  · rename_i hs
    injection h with h; injection h with h1 h2; subst h1
    simp [signL] at hs
    exact ⟨wfP_one (by omega) (by omega) (by omega), by simp, fun _ => ⟨_, rfl⟩⟩
  · cases h
/-- A point of a class. -/
theorem ptL_is {l : List Int} (hl : ∀ x ∈ l, 0 ≤ x ∧ x ≤ 1114111) {s : List (Int × Int)} {is : Bool} {rest : List Int} (h : ptL l = some (s, is, rest)) : WfP s ∧ s.length ≤ 5 ∧ (is = true → ∃ x, s = [(x, x)]) ∧ ∃ k, 1 ≤ k ∧ k ≤ l.length ∧ rest = l.drop k := by
  rcases l with _ | ⟨r, l⟩
  · cases h
  unfold ptL at h
  dsimp only at h
  split at h
  · cases h
  split at h
  · rcases l with _ | ⟨e, l⟩
    · cases h
    · dsimp only at h
      rcases he : escL e with _ | ⟨t, b⟩
      · rw [he] at h; cases h
      · rw [he] at h
        injection h with h; injection h with h1 h2; injection h2 with h2 h3
        subst h1; subst h2; subst h3
        obtain ⟨a, b, c⟩ := escL_is he
        exact ⟨a, b, c, 2, by omega, by simp, rfl⟩
  · injection h with h; injection h with h1 h2; injection h2 with h2 h3
    subst h1; subst h2; subst h3
    have := hl r (List.mem_cons_self ..)
    exact ⟨wfP_one this.1 (Int.le_refl _) this.2, by simp, fun _ => ⟨_, rfl⟩, 1, by omega, by simp, rfl⟩

theorem partsL_shut (f : Nat) (r : List Int) (xs : List (Int × Int)) : partsL (f + 1) (93 :: r) xs true = some (xs, r) := rfl
theorem partsL_part (f : Nat) {l : List Int} (xs : List (Int × Int)) {more : Bool} (h : ¬ (more = true ∧ l.headD 0 = 93)) :
    partsL (f + 1) l xs more = match partL l with
      | none => none
      | some (s, l1) => partsL f l1 (xs ++ s) true := by
  rw [partsL]
  · rcases partL l with _ | ⟨s, l1⟩ <;> rfl
  · intro l' hm hl
    exact h ⟨hm, by rw [hl]; rfl⟩
theorem partL_none {l : List Int} (h : ptL l = none) : partL l = none := by unfold partL; rw [h]
theorem partL_plain {l : List Int} {s : List (Int × Int)} {is : Bool} {l1 : List Int} (h : ptL l = some (s, is, l1)) (h2 : is = false ∨ l1.headD 0 ≠ 45) : partL l = some (s, l1) := by
  unfold partL
  rw [h]
  dsimp only
  split
  · rename_i l2
    rcases h2 with h2 | h2
    · rw [if_neg (by rw [h2]; exact Bool.noConfusion)]
    · exact absurd rfl h2
  · rfl
theorem partL_dash {l : List Int} {x : Int} {l2 : List Int} (h : ptL l = some ([(x, x)], true, 45 :: l2)) : partL l = match ptL l2 with
    | some (t, true, l3) => if (t.headD (0, 0)).1 < x then none else some ([(x, (t.headD (0, 0)).1)], l3)
    | _ => none := by
  unfold partL
  rw [h]
  rfl
end Go.Proofs.YtegcebgoiocakaaDoor
