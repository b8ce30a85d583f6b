/- What the calls of package set are to answer, as one condition; the document's example. -/
import Derived.Test.YtiiclhkibpmgmaaRngO
import Derived.Test.YtiiclhkibpmgmaaRngR
import Derived.Test.YtiiclhkibpmgmaaRngE
namespace Go.Proofs.Ytiiclhkibpmgmaa
open Go Go.RowKit
set_option linter.unusedVariables false

/-- An answer that is new: a row of ranges. -/
def OutG (W w' : World) (V : Value) (t : List (Int × Int)) : Prop := w'.ownsRow W.heap.size 39 2 V t.length (cellsG t) ∧ Below W.heap.size W w'
def inR (r : Int) : Bool := decide (0 ≤ r ∧ r ≤ 1114111)

theorem CanonF.wf : ∀ {s : List (Int × Int)} {lo : Int}, 0 ≤ lo → CanonF lo s → ∀ p ∈ s, 0 ≤ p.1 ∧ p.1 ≤ p.2 ∧ p.2 ≤ 1114111
  | [], _, _, _, _, hp => by cases hp
  | q :: s, lo, h0, ⟨h1, h2, h3, h4⟩, p, hp => by
    rcases List.mem_cons.1 hp with rfl | hp
    · exact ⟨by omega, h2, h3⟩
    · exact CanonF.wf (by omega) h4 p hp
theorem CanonF.len : ∀ {s : List (Int × Int)} {lo : Int}, 0 ≤ lo → CanonF lo s → 2 * (s.length : Int) + lo ≤ 1114113 + lo % 1 ∨ s = []
  | [], _, _, _ => .inr rfl
  | q :: s, lo, h0, ⟨h1, h2, h3, h4⟩ => by
    left
    rcases CanonF.len (by omega) h4 with h | h
    · rw [List.length_cons]; omega
    · rw [h]; simp; omega
theorem Canon.small {s : List (Int × Int)} (h : Canon s) : s.length ≤ 600000 := by
  rcases CanonF.len (Int.le_refl _) h with h1 | h1
  · omega
  · rw [h1]; simp
theorem wf_small {x : Int} (h : -1000000000 ≤ x ∧ x ≤ 1000000000) : (Lit.int .i64 x).wf = true := by
  simp [Lit.wf, IntKind.min, IntKind.max, IntKind.signed, IntKind.bits]
  omega
theorem Canon.wf {s : List (Int × Int)} (h : Canon s) : ∀ p ∈ s, (Lit.int .i64 p.1).wf = true ∧ (Lit.int .i64 p.2).wf = true := fun p hp => by
  have := CanonF.wf (Int.le_refl _) h p hp
  exact ⟨wf_small (by omega), wf_small (by omega)⟩
theorem inG_of_own {w : World} {B : Nat} {V : Value} {s : List (Int × Int)} (h : w.ownsRow B 39 2 V s.length (cellsG s)) (hw : ∀ p ∈ s, (Lit.int .i64 p.1).wf = true ∧ (Lit.int .i64 p.2).wf = true) : ∃ A c, V = .slice A s.length c ∧ InG w A s.length c s := by
  obtain ⟨A, c, rfl, h1, h2, h3⟩ := rowG_of_own h rfl
  refine ⟨A, c, rfl, h1, h2, h3, fun hA => ?_, hw⟩
  rcases h.2 with ⟨e, h0⟩ | ⟨g, cap, cur, e, _⟩
  · injection e with e1 e2 e3
    exact ⟨h0, e3⟩
  · injection e with e1 _ _
    rw [hA] at e1
    cases e1
section
variable {w w' : World} {A : Option Addr} {n c : Nat} {s : List (Int × Int)}
theorem InG.below (h : InG w A n c s) (hb : Below w.heap.size w w') : InG w' A n c s := ⟨h.1.below hb (Nat.le_refl _), h.2⟩
theorem InG.row (h : InG w A n c s) : RowG w A n s := h.1
theorem InG.drewN (h : InG w A n c s) (q : Nat) : InG (w.drewN q) A n c s := ⟨h.1.drewN q, h.2⟩
end
theorem canon_out {W w' : World} {V : Value} {t : List (Int × Int)} (h : OutG W w' V t) (hc : Canon t) : ∃ A c, V = .slice A t.length c ∧ InG w' A t.length c t ∧ t.length ≤ 600000 := by
  obtain ⟨A, c, h1, h2⟩ := inG_of_own h.1 hc.wf
  exact ⟨A, c, h1, h2, hc.small⟩

/-- What the calls answer. -/
structure Faces : Prop where
  of : ∀ (w : World) (A : Option Addr) (n c : Nat) (s : List (Int × Int)), InG w A n c s → n ≤ 1000000 →
    Calls Try.prog 9 #[.slice A n c] w fun e w' => ∃ V t, e = .returned V ∧ OutG w w' V t ∧ Canon t ∧ ∀ r, hasL t r = hasL s r
  right : ∀ (w : World) (A : Option Addr) (n c : Nat) (s : List (Int × Int)), InG w A n c s → n ≤ 1000000 →
    Calls Try.prog 11 #[.slice A n c] w fun e w' => e = .returned (.bool (canonB 0 s)) ∧ Below w.heap.size w w'
  has : ∀ (w : World) (A : Option Addr) (n c : Nat) (s : List (Int × Int)) (r : Int), InG w A n c s → n ≤ 1000000 →
    Calls Try.prog 15 #[.slice A n c, .int .i64 r] w fun e w' => e = .returned (.bool (hasL s r)) ∧ Below w.heap.size w w'
  no : ∀ (w : World) (A : Option Addr) (n c : Nat) (s : List (Int × Int)), InG w A n c s → n ≤ 1000000 →
    Calls Try.prog 16 #[.slice A n c] w fun e w' => ∃ V t, e = .returned V ∧ OutG w w' V t ∧ Canon t ∧ ∀ r, hasL t r = (inR r && !hasL s r)
  or : ∀ (w : World) (A D : Option Addr) (n c m d : Nat) (s t : List (Int × Int)), InG w A n c s → InG w D m d t → n ≤ 600000 → m ≤ 600000 →
    Calls Try.prog 17 #[.slice A n c, .slice D m d] w fun e w' => ∃ V u, e = .returned V ∧ OutG w w' V u ∧ Canon u ∧ ∀ r, hasL u r = (hasL s r || hasL t r)
  and : ∀ (w : World) (A D : Option Addr) (n c m d : Nat) (s t : List (Int × Int)), InG w A n c s → InG w D m d t → n ≤ 600000 → m ≤ 600000 →
    Calls Try.prog 18 #[.slice A n c, .slice D m d] w fun e w' => ∃ V u, e = .returned V ∧ OutG w w' V u ∧ Canon u ∧ ∀ r, hasL u r = (hasL s r && hasL t r)
  count : ∀ (w : World) (A : Option Addr) (n c : Nat) (s t : List (Int × Int)), InG w A n c s → n ≤ 1000000 → Canon t → (∀ r, hasL t r = hasL s r) →
    Calls Try.prog 22 #[.slice A n c] w fun e w' => e = .returned (.int .i64 (countL t)) ∧ Below w.heap.size w w'
  only : ∀ (w : World) (A : Option Addr) (n c : Nat) (s t : List (Int × Int)), InG w A n c s → n ≤ 1000000 → Canon t → (∀ r, hasL t r = hasL s r) →
    Calls Try.prog 21 #[.slice A n c] w fun e w' => ∃ x, e = .returned (.tuple #[.int .i64 x, .bool (decide (countL t = 1))]) ∧ (countL t = 1 → hasL s x = true) ∧ (countL t ≠ 1 → x = 0) ∧ Below w.heap.size w w'
  named : ∀ (w : World) (c : Int), 0 ≤ c → c < 256 →
    Calls Try.prog 19 #[.int .u8 c] w fun e w' => ∃ V t, e = .returned (.tuple #[V, .bool (namedL c 0).2]) ∧ OutG w w' V t ∧ Canon t ∧ ((namedL c 0).2 = false → t = []) ∧ ((namedL c 0).2 = true → ∀ r, hasL t r = (inR r && (namedL c r).1))

theorem awake_set (t : List (Int × Int)) (h : Canon t) (he : ∀ r, hasL t r = hasL [(97, 99), (98, 101), (102, 102)] r) : t = [(97, 102)] := by
  refine canon_one h ⟨by decide, by decide, by decide, trivial⟩ fun r => ?_
  rw [he r]
  simp only [hasL_cons, hasL_nil, Bool.or_false]
  rw [← Bool.decide_or, ← Bool.decide_or]
  apply decide_eq_decide.2
  omega
end Go.Proofs.Ytiiclhkibpmgmaa
