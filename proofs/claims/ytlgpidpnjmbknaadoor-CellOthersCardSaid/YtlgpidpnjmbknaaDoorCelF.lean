/- What a cell answers, of any representation; a law's cell behind a world; reports as a list. -/
import Derived.Test.YtlgpidpnjmbknaaDoorRec
namespace Go.Proofs.YtlgpidpnjmbknaaDoor
open Go Go.RowKit
set_option linter.unusedVariables false
set_option maxRecDepth 20000

/-- A report, or what a cell keeps: a cause, a note, when. -/
abbrev Rep := Int × ByteArray × Int
def zeroR : Rep := (0, ⟨#[]⟩, 0)
/-- What is kept, behind one report more; what it answers; how many were counted. -/
def repK (s : Rep) (x : Rep) : Rep := if s.1 = 0 ∧ x.1 ≠ 0 then x else s
def repB (s : Rep) (x : Rep) : Bool := (s.1 == 0) && !(x.1 == 0)
def repN (n : Int) (x : Rep) : Int := if x.1 = 0 then n else n + 1
/-- Behind a list of reports. -/
def keptL (xs : List Rep) : Rep := xs.foldl repK zeroR
def countL16 (xs : List Rep) : Int := xs.foldl repN 0
theorem keptL_snoc (xs : List Rep) (x : Rep) : keptL (xs ++ [x]) = repK (keptL xs) x := by simp [keptL]
theorem countL16_snoc (xs : List Rep) (x : Rep) : countL16 (xs ++ [x]) = repN (countL16 xs) x := by simp [countL16]
theorem countL16_gen : ∀ (xs : List Rep) (n : Int), n ≤ xs.foldl repN n ∧ xs.foldl repN n ≤ n + xs.length
  | [], n => by simp
  | x :: xs, n => by
    have ih := countL16_gen xs (repN n x)
    have h : n ≤ repN n x ∧ repN n x ≤ n + 1 := by unfold repN; split <;> omega
    rw [List.foldl_cons, List.length_cons]
    omega
theorem countL16_le (xs : List Rep) : 0 ≤ countL16 xs ∧ countL16 xs ≤ xs.length := by
  have := countL16_gen xs 0
  unfold countL16
  omega
/-- How a cell lies in memory: in which blocks, at which one; what it keeps, how many it counted. -/
abbrev CelP := World → (Nat → Prop) → Nat → Rep → Int → Prop
structure CelF (P : CelP) : Prop where
  fr : ∀ {w w' : World} {F : Nat → Prop} {g : Nat} {s : Rep} {n : Int}, P w F g s n → (∀ k, F k → w'.heap[k]? = w.heap[k]?) → w.heap.size ≤ w'.heap.size → P w' F g s n
  low : ∀ {w : World} {F : Nat → Prop} {g : Nat} {s : Rep} {n : Int}, P w F g s n → ∀ k, F k → k < w.heap.size
  new : ∀ w, Calls Tryd.prog 9 #[] w fun e w' => ∃ g F, e = .returned (.pointer (some ⟨g, 0, none⟩)) ∧ P w' F g zeroR 0 ∧ Below w.heap.size w w' ∧ ∀ k, F k → w.heap.size ≤ k
  rep : ∀ {w : World} {F : Nat → Prop} {g : Nat} {s : Rep} {n : Int} (x : Rep), P w F g s n → 0 ≤ n → n ≤ 1000000 →
    Calls Tryd.prog 10 #[.pointer (some ⟨g, 0, none⟩), .int .i64 x.1, .string x.2.1, .int .i64 x.2.2] w fun e w' => e = .returned (.bool (repB s x)) ∧ ∃ F', P w' F' g (repK s x) (repN n x) ∧ Step F F' w w'
  cau : ∀ {w : World} {F : Nat → Prop} {g : Nat} {s : Rep} {n : Int}, P w F g s n → Calls Tryd.prog 11 #[.pointer (some ⟨g, 0, none⟩)] w fun e w' => e = .returned (.int .i64 s.1) ∧ ∃ q, w' = w.drewN q
/-- A cell all of whose memory is behind a world. -/
def CelS (P : CelP) (w0 w : World) (g : Nat) (s : Rep) (n : Int) : Prop := ∃ F, P w F g s n ∧ Below w0.heap.size w0 w ∧ ∀ k, F k → w0.heap.size ≤ k
section
variable {P : CelP} {w0 w w' : World} {g : Nat} {s : Rep} {n : Int}
theorem CelS.to (h : CelS P w0 w g s n) : Below w0.heap.size w0 w := by
  obtain ⟨F, _, h, _⟩ := h
  exact h
variable (T : CelF P)
include T
theorem cel_below (h : CelS P w0 w g s n) (hb : Below w.heap.size w w') : CelS P w0 w' g s n := by
  obtain ⟨F, hp, ht, hl⟩ := h
  exact ⟨F, T.fr hp (fun k hk => hb.block k (T.low hp k hk)) hb.size, ht.trans (hb.mono ht.size), hl⟩
theorem cel_drewN (h : CelS P w0 w g s n) (q : Nat) : CelS P w0 (w.drewN q) g s n := cel_below T h (below_drewN (Below.refl _ _) q)
theorem cel_new (w0 : World) {w : World} (hb : Below w0.heap.size w0 w) : Calls Tryd.prog 9 #[] w fun e w' => ∃ g, e = .returned (.pointer (some ⟨g, 0, none⟩)) ∧ CelS P w0 w' g zeroR 0 :=
  (T.new w).mono fun e w' h => by
    obtain ⟨g, F, he, hp, hb', hf⟩ := h
    exact ⟨g, he, F, hp, hb.trans (hb'.mono hb.size), fun k hk => Nat.le_trans hb.size (hf k hk)⟩
theorem cel_rep (h : CelS P w0 w g s n) (x : Rep) (h0 : 0 ≤ n) (h1 : n ≤ 1000000) : Calls Tryd.prog 10 #[.pointer (some ⟨g, 0, none⟩), .int .i64 x.1, .string x.2.1, .int .i64 x.2.2] w fun e w' => e = .returned (.bool (repB s x)) ∧ CelS P w0 w' g (repK s x) (repN n x) := by
  obtain ⟨F, hp, ht, hl⟩ := h
  refine (T.rep x hp h0 h1).mono fun e w' hh => ?_
  obtain ⟨he, F', hp', hs⟩ := hh
  exact ⟨he, F', hp', ht.trans (hs.1.below hl ht.size), fun k hk => (hs.2 k hk).elim (hl k) (Nat.le_trans ht.size)⟩
/-- Reading is quiet, at any draw. -/
theorem cel_cau (h : CelS P w0 w g s n) (q : Nat) : Calls Tryd.prog 11 #[.pointer (some ⟨g, 0, none⟩)] (w.drewN q) fun e w' => e = .returned (.int .i64 s.1) ∧ ∃ m, w' = w.drewN m := by
  obtain ⟨F, hp, _⟩ := cel_drewN T h q
  refine (T.cau hp).mono fun e w' hh => ?_
  obtain ⟨he, m, rfl⟩ := hh
  exact ⟨he, q + m, World.drewN_drewN _ _ _⟩
end
end Go.Proofs.YtlgpidpnjmbknaaDoor
