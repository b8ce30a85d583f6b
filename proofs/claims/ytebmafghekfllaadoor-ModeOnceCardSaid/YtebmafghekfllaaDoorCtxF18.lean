/- What is told by context, of all rows at once: pure. -/
import Derived.Test.YtebmafghekfllaaDoorNear18
import Derived.Test.YtebmafghekfllaaDoorDig18
namespace Go.Proofs.YtebmafghekfllaaDoor
open Go Go.RowKit
set_option linter.unusedVariables false
/-- Texts as records of one cell. -/
def strs (xs : List ByteArray) : List (List Value) := xs.map fun s => [.string s]
theorem strs_append (xs ys : List ByteArray) : strs (xs ++ ys) = strs xs ++ strs ys := by simp [strs]
theorem strs_length (xs : List ByteArray) : (strs xs).length = xs.length := by simp [strs]
theorem swide (s : ByteArray) : ([.string s] : List Value).length = 1 ∧ ∀ u ∈ ([.string s] : List Value), u.oneCell' = true := ⟨rfl, fun u hu => by rw [List.mem_singleton] at hu; subst hu; rfl⟩
theorem info_str : (Tryd.prog.info? 9).map (fun i => (i.zero, i.size, i.bytes)) = some (some (.string ⟨#[]⟩), 1, 16) := by kernel_rfl
/-- Is the row at i told? -/
def tellB (l : List Rw) (b a : Nat) (i : Nat) : Bool := hitB l i || nearB l ((i : Int) - (a : Int)) ((i : Int) - 1) || nearB l ((i : Int) + 1) ((i : Int) + (b : Int))
/-- A row's line: a hyphen, or a colon. -/
def lineS (x : Rw) (hit : Bool) : ByteArray := itoaS x.n ++ (if hit = true then ⟨#[58]⟩ else ⟨#[45]⟩) ++ x.tx
/-- The number behind a number, as ints go round. -/
def succI (n : Int) : Int := RowKit.wrap64 (n + 1)
/-- Does a line of hyphens stand ahead of the row at i, where the row at j was told last? -/
def sepB (l : List Rw) (i : Nat) : Option Nat → Bool
  | none => false
  | some j => match l[i]?, l[j]? with | some x, some y => decide (x.n ≠ succI y.n) | _, _ => false
def stepC (l : List Rw) (b a : Nat) (s : List ByteArray × Option Nat) (i : Nat) : List ByteArray × Option Nat :=
  if tellB l b a i = true then
    match l[i]? with
    | some x => (s.1 ++ (if sepB l i s.2 = true then [⟨#[45, 45]⟩] else []) ++ [lineS x (hitB l i)], some i)
    | none => s
  else s
def ctxS (l : List Rw) (b a k : Nat) : List ByteArray × Option Nat := (List.range k).foldl (stepC l b a) ([], none)
theorem ctxS_succ (l : List Rw) (b a k : Nat) : ctxS l b a (k + 1) = stepC l b a (ctxS l b a k) k := by
  unfold ctxS
  rw [List.range_succ, List.foldl_append]
  rfl
def ctxL (l : List Rw) (b a : Nat) : List ByteArray := (ctxS l b a l.length).1
theorem ctxS_last (l : List Rw) (b a : Nat) : ∀ k j, (ctxS l b a k).2 = some j → j < k
  | 0, j, h => by cases h
  | k + 1, j, h => by
    rw [ctxS_succ] at h
    unfold stepC at h
    split at h
    · split at h
      · injection h with h; omega
      · have := ctxS_last l b a k j h; omega
    · have := ctxS_last l b a k j h; omega
theorem ctxS_len (l : List Rw) (b a : Nat) : ∀ k, (ctxS l b a k).1.length ≤ 2 * k
  | 0 => by simp [ctxS]
  | k + 1 => by
    have := ctxS_len l b a k
    rw [ctxS_succ]
    unfold stepC
    split
    · split
      · simp only [List.length_append, List.length_singleton]
        split <;> simp <;> omega
      · omega
    · omega
theorem hitB_dec {l : List Rw} {i : Nat} {x : Rw} (h : l[i]? = some x) : decide (0 < (goodH x).length) = hitB l i := by
  unfold hitB
  rw [h]
  show _ = !(goodH x).isEmpty
  generalize goodH x = y
  cases y <;> simp
theorem step_no {l : List Rw} {b a i : Nat} (h : tellB l b a i = false) : ctxS l b a (i + 1) = ctxS l b a i := by
  rw [ctxS_succ, stepC, h, if_neg (by decide)]
theorem step_yes {l : List Rw} {b a i : Nat} {x : Rw} (hx : l[i]? = some x) (h : tellB l b a i = true) {out : List ByteArray} {last : Option Nat} (hs : ctxS l b a i = (out, last)) :
    ctxS l b a (i + 1) = (out ++ (if sepB l i last = true then [⟨#[45, 45]⟩] else []) ++ [lineS x (hitB l i)], some i) := by
  rw [ctxS_succ, stepC, h, if_pos rfl, hx, hs]
theorem lineS_size (x : Rw) (hit : Bool) (h0 : -9223372036854775808 ≤ x.n) (h1 : x.n ≤ 9223372036854775807) (hx : x.tx.size ≤ 60) : (itoaS x.n).size ≤ 21 ∧ (lineS x hit).size ≤ 100 := by
  have h2 := itoaS_size_any x.n h0 h1
  refine ⟨h2, ?_⟩
  unfold lineS
  rw [ByteArray.size_append, ByteArray.size_append]
  have h3 : (if hit = true then (⟨#[58]⟩ : ByteArray) else ⟨#[45]⟩).size = 1 := by cases hit <;> rfl
  omega
def lastI : Option Nat → Int
  | none => -1
  | some j => (j : Int)
end Go.Proofs.YtebmafghekfllaaDoor
