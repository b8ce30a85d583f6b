/- Words on memory that hang on no type: what stays, rows whose elements have several cells, append, taking out. -/
import Derived.Test.YtebmafghekfllaaDoorRows
import Derived.WalkKit
import Derived.ProofKit
import Derived.OpenShut
import Derived.Handy
import Derived.Lib.Hide
import Derived.IntWalk
import Derived.Below
import Derived.Laws.OwnMore
import Derived.Deep.AppendLies
import Derived.Deep.Draws
import Derived.WalkSpells
import Derived.Maps.AppendAt
import Derived.Deep.OwnRows
import Derived.BigQuiet
import Derived.BigRegion
import Derived.Deep.RegionLaw
import Derived.Deep.RegionHeldLaw
import Derived.Lib.SliceRun
import Derived.Tactics
namespace Go.Proofs.YtebmafghekfllaaDoor
open Go Go.RowKit
set_option linter.unusedVariables false

theorem below_drewN {B : Nat} {a w : World} (h : Below B a w) (q : Nat) : Below B a (w.drewN q) := ⟨h.os, h.tape, h.output, h.size, h.block⟩

theorem at_new (w : World) (o : Obj) {g : Nat} (hg : g = w.heap.size) : (w.alloc o).heap[g]? = some o := by subst hg; exact heap_alloc_new w o
theorem at_up {w : World} {g : Nat} {o : Obj} (h : w.heap[g]? = some o) (o' : Obj) : (w.alloc o').heap[g]? = some o := by
  have hlt : g < w.heap.size := by
    rcases Nat.lt_or_ge g w.heap.size with hlt | hge
    · exact hlt
    · rw [Array.getElem?_eq_none hge] at h; cases h
  exact (Below.heap_alloc w o' g hlt).trans h

/-- append, by what its run is known to give. -/
theorem wpList_append_run {P : Program} {w : World} {ops : Array Oper} {rest : List Oper} {o : Oper} {a : Act} {Q : Exit → Act → World → Prop} (hgd : o.guard = none) (s x : Operand) (t : TypeId)
    (ho : o.op = .call { callee := .builtin .append, args := #[s, x], argTypes := #[t, t] }) (hty : o.type = t)
    (v y v' : Value) (w' : World) (hs : a.eval s = v) (hx : a.eval x = y) (hrun : (Builtin.append_ #[t, t] t #[v, y]).run P w = .ok v' w')
    (h : wpList P ops Q rest (a.put o.dst v') w') : wpList P ops Q (o :: rest) a w := by
  subst hty
  refine wpList_plain hgd fun K hK => ?_
  unfold Oper.wp
  simp [execOp, ho, resolve, invoke, builtin, hs, hx, hrun, Result.andThen]
  exact hK _ _ h
/-- But for the blocks of F, nothing that was there has turned. -/
structure Moved (F : Nat → Prop) (w w' : World) : Prop where
  os : w'.os = w.os
  tape : w'.tape = w.tape
  output : w'.output = w.output
  size : w.heap.size ≤ w'.heap.size
  block : ∀ k, k < w.heap.size → ¬ F k → w'.heap[k]? = w.heap[k]?
/-- The blocks of F, and new ones. -/
def Step (F F' : Nat → Prop) (w w' : World) : Prop := Moved F w w' ∧ ∀ k, F' k → F k ∨ w.heap.size ≤ k

section
variable {F F' F'' : Nat → Prop} {a b c w w' : World}
theorem Moved.refl (F : Nat → Prop) (w : World) : Moved F w w := ⟨rfl, rfl, rfl, Nat.le_refl _, fun _ _ _ => rfl⟩
theorem Moved.drewN (h : Moved F w w') (q : Nat) : Moved F w (w'.drewN q) := ⟨h.os, h.tape, h.output, h.size, h.block⟩
theorem Moved.drew (h : Moved F w w') : Moved F w w'.drew := ⟨h.os, h.tape, h.output, h.size, h.block⟩
theorem Moved.alloc (h : Moved F w w') (o : Obj) : Moved F w (w'.alloc o) :=
  ⟨h.os, h.tape, h.output, Nat.le_trans h.size (by simp), fun k hk hf => (Below.heap_alloc w' o k (Nat.lt_of_lt_of_le hk h.size)).trans (h.block k hk hf)⟩
theorem Moved.setCell (h : Moved F w w') {p : Addr} (hp : F p.block ∨ w.heap.size ≤ p.block) (u : Value) : Moved F w (w'.setCell p u) :=
  ⟨h.os, h.tape, h.output, by simpa [World.setCell] using h.size, fun k hk hf => (Below.heap_setCell w' p u k (fun e => by
    subst e
    rcases hp with hp | hp
    · exact hf hp
    · omega)).trans (h.block k hk hf)⟩
theorem Moved.grown (h : Moved F w w') {w'' : World} {row : Option Nat} (hg : w'.grownBy w'' row) (hr : ∀ k, row = some k → F k ∨ w.heap.size ≤ k) : Moved F w w'' :=
  ⟨hg.os.trans h.os, hg.tape.trans h.tape, hg.output.trans h.output, Nat.le_trans h.size hg.size, fun k hk hf => (hg.block k (Nat.lt_of_lt_of_le hk h.size) (fun e => by
    rcases hr k e.symm with h1 | h1
    · exact hf h1
    · omega)).trans (h.block k hk hf)⟩
theorem Moved.trans (h : Step F F' a b) (k : Moved F' b c) : Moved F a c :=
  ⟨k.os.trans h.1.os, k.tape.trans h.1.tape, k.output.trans h.1.output, Nat.le_trans h.1.size k.size, fun i hi hf => (k.block i (Nat.lt_of_lt_of_le hi h.1.size) (fun e => by
    rcases h.2 i e with h1 | h1
    · exact hf h1
    · omega)).trans (h.1.block i hi hf)⟩
theorem Step.refl (F : Nat → Prop) (w : World) : Step F F w w := ⟨Moved.refl _ _, fun _ h => .inl h⟩
theorem Step.drewN (h : Step F F' w w') (q : Nat) : Step F F' w (w'.drewN q) := ⟨h.1.drewN q, h.2⟩
theorem Step.trans (h : Step F F' a b) (k : Step F' F'' b c) : Step F F'' a c :=
  ⟨Moved.trans h k.1, fun i hi => by
    rcases k.2 i hi with h1 | h1
    · exact h.2 i h1
    · exact .inr (Nat.le_trans h.1.size h1)⟩
theorem Moved.below (h : Moved F w w') {B : Nat} (hF : ∀ k, F k → B ≤ k) (hB : B ≤ w.heap.size) : Below B w w' :=
  ⟨h.os, h.tape, h.output, h.size, fun k hk => h.block k (by omega) (fun e => by have := hF k e; omega)⟩
theorem Moved.of_below (h : Below w.heap.size w w') (F : Nat → Prop) : Moved F w w' := ⟨h.os, h.tape, h.output, h.size, fun k hk _ => h.block k hk⟩
end

section
variable {w w' : World} {B : Nat} {e : TypeId} {s : Nat} {v : Value} {n : Nat} {xs : List Value}
/-- A row stays where its block stays. -/
theorem row_keep (h : w.ownsRow B e s v n xs) (hk : ∀ k, k < w.heap.size → v.ownBlock = some k → w'.heap[k]? = w.heap[k]?) : w'.ownsRow B e s v n xs := by
  refine ⟨h.1, ?_⟩
  rcases h.2 with h2 | ⟨g, cap, cur, rfl, hbg, hg, hr⟩
  · exact .inl h2
  · exact .inr ⟨g, cap, cur, rfl, hbg, (hk g (Array.getElem?_eq_some_iff.1 hg).1 rfl).trans hg, hr⟩
theorem row_base (h : w.ownsRow B e s v n xs) {B' : Nat} (hB : ∀ k, v.ownBlock = some k → B' ≤ k) : w.ownsRow B' e s v n xs := by
  refine ⟨h.1, ?_⟩
  rcases h.2 with h2 | ⟨g, cap, cur, rfl, hbg, hg⟩
  · exact .inl h2
  · exact .inr ⟨g, cap, cur, rfl, hB g rfl, hg⟩
theorem row_moved {F : Nat → Prop} (h : w.ownsRow B e s v n xs) (hm : Moved F w w') (hf : ∀ k, v.ownBlock = some k → ¬ F k) : w'.ownsRow B e s v n xs :=
  row_keep h fun k hk hv => hm.block k hk (hf k hv)
theorem row_lt (h : w.ownsRow B e s v n xs) {k : Nat} (hk : v.ownBlock = some k) : B ≤ k ∧ k < w.heap.size := by
  rcases h.2 with ⟨rfl, _⟩ | ⟨g, cap, cur, rfl, hbg, hg, _⟩
  · cases hk
  · injection hk with hk
    subst hk
    exact ⟨hbg, (Array.getElem?_eq_some_iff.1 hg).1⟩
/-- Rows of different types lie in different blocks. -/
theorem row_ne_blk (h : w.ownsRow B e s v n xs) {g : Nat} {cs : Array Value} {t : TypeId} {f : Nat × Nat} (hg : w.heap[g]? = some (.cells cs t f)) (hne : e ≠ t) : v.ownBlock ≠ some g := by
  rcases h.2 with ⟨rfl, _⟩ | ⟨b, cap, cur, rfl, hb, hr, _⟩
  · simp [Value.ownBlock]
  · simp [Value.ownBlock]
    rintro rfl
    rw [hr] at hg
    injection hg with hg
    injection hg with _ ht _
    exact hne ht
theorem row_ne_row {B' : Nat} {e' : TypeId} {s' : Nat} {v' : Value} {n' : Nat} {xs' : List Value} (h : w.ownsRow B e s v n xs) (h' : w.ownsRow B' e' s' v' n' xs') (hne : e ≠ e') {k : Nat} (hk : v'.ownBlock = some k) : v.ownBlock ≠ some k := by
  rcases h'.2 with ⟨rfl, _⟩ | ⟨b, cap, cur, rfl, hb, hr, _⟩
  · cases hk
  · injection hk with hk
    subst hk
    exact row_ne_blk h hr hne
end

/-- append in a region that draws, by what its run is known to give. -/
theorem step_append_run {P : Program} {ops : Array Oper} {o : Oper} {a : Act} {w : World} {K : Act → World → Prop} {Q : Exit → Act → World → Prop} {E : Prop} (hgd : o.guard = none) (s x : Operand) (t : TypeId)
    (ho : o.op = .call { callee := .builtin .append, args := #[s, x], argTypes := #[t, t] }) (hty : o.type = t)
    (v y v' : Value) (w' : World) (hs : a.eval s = v) (hx : a.eval x = y) (hrun : (Builtin.append_ #[t, t] t #[v, y]).run P w = .ok v' w')
    (hK : K (a.put o.dst v') w') : if Region.wanted o (yielded ops a.tmps) = true then Oper.wp P o a w K Q else E := by
  have hw : Region.wanted o (yielded ops a.tmps) = true := by simp [Region.wanted, hgd]
  rw [if_pos hw]
  subst hty
  unfold Oper.wp
  simp [execOp, ho, resolve, invoke, builtin, hs, hx, hrun, Result.andThen]
  exact hK


/-- Elements of s cells each. -/
def Wide (s : Nat) (xs : List (List Value)) : Prop := ∀ x ∈ xs, x.length = s ∧ ∀ u ∈ x, u.oneCell' = true
theorem wide_nil (s : Nat) : Wide s [] := fun _ h => by cases h
theorem Wide.append {s : Nat} {xs ys : List (List Value)} (h : Wide s xs) (k : Wide s ys) : Wide s (xs ++ ys) := fun x hx => by
  rcases List.mem_append.1 hx with h1 | h1
  · exact h x h1
  · exact k x h1
theorem Wide.sub {s : Nat} {xs ys : List (List Value)} (h : Wide s xs) (k : ∀ x ∈ ys, x ∈ xs) : Wide s ys := fun x hx => h x (k x hx)
theorem flat_len {s : Nat} : ∀ {xs : List (List Value)}, Wide s xs → xs.flatten.length = xs.length * s
  | [], _ => by simp
  | x :: xs, h => by
    rw [List.flatten_cons, List.length_append, flat_len (xs := xs) (fun y hy => h y (by simp [hy])), (h x (by simp)).1, List.length_cons, Nat.add_mul]
    omega
theorem flat_at {s : Nat} : ∀ {xs : List (List Value)}, Wide s xs → ∀ {j : Nat} {x : List Value}, xs[j]? = some x → ∀ {i : Nat} {v : Value}, x[i]? = some v → xs.flatten[j * s + i]? = some v
  | [], _, j, x, h, _, _, _ => by simp at h
  | y :: xs, h, 0, x, hx, i, v, hv => by
    simp only [List.getElem?_cons_zero, Option.some.injEq] at hx
    subst hx
    have hi := (List.getElem?_eq_some_iff.1 hv).1
    rw [List.flatten_cons, Nat.zero_mul, Nat.zero_add, List.getElem?_append_left hi]
    exact hv
  | y :: xs, h, j + 1, x, hx, i, v, hv => by
    have hy := (h y (by simp)).1
    have ih := flat_at (xs := xs) (fun z hz => h z (by simp [hz])) (j := j) (x := x) (by simpa using hx) hv
    have e : (j + 1) * s + i = y.length + (j * s + i) := by rw [hy, Nat.add_mul]; omega
    rw [List.flatten_cons, e, List.getElem?_append_right (by omega), Nat.add_sub_cancel_left]
    exact ih
theorem flat_one {s : Nat} {xs : List (List Value)} (h : Wide s xs) : ∀ u ∈ xs.flatten, u.oneCell' = true := by
  intro u hu
  obtain ⟨x, hx, hux⟩ := List.mem_flatten.1 hu
  exact (h x hx).2 u hux

/-- A row that the call owns, of elements of s cells each. -/
def RecW (w : World) (B : Nat) (e : TypeId) (s : Nat) (V : Value) (xs : List (List Value)) : Prop := w.ownsRow B e s V xs.length xs.flatten ∧ Wide s xs
/-- The slice at A with n elements of s cells each reads as xs; where it has one, it lies in a block that is there, and not below B. -/
def ReadR (B : Nat) (w : World) (A : Option Addr) (n s : Nat) (xs : List (List Value)) : Prop :=
  (xs.length = n ∧ Wide s xs) ∧ (0 < n → ∃ b o, A = some ⟨b, o, none⟩ ∧ B ≤ b ∧ b < w.heap.size ∧ ∀ j x, xs[j]? = some x → ∀ i v, x[i]? = some v → w.cell? ⟨b, o + j * s + i, none⟩ = some v)
section
variable {w w' : World} {B s n : Nat} {e : TypeId} {V : Value} {xs ys : List (List Value)} {A : Option Addr}
theorem RecW.nil (w : World) (B : Nat) (e : TypeId) (s : Nat) : RecW w B e s (.slice none 0 0) [] := ⟨World.ownsRow_nil _ _ _ _, wide_nil _⟩
theorem RecW.keep (h : RecW w B e s V xs) (hk : ∀ k, k < w.heap.size → V.ownBlock = some k → w'.heap[k]? = w.heap[k]?) : RecW w' B e s V xs := ⟨row_keep h.1 hk, h.2⟩
theorem RecW.base (h : RecW w B e s V xs) {B' : Nat} (hB : B' ≤ B) : RecW w B' e s V xs := ⟨row_base h.1 fun k hk => Nat.le_trans hB (row_lt h.1 hk).1, h.2⟩
theorem RecW.form (h : RecW w B e s V xs) : (V = .slice none 0 0 ∧ xs = []) ∨ ∃ b c, V = .slice (some ⟨b, 0, none⟩) xs.length c ∧ xs.length ≤ c ∧ c ≤ maxLen ∧ B ≤ b ∧ b < w.heap.size := by
  rcases h.1.2 with ⟨rfl, h0⟩ | ⟨g, cap, cur, rfl, hB, hg, hnc, hcm, _⟩
  · exact .inl ⟨rfl, List.eq_nil_of_length_eq_zero h0⟩
  · exact .inr ⟨g, cap, rfl, hnc, hcm, hB, (Array.getElem?_eq_some_iff.1 hg).1⟩
theorem RecW.slice (h : RecW w B e s V xs) : ∃ A c, V = .slice A xs.length c ∧ xs.length ≤ c ∧ c ≤ maxLen ∧ (A = none → xs = [] ∧ c = 0) := by
  rcases h.form with ⟨rfl, rfl⟩ | ⟨b, c, rfl, h1, h2, _⟩
  · exact ⟨none, 0, rfl, Nat.le_refl _, Nat.zero_le _, fun _ => ⟨rfl, rfl⟩⟩
  · exact ⟨_, c, rfl, h1, h2, fun h => by cases h⟩
theorem RecW.at (h : RecW w B e s V xs) {j : Nat} {x : List Value} (hx : xs[j]? = some x) : ∃ b c, V = .slice (some ⟨b, 0, none⟩) xs.length c ∧ B ≤ b ∧ b < w.heap.size ∧ ∀ i v, x[i]? = some v → w.cell? ⟨b, j * s + i, none⟩ = some v := by
  have hj := (List.getElem?_eq_some_iff.1 hx).1
  rcases h.form with ⟨rfl, rfl⟩ | ⟨b, c, rfl, h1, h2, h3, h4⟩
  · simp at hj
  · refine ⟨b, c, rfl, h3, h4, fun i v hv => ?_⟩
    have hm := List.mem_of_getElem? hx
    have hi := (List.getElem?_eq_some_iff.1 hv).1
    rw [(h.2 x hm).1] at hi
    have hlt : j * s + i < xs.length * s := by
      have : (j + 1) * s ≤ xs.length * s := Nat.mul_le_mul_right _ (by omega)
      rw [Nat.add_mul] at this
      omega
    exact (h.1.cellAt _ hlt).trans (flat_at h.2 hx hv)
theorem RecW.read (h : RecW w B e s V xs) : ∃ A c, V = .slice A xs.length c ∧ ReadR B w A xs.length s xs ∧ xs.length ≤ c ∧ c ≤ maxLen ∧ (A = none → xs = [] ∧ c = 0) := by
  obtain ⟨A, c, hV, h1, h2, h3⟩ := h.slice
  refine ⟨A, c, hV, ⟨⟨rfl, h.2⟩, fun hn => ?_⟩, h1, h2, h3⟩
  rcases h.form with ⟨rfl, rfl⟩ | ⟨b, c', rfl, k1, k2, k3, k4⟩
  · simp at hn
  · injection hV with e1 e2 e3
    subst e1
    refine ⟨b, 0, rfl, k3, k4, fun j x hx i v hv => ?_⟩
    obtain ⟨b', c'', e4, _, _, hc⟩ := h.at hx
    injection e4 with e5
    injection e5 with e5
    injection e5 with e5
    subst e5
    rw [Nat.zero_add]
    exact hc i v hv
theorem ReadR.nil_ (B : Nat) (w : World) (A : Option Addr) (s : Nat) : ReadR B w A 0 s [] := ⟨⟨rfl, wide_nil _⟩, fun h => absurd h (by omega)⟩
theorem ReadR.keep (h : ReadR B w A n s xs) (hz : w.heap.size ≤ w'.heap.size) (hk : ∀ b, B ≤ b → b < w.heap.size → w'.heap[b]? = w.heap[b]?) : ReadR B w' A n s xs := by
  refine ⟨h.1, fun hn => ?_⟩
  obtain ⟨b, o, hA, hB, hlt, hc⟩ := h.2 hn
  refine ⟨b, o, hA, hB, Nat.lt_of_lt_of_le hlt hz, fun j x hx i v hv => ?_⟩
  rw [World.cell?_of_block (w := w) (w' := w') (a := ⟨b, o + j * s + i, none⟩) (hk b hB hlt)]
  exact hc j x hx i v hv
theorem ReadR.below (h : ReadR B w A n s xs) (hb : Below w.heap.size w w') : ReadR B w' A n s xs := h.keep hb.size fun b _ hlt => hb.block b hlt
theorem ReadR.base (h : ReadR B w A n s xs) {B' : Nat} (hB : B' ≤ B) : ReadR B' w A n s xs := by
  refine ⟨h.1, fun hn => ?_⟩
  obtain ⟨b, o, hA, hb, hlt, hc⟩ := h.2 hn
  exact ⟨b, o, hA, Nat.le_trans hB hb, hlt, hc⟩
/-- s[i:j], of what reads as a list. -/
theorem ReadR.cut {b o : Nat} (h : ReadR B w (some ⟨b, o, none⟩) n s xs) {i j : Nat} (hij : i ≤ j) (hj : j ≤ n) : ReadR B w (some ⟨b, o + i * s, none⟩) (j - i) s ((xs.drop i).take (j - i)) := by
  have hl := h.1.1
  refine ⟨⟨by simp; omega, h.1.2.sub fun x hx => List.mem_of_mem_drop (List.mem_of_mem_take hx)⟩, fun hn => ?_⟩
  obtain ⟨b', o', hA, hB, hlt, hc⟩ := h.2 (by omega)
  injection hA with hA
  injection hA with hb ho
  subst hb ho
  refine ⟨_, _, rfl, hB, hlt, fun m x hx k v hv => ?_⟩
  have hm : m < j - i := by
    have := (List.getElem?_eq_some_iff.1 hx).1
    rw [List.length_take] at this
    omega
  rw [List.getElem?_take_of_lt hm, List.getElem?_drop] at hx
  rw [show o + i * s + m * s + k = o + (i + m) * s + k by rw [Nat.add_mul]; omega]
  exact hc (i + m) x hx k v hv
end

/-- append of what reads as a list onto a row of the call's own; where the row lies then. -/
theorem RecW.app (t e : TypeId) (z : Value) (s bytes : Nat) (ht : Tryd.prog.underlying t = some (.slice e)) (hinfo : (Tryd.prog.info? e).map (fun i => (i.zero, i.size, i.bytes)) = some (some z, s, bytes)) (hzs : z.cells.size = s) (hs0 : 0 < s)
    {w : World} {B B' : Nat} {V : Value} {xs ys : List (List Value)} (h : RecW w B e s V xs) {A : Option Addr} {m c : Nat} (hr : ReadR B' w A m s ys) (hA : A = none → c = 0) (h63 : xs.length + m ≤ maxLen) (hsz : (xs.length + m) * bytes ≤ 140737488355328) (hB : B ≤ w.heap.size) :
    ∃ V' w', (Builtin.append_ #[t, t] t #[V, .slice A m c]).run Tryd.prog w = .ok V' w' ∧ RecW w' B e s V' (xs ++ ys) ∧ w.grownBy w' V.ownBlock ∧ (V'.ownBlock = V.ownBlock ∨ V'.ownBlock = some w.heap.size) ∧ (A = none → V' = V ∧ w' = w) := by
  obtain ⟨i0, hi, hz0, hz1, hz2⟩ := info_parts hinfo
  have hl := hr.1.1
  rcases A with _ | a
  · have hc0 := hA rfl
    subst hc0
    have hm : m = 0 := by
      rcases Nat.eq_zero_or_pos m with h0 | h0
      · exact h0
      · obtain ⟨b, o, hA', _⟩ := hr.2 h0
        cases hA'
    subst hm
    have hy : ys = [] := List.eq_nil_of_length_eq_zero hl
    subst hy
    exact ⟨V, w, run_append_owned_none (P := Tryd.prog) w B t t e i0 s ht hi V _ _ h.1, by simpa using h, World.grownBy.refl w _, .inl rfl, fun _ => ⟨rfl, rfl⟩⟩
  · have hcells : ∀ j u, ys.flatten[j]? = some u → w.cell? (a.add j) = some u := by
      intro j u hu
      have hj := (List.getElem?_eq_some_iff.1 hu).1
      rw [flat_len hr.1.2, hl] at hj
      have hm : 0 < m := by
        rcases Nat.eq_zero_or_pos m with h0 | h0
        · subst h0; simp at hj
        · exact h0
      obtain ⟨b, o, hA', _, _, hc⟩ := hr.2 hm
      injection hA' with hA'
      subst hA'
      have hadd : (⟨b, o, none⟩ : Addr).add j = ⟨b, o + j, none⟩ := by unfold Addr.add; split <;> simp_all
      have hq : j / s < ys.length := by rw [hl]; exact Nat.div_lt_of_lt_mul (by rw [Nat.mul_comm]; exact hj)
      have hx := List.getElem?_eq_getElem hq
      have hi : j % s < (ys[j / s]).length := by rw [(hr.1.2 _ (List.getElem_mem hq)).1]; exact Nat.mod_lt _ hs0
      have hv := List.getElem?_eq_getElem hi
      have e1 : j / s * s + j % s = j := by rw [Nat.mul_comm]; exact Nat.div_add_mod j s
      have e2 := flat_at hr.1.2 hx hv
      rw [e1, hu] at e2
      rw [hadd, ← e1, ← Nat.add_assoc, hc _ _ hx _ _ hv]
      exact e2.symm
    obtain ⟨V', w', h1, h2, h3, _, h4⟩ := run_append_own_at (P := Tryd.prog) w B t t e i0 z s bytes ht hi hz0 hz1 hz2 hzs hs0 V _ _ h.1 a m c ys.flatten (by rw [flat_len hr.1.2, hl]) hcells (flat_one hr.1.2) h63 hsz hB
    refine ⟨V', w', h1, ⟨?_, h.2.append hr.1.2⟩, h3, h4, fun h => by cases h⟩
    rw [List.length_append, List.flatten_append, hl]
    exact h2
/-- One element, in a block of its own. -/
theorem read_one {w : World} {d s : Nat} {e : TypeId} {x : List Value} (hd : w.heap[d]? = some (.cells x.toArray e (0, 0))) (hx : x.length = s ∧ ∀ u ∈ x, u.oneCell' = true) : ReadR 0 w (some ⟨d, 0, none⟩) 1 s [x] := by
  refine ⟨⟨rfl, fun y hy => by rw [List.mem_singleton] at hy; subst hy; exact hx⟩, fun _ => ⟨d, 0, rfl, Nat.zero_le _, (Array.getElem?_eq_some_iff.1 hd).1, fun j y hy i v hv => ?_⟩⟩
  rcases j with _ | j
  · simp only [List.getElem?_cons_zero, Option.some.injEq] at hy
    subst hy
    rw [cell_of_row w d _ _ e (0, 0) hd]
    simpa using hv
  · simp at hy

theorem setCells_kept (b : Nat) : ∀ (vs : List Value) (o : Nat) (w : World), w.grownBy (w.setCells b o vs) (some b) ∧ (w.setCells b o vs).heap.size = w.heap.size
  | [], _, w => ⟨World.grownBy.refl w _, rfl⟩
  | v :: r, o, w => by
    have h1 : w.grownBy (w.setCell ⟨b, o, none⟩ v) (some b) := ⟨rfl, rfl, rfl, by simp, fun k _ hk => heap_setCell_other w ⟨b, o, none⟩ k v (fun e => hk (by simp [e]))⟩
    obtain ⟨h2, h3⟩ := setCells_kept b r (o + 1) (w.setCell ⟨b, o, none⟩ v)
    exact ⟨World.grownBy.trans h1 h2, by rw [World.setCells, h3]; simp⟩
theorem own_setCells {B : Nat} {e : TypeId} {s b n c : Nat} {xs : List Value} : ∀ (vs : List Value) (o : Nat) (w : World), w.ownsRow B e s (.slice (some ⟨b, 0, none⟩) n c) n xs → n * s ≤ o → (w.setCells b o vs).ownsRow B e s (.slice (some ⟨b, 0, none⟩) n c) n xs
  | [], _, _, h, _ => h
  | v :: r, o, w, h, ho => by
    have h1 := (h.stored o v).1
    rw [List.set_eq_of_length_le (by rw [h.1]; exact ho)] at h1
    exact own_setCells r (o + 1) _ h1 (by omega)
/-- clear, of a slice of one element. -/
theorem clear_one (w : World) (t e ty : TypeId) (z : Value) (ht : Tryd.prog.underlying t = some (.slice e)) (hv : ∀ w, (zeroValue e).run Tryd.prog w = .ok z w) (h1 : ∀ u ∈ z.cells.toList, u.oneCell' = true) (b o c : Nat)
    (hc : ∀ j, j < z.cells.size → (w.cell? ⟨b, o + j, none⟩).isSome = true) (hf : ∀ j, w.frozen? ⟨b, o + j, none⟩ = false) :
    (Builtin.clear_ #[t] ty #[.slice (some ⟨b, o, none⟩) 1 c]).run Tryd.prog w = .ok (.tuple #[]) (w.setCells b o z.cells.toList) := by
  have hzc : (Builtin.zeroCells z.cells 1).toList = z.cells.toList := by
    simp only [Builtin.zeroCells]
    apply List.ext_getElem?
    intro i
    by_cases hi : i < z.cells.size
    · simp [hi, Nat.mod_eq_of_lt hi]
    · simp [hi]
  have hst := run_storeCells_cells (P := Tryd.prog) b o z.cells.toList 0 w (by simpa using hc) (by simpa using fun j _ => hf j) h1
  simp only [Nat.add_zero] at hst
  simp [Builtin.clear_, run_underlying ht, hv, hzc, hst]
/-- What slices.Delete makes of a row of the call's own: the append onto s[:i], the clear of the last place. -/
theorem RecW.del (t e : TypeId) (z : Value) (s bytes : Nat) (ht : Tryd.prog.underlying t = some (.slice e)) (hinfo : (Tryd.prog.info? e).map (fun i => (i.zero, i.size, i.bytes)) = some (some z, s, bytes)) (hzs : z.cells.size = s) (hs0 : 0 < s) (hzv : ∀ w, (zeroValue e).run Tryd.prog w = .ok z w) (hz1 : ∀ u ∈ z.cells.toList, u.oneCell' = true)
    {w : World} {B b n c : Nat} {xs : List (List Value)} (h : RecW w B e s (.slice (some ⟨b, 0, none⟩) n c) xs) (hn : xs.length = n) {i : Nat} (hi : i < n) {o' : Nat} (ho : i + 1 < n → o' = (i + 1) * s) {c' : Nat} :
    ∃ w1, (Builtin.append_ #[t, t] t #[.slice (some ⟨b, 0, none⟩) i c, .slice (some ⟨b, o', none⟩) (n - (i + 1)) c']).run Tryd.prog w = .ok (.slice (some ⟨b, 0, none⟩) (n - 1) c) w1 ∧
      (∀ ty o2, o2 = (n - 1) * s → (Builtin.clear_ #[t] ty #[.slice (some ⟨b, o2, none⟩) 1 (c - (n - 1))]).run Tryd.prog w1 = .ok (.tuple #[]) (w1.setCells b o2 z.cells.toList)) ∧
      ∀ o2, o2 = (n - 1) * s → RecW (w1.setCells b o2 z.cells.toList) B e s (.slice (some ⟨b, 0, none⟩) (n - 1) c) (xs.eraseIdx i) ∧ w.grownBy (w1.setCells b o2 z.cells.toList) (some b) := by
  obtain ⟨i0, hi0, hz0, hsz1, hz2⟩ := info_parts hinfo
  subst hn
  have hwd : Wide s (xs.take i) := h.2.sub fun x hx => List.mem_of_mem_take hx
  have hwd2 : Wide s (xs.drop (i + 1)) := h.2.sub fun x hx => List.mem_of_mem_drop hx
  have hown0 : w.ownsRow B e s (.slice (some ⟨b, 0, none⟩) i c) i (xs.take i).flatten := by
    refine ⟨by rw [flat_len hwd, List.length_take]; congr 1; omega, ?_⟩
    rcases h.1.2 with ⟨h', _⟩ | ⟨g, cap, cur, h', hB, hg, hnc, hcm, hcs, htk⟩
    · cases h'
    · refine .inr ⟨g, cap, cur, ?_, hB, hg, by omega, hcm, hcs, ?_⟩
      · injection h' with e1 e2 e3
        rw [e1, e3]
      · have hsp : xs.flatten = (xs.take i).flatten ++ (xs.drop i).flatten := by rw [← List.flatten_append, List.take_append_drop]
        have hle : i * s ≤ xs.length * s := Nat.mul_le_mul_right _ (by omega)
        have := congrArg (List.take (i * s)) htk
        rw [List.take_take, Nat.min_eq_left hle, hsp] at this
        rw [this, List.take_append_of_le_length (by rw [flat_len hwd, List.length_take, Nat.min_eq_left (by omega)]; exact Nat.le_refl _), List.take_of_length_le (by rw [flat_len hwd, List.length_take, Nat.min_eq_left (by omega)]; exact Nat.le_refl _)]
  have hnews : ∀ j u, (xs.drop (i + 1)).flatten[j]? = some u → w.cell? ((⟨b, o', none⟩ : Addr).add j) = some u := by
    intro j u hu
    have hj := (List.getElem?_eq_some_iff.1 hu).1
    rw [flat_len hwd2, List.length_drop] at hj
    have hlt : i + 1 < xs.length := by
      rcases Nat.lt_or_ge (i + 1) xs.length with h1 | h1
      · exact h1
      · rw [Nat.sub_eq_zero_of_le h1] at hj; simp at hj
    rw [ho hlt]
    have hadd : (⟨b, (i + 1) * s, none⟩ : Addr).add j = ⟨b, (i + 1) * s + j, none⟩ := by unfold Addr.add; split <;> simp_all
    have hlt2 : (i + 1) * s + j < xs.length * s := by
      have : (i + 1 + (xs.length - (i + 1))) * s = xs.length * s := by congr 1; omega
      rw [Nat.add_mul] at this
      omega
    rw [hadd, h.1.cellAt _ hlt2]
    have hsp : xs.flatten = (xs.take (i + 1)).flatten ++ (xs.drop (i + 1)).flatten := by rw [← List.flatten_append, List.take_append_drop]
    have hl1 : (xs.take (i + 1)).flatten.length = (i + 1) * s := by rw [flat_len (h.2.sub fun x hx => List.mem_of_mem_take hx), List.length_take, Nat.min_eq_left (by omega)]
    rw [hsp, List.getElem?_append_right (by omega), hl1, Nat.add_sub_cancel_left]
    exact hu
  have hc : xs.length ≤ c := by
    rcases h.1.2 with ⟨h', _⟩ | ⟨g, cap, cur, h', hB, hg, hnc, hcm, hcs, htk⟩
    · cases h'
    · injection h' with _ _ e3
      omega
  obtain ⟨w1, happ, hown1, hgr1⟩ := run_append_fits (P := Tryd.prog) w B t t e i0 s ht hi0 hsz1 b i c _ hown0 ⟨b, o', none⟩ (xs.length - (i + 1)) c' (xs.drop (i + 1)).flatten (by rw [flat_len hwd2, List.length_drop]) hnews (flat_one hwd2) (by omega)
  have hnn : i + (xs.length - (i + 1)) = xs.length - 1 := by omega
  rw [hnn] at happ hown1
  have her : (xs.take i).flatten ++ (xs.drop (i + 1)).flatten = (xs.eraseIdx i).flatten := by rw [← List.flatten_append, List.eraseIdx_eq_take_drop_succ]
  rw [her] at hown1
  refine ⟨w1, happ, fun ty o2 h2 => ?_, fun o2 h2 => ?_⟩
  · refine clear_one w1 t e ty z ht hzv hz1 b o2 (c - (xs.length - 1)) (fun j hj => ?_) (fun j => hown1.frozenAt _)
    rcases hown1.2 with ⟨h', _⟩ | ⟨g, cap, cur, h', hB, hg, hnc, hcm, hcs, htk⟩
    · cases h'
    · injection h' with e1 e2 e3
      injection e1 with e1
      injection e1 with e1
      subst e1; subst e3
      have hlt : o2 + j < cur.size := by
        have h3 : xs.length * s ≤ c * s := Nat.mul_le_mul_right _ hc
        have h4 : (xs.length - 1 + 1) * s = xs.length * s := by congr 1; omega
        rw [Nat.add_mul] at h4
        omega
      rw [cell_of_row w1 b _ cur _ (0, 0) hg, Array.getElem?_eq_getElem hlt]
      rfl
  · have hle : (xs.eraseIdx i).length = xs.length - 1 := by rw [List.length_eraseIdx]; simp [hi]
    refine ⟨⟨?_, h.2.sub fun x hx => List.mem_of_mem_eraseIdx hx⟩, World.grownBy.trans hgr1 (setCells_kept b _ _ _).1⟩
    rw [hle]
    exact own_setCells _ _ _ hown1 (by omega)
end Go.Proofs.YtebmafghekfllaaDoor
