/- What came in: a tree of nodes, opened. -/
import Derived.Test.YtajnedkjmgjjbaaDoorM05
import Derived.Test.YtajnedkjmgjjbaaDoorM06
import Derived.Test.YtajnedkjmgjjbaaDoorM15
namespace Go.Proofs.YtajnedkjmgjjbaaDoor
open Go Go.RowKit Go.ChangeShapes Go.WideShapes Go.ChangeAt
set_option linter.unusedVariables false
set_option maxRecDepth 20000

theorem node_cells9 : Tryd.prog.cellsOf 26 = 5 := by kernel_rfl
theorem rngs_cells9 : Tryd.prog.cellsOf 23 = 1 := by kernel_rfl
theorem nodes_cells9 : Tryd.prog.cellsOf 24 = 1 := by kernel_rfl
/-- All blocks. -/
def AllB : Nat → Prop := fun _ => True
theorem in64_wf {n : Int} (h : (Lit.int .i64 n).wf = true) : In64 n := by
  unfold In64
  simp [Lit.wf, IntKind.min, IntKind.max, IntKind.signed, IntKind.bits] at h
  exact ⟨by omega, by omega⟩
theorem rowF_all {w : World} {A : Option Addr} {n : Nat} {s : List (Int × Int)} (h : RowG w A n s) : RowF AllB w A n s := ⟨h, fun _ _ _ _ => trivial⟩
/-- A row of nodes, node for node. -/
theorem wood_row (W : World) (b : Nat) : ∀ (len o : Nat), (∀ i, i < len → ∃ (op : Int) (s : List (Int × Int)) (mn mx : Int) (k : Wood) (A D : Option Addr) (ns cs nk ck : Nat), (∀ j v, (nodeV op A ns cs mn mx D nk ck)[j]? = some v → W.cell? ⟨b, o + i * 5 + j, none⟩ = some v) ∧ RowF AllB W A ns s ∧ KidsAt AllB W D nk k ∧ WfW (.cons op s mn mx k .nil)) →
    ∃ k : Wood, k.len = len ∧ WoodAt AllB W k b o ∧ WfW k
  | 0, o, _ => ⟨.nil, rfl, trivial, trivial⟩
  | len + 1, o, h => by
    obtain ⟨op, s, mn, mx, k, A, D, ns, cs, nk, ck, h1, h2, h3, h4⟩ := h 0 (by omega)
    obtain ⟨x, x1, x2, x3⟩ := wood_row W b len (o + 5) fun i hi => by
      obtain ⟨op, s, mn, mx, k, A, D, ns, cs, nk, ck, g1, g2⟩ := h (i + 1) (by omega)
      exact ⟨op, s, mn, mx, k, A, D, ns, cs, nk, ck, fun j v hv => by rw [show o + 5 + i * 5 + j = o + (i + 1) * 5 + j by omega]; exact g1 j v hv, g2⟩
    refine ⟨.cons op s mn mx k x, by simp only [Wood.len]; omega, ⟨⟨A, D, ns, cs, nk, ck, fun j v hv => by rw [show o + j = o + 0 * 5 + j by omega]; exact h1 j v hv, h2, h3.1, h3.2⟩, x2⟩, h4.1, h4.2.1, x3⟩

section
variable {H : Type} {enc : TypeId × Value → H} {W : World} {base : Nat} {held : Bool}
def KidsOf (enc : TypeId × Value → H) (W : World) (base : Nat) (held : Bool) (fuel : Nat) : Prop :=
  ∀ (D : Option Addr) (nk ck : Nat) (x : DataW H × List MemPlace), DataW.trod enc Tryd.prog W base (fun _ => true) held fuel 24 [.slice D nk ck] = some x → ∃ k : Wood, KidsAt AllB W D nk k ∧ WfW k
/-- One node, opened. -/
theorem node_of {n : Nat} (IH : ∀ m, m < n → KidsOf enc W base held m) {c0 c1 c2 c3 c4 : Value} {y : DataW H × List MemPlace} (ht : DataW.trod enc Tryd.prog W base (fun _ => true) held n 26 [c0, c1, c2, c3, c4] = some y) :
    ∃ (op : Int) (s : List (Int × Int)) (mn mx : Int) (k : Wood) (A D : Option Addr) (ns cs nk ck : Nat), c0 = .int .i64 op ∧ c1 = .slice A ns cs ∧ c2 = .int .i64 mn ∧ c3 = .int .i64 mx ∧ c4 = .slice D nk ck ∧ RowF AllB W A ns s ∧ KidsAt AllB W D nk k ∧ WfW (.cons op s mn mx k .nil) := by
  obtain ⟨ys, n', hn, _, _, hyl, hfl⟩ := DataW.trod_struct Tryd.underlying26 ht
  match ys, hyl with
  | [y0, y1, y2, y3, y4], _ =>
    have q0 : DataW.trod enc Tryd.prog W base (fun _ => true) held n' 3 [c0] = some y0 := by
      have h := hfl 0 _ rfl
      change DataW.trod enc Tryd.prog W base (fun _ => true) held n' 3 (List.take (Tryd.prog.cellsOf 3) [c0, c1, c2, c3, c4]) = some y0 at h
      rw [int_cells1] at h
      exact h
    have q1 : DataW.trod enc Tryd.prog W base (fun _ => true) held n' 23 [c1] = some y1 := by
      have h := hfl 1 _ rfl
      change DataW.trod enc Tryd.prog W base (fun _ => true) held n' 23 (List.take (Tryd.prog.cellsOf 23) [c1, c2, c3, c4]) = some y1 at h
      rw [rngs_cells9] at h
      exact h
    have q2 : DataW.trod enc Tryd.prog W base (fun _ => true) held n' 3 [c2] = some y2 := by
      have h := hfl 2 _ rfl
      change DataW.trod enc Tryd.prog W base (fun _ => true) held n' 3 (List.take (Tryd.prog.cellsOf 3) [c2, c3, c4]) = some y2 at h
      rw [int_cells1] at h
      exact h
    have q3 : DataW.trod enc Tryd.prog W base (fun _ => true) held n' 3 [c3] = some y3 := by
      have h := hfl 3 _ rfl
      change DataW.trod enc Tryd.prog W base (fun _ => true) held n' 3 (List.take (Tryd.prog.cellsOf 3) [c3, c4]) = some y3 at h
      rw [int_cells1] at h
      exact h
    have q4 : DataW.trod enc Tryd.prog W base (fun _ => true) held n' 24 [c4] = some y4 := by
      have h := hfl 4 _ rfl
      change DataW.trod enc Tryd.prog W base (fun _ => true) held n' 24 (List.take (Tryd.prog.cellsOf 24) [c4]) = some y4 at h
      rw [nodes_cells9] at h
      exact h
    obtain ⟨i0, e0, _, z0⟩ := DataW.trod_int Tryd.underlying3 q0
    obtain ⟨i2, e2, _, z2⟩ := DataW.trod_int Tryd.underlying3 q2
    obtain ⟨i3, e3, _, z3⟩ := DataW.trod_int Tryd.underlying3 q3
    injection e0 with e0
    injection e2 with e2
    injection e3 with e3
    have s1 : ∃ A ns cs, c1 = .slice A ns cs := by
      rcases DataW.trod_slice Tryd.underlying23 q1 with ⟨h, _⟩ | ⟨a, len, cap, _, _, _, _, h, _⟩
      · injection h with h; exact ⟨_, _, _, h⟩
      · injection h with h; exact ⟨_, _, _, h⟩
    have s4 : ∃ D nk ck, c4 = .slice D nk ck := by
      rcases DataW.trod_slice Tryd.underlying24 q4 with ⟨h, _⟩ | ⟨a, len, cap, _, _, _, _, h, _⟩
      · injection h with h; exact ⟨_, _, _, h⟩
      · injection h with h; exact ⟨_, _, _, h⟩
    obtain ⟨A, ns, cs, rfl⟩ := s1
    obtain ⟨D, nk, ck, rfl⟩ := s4
    obtain ⟨s, hs⟩ := rngs_of q1
    obtain ⟨k, hk, hw⟩ := IH n' (by omega) D nk ck y4 q4
    exact ⟨i0, s, i2, i3, k, A, D, ns, cs, nk, ck, e0, rfl, e2, e3, rfl, rowF_all hs.1, hk, ⟨in64_wf z0, in64_wf z2, in64_wf z3, fun p hp => ⟨in64_wf (hs.2.2.2.2 p hp).1, in64_wf (hs.2.2.2.2 p hp).2⟩⟩, hw, trivial⟩
/-- The kids, opened. -/
theorem kids_of (fuel : Nat) : KidsOf enc W base held fuel := by
  induction fuel using Nat.strongRecOn with
  | ind fuel IH =>
    intro D nk ck x hx
    rcases DataW.trod_slice Tryd.underlying24 hx with ⟨h, _⟩ | ⟨ad, len, cap, elems, rest, n, hn, h, _, _, hl, hm, hel, hat, _⟩
    · simp at h
      obtain ⟨rfl, rfl, rfl⟩ := h
      exact ⟨.nil, ⟨rfl, fun h => absurd h (by omega)⟩, trivial⟩
    · simp at h
      obtain ⟨rfl, rfl, rfl⟩ := h
      rw [node_cells9] at hat
      have each : ∀ i, i < nk → ∃ (op : Int) (s : List (Int × Int)) (mn mx : Int) (k : Wood) (A D : Option Addr) (ns cs nk ck : Nat), (∀ j v, (nodeV op A ns cs mn mx D nk ck)[j]? = some v → W.cell? ((ad.add (i * 5)).add j) = some v) ∧ RowF AllB W A ns s ∧ KidsAt AllB W D nk k ∧ WfW (.cons op s mn mx k .nil) := by
        intro i hi
        have h := hat i hi
        rw [List.getElem?_eq_getElem (by omega)] at h
        obtain ⟨cs', hc, ht⟩ := Option.bind_eq_some_iff.1 h
        obtain ⟨_, hcl, hcell⟩ := World.cells?_some hc
        match cs', hcl with
        | [c0, c1, c2, c3, c4], _ =>
          obtain ⟨op, s, mn, mx, k, A, D, ns, cs, nk', ck', rfl, rfl, rfl, rfl, rfl, h1, h2, h3⟩ := node_of (fun m hm => IH m (by omega)) ht
          refine ⟨op, s, mn, mx, k, A, D, ns, cs, nk', ck', fun j v hv => ?_, h1, h2, h3⟩
          have hj : j < 5 := (List.getElem?_eq_some_iff.1 hv).1
          rw [hcell j hj]
          exact hv
      rcases Nat.eq_zero_or_pos nk with h0 | h0
      · subst h0
        exact ⟨.nil, ⟨rfl, fun h => absurd h (by omega)⟩, trivial⟩
      · obtain ⟨b, off, spot⟩ := ad
        obtain ⟨op, s, mn, mx, k, A, D, ns, cs, nk', ck', g, _⟩ := each 0 h0
        have g0 := g 0 _ rfl
        have hspot : spot = none := by simpa [Addr.add] using World.cell?_spot g0
        subst hspot
        have hadd : ∀ (o i : Nat), (⟨b, o, none⟩ : Addr).add i = ⟨b, o + i, none⟩ := fun o i => by unfold Addr.add; split <;> simp_all
        have hlt := World.block_lt_of_cell? W (⟨b, off, none⟩ : Addr) (by simpa [Addr.add] using g0)
        simp only [hadd] at each
        obtain ⟨k, k1, k2, k3⟩ := wood_row W b nk off each
        exact ⟨k, ⟨k1, fun _ => ⟨b, off, rfl, trivial, hlt, k2⟩⟩, k3⟩
/-- A node that came in, opened. -/
theorem tree_of {r : Reach} {b0 : Nat} {v : Value} {d : DataW H} {p : List MemPlace} (hv : Value.okWide Tryd.prog W r b0 26 v) (h : DataW.Trod enc Tryd.prog W base (fun _ => true) held 26 v d p) :
    ∃ (op : Int) (s : List (Int × Int)) (mn mx : Int) (k : Wood) (A D : Option Addr) (ns cs nk ck : Nat), v = .agg #[.int .i64 op, .slice A ns cs, .int .i64 mn, .int .i64 mx, .slice D nk ck] ∧ NodeIn AllB W v (.cons op s mn mx k .nil) ∧ WfW (.cons op s mn mx k .nil) := by
  simp only [Value.okWide, Tryd.underlying26] at hv
  obtain ⟨cs, rfl, hsz, _⟩ := hv
  obtain ⟨fuel, hf⟩ := h
  obtain ⟨l⟩ := cs
  match l, hsz.trans node_cells9 with
  | [c0, c1, c2, c3, c4], _ =>
    obtain ⟨op, s, mn, mx, k, A, D, ns, cs, nk, ck, rfl, rfl, rfl, rfl, rfl, h1, h2, h3⟩ := node_of (fun m _ => kids_of m) hf
    exact ⟨op, s, mn, mx, k, A, D, ns, cs, nk, ck, rfl, ⟨op, s, mn, mx, k, A, D, ns, cs, nk, ck, rfl, rfl, h1, h2⟩, h3⟩
end
end Go.Proofs.YtajnedkjmgjjbaaDoor
