/- What came in: a list of acts, each a struct of five fields, the last a slice of octets; an array of two whole numbers. -/
import Derived.Test.YtgjmgbpphfccaaaPMem
import Derived.Deep.Slices
import Derived.Deep.Fields
import Derived.ChangeSame
import Derived.OpenShut
import Derived.ProofKit
namespace Go.Proofs.Ytgjmgbpphfccaaa
open Go Go.RowKit Go.ChangeShapes Go.WideShapes Go.ChangeAt
set_option linter.unusedVariables false

/-- An act, as numbers. -/
structure ActL where
  kind : Int
  i : Int
  a : Int
  b : Int
  ys : List Int
def actNone : ActL := ⟨0, 0, 0, 0, []⟩
/-- The slice of acts at A with n elements reads as the list. -/
def RowA (w : World) (A : Option Addr) (n : Nat) (xs : List ActL) : Prop :=
  xs.length = n ∧ (0 < n → ∃ b o, A = some ⟨b, o, none⟩ ∧ b < w.heap.size ∧ ∀ j, j < n → ∃ D d,
    w.cell? ⟨b, o + j * 5, none⟩ = some (.int .i64 (xs.getD j actNone).kind) ∧ w.cell? ⟨b, o + j * 5 + 1, none⟩ = some (.int .i64 (xs.getD j actNone).i) ∧
    w.cell? ⟨b, o + j * 5 + 2, none⟩ = some (.int .i64 (xs.getD j actNone).a) ∧ w.cell? ⟨b, o + j * 5 + 3, none⟩ = some (.int .i64 (xs.getD j actNone).b) ∧
    w.cell? ⟨b, o + j * 5 + 4, none⟩ = some (.slice D (xs.getD j actNone).ys.length d) ∧ RowI .u8 w D (xs.getD j actNone).ys.length (xs.getD j actNone).ys ∧ (D = none → (xs.getD j actNone).ys.length = 0 ∧ d = 0) ∧ (xs.getD j actNone).ys.length ≤ d ∧ d ≤ maxLen)

theorem act_cells : Try.prog.cellsOf 33 = 5 := by kernel_rfl
theorem byte_cells : Try.prog.cellsOf 5 = 1 := by kernel_rfl
theorem bytes_cells : Try.prog.cellsOf 31 = 1 := by kernel_rfl
theorem int_cells : Try.prog.cellsOf 3 = 1 := by kernel_rfl

section
variable {H : Type} {enc : TypeId × Value → H} {W : World} {base : Nat} {held : Bool}
/-- The list of acts, opened. -/
theorem acts_of {a : Option Addr} {len cap fuel : Nat} {x : DataW H × List MemPlace} (hf : DataW.trod enc Try.prog W base (fun _ => true) held fuel 23 [.slice a len cap] = some x) : ∃ xs, RowA W a len xs ∧ len ≤ maxLen := by
  rcases Go.Deep.open_slice Try.underlying23 hf with ⟨hcs, _⟩ | ⟨ad, l, c, m, n, D, Pl, hcs, _, hl, hm, hmm, _, hel⟩
  · simp at hcs
    obtain ⟨rfl, rfl, rfl⟩ := hcs
    exact ⟨[], ⟨rfl, fun h => absurd h (by omega)⟩, Nat.zero_le _⟩
  · simp at hcs
    obtain ⟨rfl, rfl, rfl⟩ := hcs
    simp only [if_true] at hmm
    subst hmm
    rw [act_cells] at hel
    have each : ∀ i, ∃ y : ActL, i < m → ∃ D d, W.cell? (ad.add (i * 5)) = some (.int .i64 y.kind) ∧ W.cell? ((ad.add (i * 5)).add 1) = some (.int .i64 y.i) ∧ W.cell? ((ad.add (i * 5)).add 2) = some (.int .i64 y.a) ∧ W.cell? ((ad.add (i * 5)).add 3) = some (.int .i64 y.b) ∧
        W.cell? ((ad.add (i * 5)).add 4) = some (.slice D y.ys.length d) ∧ RowI .u8 W D y.ys.length y.ys ∧ (D = none → y.ys.length = 0 ∧ d = 0) ∧ y.ys.length ≤ d ∧ d ≤ maxLen := by
      intro i
      by_cases hi : i < m
      · obtain ⟨cs', hc, ht⟩ := hel i hi
        obtain ⟨_, hcl, hat⟩ := World.cells?_some hc
        obtain ⟨ys, n', _, _, _, hyl, hfl⟩ := DataW.trod_struct Try.underlying33 ht
        match cs', hcl with
        | [c0, c1, c2, c3, c4], _ =>
          match ys, hyl with
          | [y0, y1, y2, y3, y4], _ =>
            have q0 : DataW.trod enc Try.prog W base (fun _ => true) held n' 3 [c0] = some y0 := by
              have h := hfl 0 _ rfl
              change DataW.trod enc Try.prog W base (fun _ => true) held n' 3 (List.take (Try.prog.cellsOf 3) [c0, c1, c2, c3, c4]) = some y0 at h
              rw [int_cells] at h
              exact h
            have q1 : DataW.trod enc Try.prog W base (fun _ => true) held n' 3 [c1] = some y1 := by
              have h := hfl 1 _ rfl
              change DataW.trod enc Try.prog W base (fun _ => true) held n' 3 (List.take (Try.prog.cellsOf 3) [c1, c2, c3, c4]) = some y1 at h
              rw [int_cells] at h
              exact h
            have q2 : DataW.trod enc Try.prog W base (fun _ => true) held n' 3 [c2] = some y2 := by
              have h := hfl 2 _ rfl
              change DataW.trod enc Try.prog W base (fun _ => true) held n' 3 (List.take (Try.prog.cellsOf 3) [c2, c3, c4]) = some y2 at h
              rw [int_cells] at h
              exact h
            have q3 : DataW.trod enc Try.prog W base (fun _ => true) held n' 3 [c3] = some y3 := by
              have h := hfl 3 _ rfl
              change DataW.trod enc Try.prog W base (fun _ => true) held n' 3 (List.take (Try.prog.cellsOf 3) [c3, c4]) = some y3 at h
              rw [int_cells] at h
              exact h
            have q4 : DataW.trod enc Try.prog W base (fun _ => true) held n' 31 [c4] = some y4 := by
              have h := hfl 4 _ rfl
              change DataW.trod enc Try.prog W base (fun _ => true) held n' 31 (List.take (Try.prog.cellsOf 31) [c4]) = some y4 at h
              rw [bytes_cells] at h
              exact h
            obtain ⟨k, e0, _, _⟩ := DataW.trod_int Try.underlying3 q0
            obtain ⟨i1, e1, _, _⟩ := DataW.trod_int Try.underlying3 q1
            obtain ⟨i2, e2, _, _⟩ := DataW.trod_int Try.underlying3 q2
            obtain ⟨i3, e3, _, _⟩ := DataW.trod_int Try.underlying3 q3
            have hb : ∃ D l d zs, c4 = .slice D l d ∧ ((D = none ∧ l = 0 ∧ d = 0 ∧ zs = []) ∨ ∃ x, D = some x ∧ l ≤ d ∧ d ≤ maxLen ∧ zs.length = d ∧ (∀ i, i < zs.length → W.cell? (x.add i) = some (.int .u8 (zs.getD i 0))) ∧ ∀ n ∈ zs, (Lit.int .u8 n).wf = true) := by
              rcases open_ints Try.underlying31 Try.underlying5 byte_cells q4 with ⟨hcs, _⟩ | ⟨x, l, c, zs, hcs, _, hl, hm, hz, _, hcell, hwz⟩
              · simp at hcs
                exact ⟨none, 0, 0, [], hcs, .inl ⟨rfl, rfl, rfl, rfl⟩⟩
              · simp at hcs
                exact ⟨_, l, c, zs, hcs, .inr ⟨x, rfl, hl, hm, by simpa using hz, hcell, hwz⟩⟩
            obtain ⟨D', l', d', zs, hc4, hrow⟩ := hb
            obtain ⟨hr, hld, hdm, hn, _⟩ := rowI_of_row hrow
            have hlen := hr.1
            injection e0 with e0
            injection e1 with e1
            injection e2 with e2
            injection e3 with e3
            have a0 := hat 0 (by omega)
            have a1 := hat 1 (by omega)
            have a2 := hat 2 (by omega)
            have a3 := hat 3 (by omega)
            have a4 := hat 4 (by omega)
            have hz : (ad.add (i * 5)).add 0 = ad.add (i * 5) := by simp [Addr.add]
            rw [hz] at a0
            refine ⟨⟨k, i1, i2, i3, zs.take l'⟩, fun _ => ⟨D', d', ?_, ?_, ?_, ?_, ?_, by rw [hlen]; exact hr, by rw [hlen]; exact hn, by rw [hlen]; exact hld, hdm⟩⟩
            · rw [a0, e0]; rfl
            · rw [a1, e1]; rfl
            · rw [a2, e2]; rfl
            · rw [a3, e3]; rfl
            · rw [a4, hlen, hc4]; rfl
      · exact ⟨actNone, fun h => absurd h hi⟩
    obtain ⟨f, hfn⟩ := Classical.axiomOfChoice each
    refine ⟨(List.range len).map f, ⟨by simp, fun hn => ?_⟩, Nat.le_trans hl hm⟩
    obtain ⟨b, off, spot⟩ := ad
    obtain ⟨_, _, h0, _⟩ := hfn 0 (by omega)
    have hspot : spot = none := by simpa [Addr.add] using World.cell?_spot h0
    subst hspot
    refine ⟨b, off, rfl, World.block_lt_of_cell? W (⟨b, off, none⟩ : Addr) (by simpa [Addr.add] using h0), fun j hj => ?_⟩
    obtain ⟨D', d', g0, g1, g2, g3, g4, g5, g6, g7, g8⟩ := hfn j (by omega)
    have hadd : ∀ (o i : Nat), (⟨b, o, none⟩ : Addr).add i = ⟨b, o + i, none⟩ := fun o i => by unfold Addr.add; split <;> simp_all
    simp only [hadd] at g0 g1 g2 g3 g4
    have hgd : ((List.range len).map f).getD j actNone = f j := by simp [List.getD, hj]
    rw [hgd]
    exact ⟨D', d', g0, g1, g2, g3, g4, g5, g6, g7, g8⟩
/-- The shape, opened. -/
theorem shape_of {r : Reach} {b0 : Nat} {v : Value} {d : DataW H} {p : List MemPlace} (hv : Value.okWide Try.prog W r b0 22 v) (h : DataW.Trod enc Try.prog W base (fun _ => true) held 22 v d p) :
    ∃ x y : Int, v = .agg #[.int .i64 x, .int .i64 y] ∧ (Lit.int .i64 x).wf = true ∧ (Lit.int .i64 y).wf = true := by
  simp only [Value.okWide, Try.underlying22] at hv
  obtain ⟨cs, rfl, hsz, _⟩ := hv
  obtain ⟨fuel, hf⟩ := h
  obtain ⟨xs, m, _, _, _, hxl, hel⟩ := DataW.trod_array Try.underlying22 hf
  obtain ⟨l⟩ := cs
  match l, hsz.trans (show Try.prog.cellsOf 22 = 2 by kernel_rfl) with
  | [c0, c1], _ =>
    match xs, hxl with
    | [y0, y1], _ =>
      have q0 : DataW.trod enc Try.prog W base (fun _ => true) held m 3 [c0] = some y0 := by
        have h := hel 0 (by omega)
        rw [int_cells] at h
        exact h
      have q1 : DataW.trod enc Try.prog W base (fun _ => true) held m 3 [c1] = some y1 := by
        have h := hel 1 (by omega)
        rw [int_cells] at h
        exact h
      obtain ⟨a, e0, _, w0⟩ := DataW.trod_int Try.underlying3 q0
      obtain ⟨b, e1, _, w1⟩ := DataW.trod_int Try.underlying3 q1
      injection e0 with e0
      injection e1 with e1
      exact ⟨a, b, by rw [e0, e1], w0, w1⟩
end
end Go.Proofs.Ytgjmgbpphfccaaa
