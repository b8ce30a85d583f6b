/- A list of acts that came in: each a struct in which an item lies, in which a record and hits lie. -/
import Derived.Test.YtmmfioemnoijoaaBoth14
import Derived.Deep.Slices
import Derived.Deep.Fields
import Derived.ChangeSame
namespace Go.Proofs.Ytmmfioemnoijoaa
open Go Go.RowKit Go.ChangeShapes Go.WideShapes Go.ChangeAt
set_option linter.unusedVariables false
set_option maxRecDepth 20000

section
variable {H : Type} {enc : TypeId × Value → H} {W : World} {base : Nat} {held : Bool}
/-- A slice that came in reads as a list, if each of its elements does. -/
theorem reads_of {α : Type} {t e : TypeId} {s : Nat} (ht : Try.prog.underlying t = some (.slice e)) (hs : Try.prog.cellsOf e = s) (hs0 : 0 < s) (f : α → List Value) (R : α → Prop) (hw : ∀ y, (f y).length = s ∧ ∀ u ∈ f y, u.oneCell' = true)
    (each : ∀ n cs x, DataW.trod enc Try.prog W base (fun _ => true) held n e cs = some x → ∃ y, cs = f y ∧ R y)
    {a : Option Addr} {len cap fuel : Nat} {x : DataW H × List MemPlace} (hf : DataW.trod enc Try.prog W base (fun _ => true) held fuel t [.slice a len cap] = some x) :
    ∃ xs : List α, ReadR 0 W a len s (xs.map f) ∧ (∀ y ∈ xs, R y) ∧ (a = none → len = 0 ∧ cap = 0) ∧ len ≤ cap ∧ cap ≤ maxLen := by
  rcases Go.Deep.open_slice ht hf with ⟨hcs, _⟩ | ⟨ad, l, c, m, n, D, Pl, hcs, _, hl, hm, hmm, _, hel⟩
  · simp at hcs
    obtain ⟨rfl, rfl, rfl⟩ := hcs
    exact ⟨[], ReadR.nil_ _ _ _ _, fun y hy => (by cases hy), fun _ => ⟨rfl, rfl⟩, Nat.le_refl _, Nat.zero_le _⟩
  · simp at hcs
    obtain ⟨rfl, rfl, rfl⟩ := hcs
    simp only [if_true] at hmm
    subst hmm
    rw [hs] at hel
    have key : ∀ k, k ≤ len → ∃ xs : List α, xs.length = k ∧ (∀ y ∈ xs, R y) ∧ ∀ j y, xs[j]? = some y → ∀ i v, (f y)[i]? = some v → W.cell? ((ad.add (j * s)).add i) = some v := by
      intro k
      induction k with
      | zero => exact fun _ => ⟨[], rfl, fun y hy => (by cases hy), fun j y h => by simp at h⟩
      | succ k ih =>
        intro hk
        obtain ⟨xs, hxl, hR, hx⟩ := ih (by omega)
        obtain ⟨cs', hc, htr⟩ := hel k (by omega)
        obtain ⟨y, hy, hRy⟩ := each _ _ _ htr
        obtain ⟨_, hcl, hat⟩ := World.cells?_some hc
        refine ⟨xs ++ [y], by simp [hxl], fun z hz => ?_, fun j z hz i v hv => ?_⟩
        · rcases List.mem_append.1 hz with h | h
          · exact hR z h
          · rw [List.mem_singleton] at h
            subst h
            exact hRy
        · rcases Nat.lt_or_ge j xs.length with h | h
          · rw [List.getElem?_append_left h] at hz
            exact hx j z hz i v hv
          · rw [List.getElem?_append_right h] at hz
            have hj : j - xs.length = 0 := by
              have := (List.getElem?_eq_some_iff.1 hz).1
              simp at this
              omega
            rw [hj] at hz
            simp only [List.getElem?_cons_zero, Option.some.injEq] at hz
            subst hz
            have hjk : j = k := by omega
            subst hjk
            have hi := (List.getElem?_eq_some_iff.1 hv).1
            rw [(hw y).1] at hi
            rw [hat i hi, hy]
            exact hv
    obtain ⟨xs, hxl, hR, hx⟩ := key len (Nat.le_refl _)
    refine ⟨xs, ⟨⟨by simpa using hxl, fun z hz => ?_⟩, fun hn => ?_⟩, hR, fun h => (by cases h), hl, hm⟩
    · obtain ⟨y, _, rfl⟩ := List.mem_map.1 hz
      exact hw y
    · obtain ⟨b, off, spot⟩ := ad
      have hy0 := List.getElem?_eq_getElem (show 0 < xs.length by omega)
      have hv0 := List.getElem?_eq_getElem (show 0 < (f xs[0]).length by rw [(hw _).1]; exact hs0)
      have h0 := hx 0 _ hy0 0 _ hv0
      have hspot : spot = none := by simpa [Addr.add] using World.cell?_spot h0
      subst hspot
      have hadd : ∀ (o i : Nat), (⟨b, o, none⟩ : Addr).add i = ⟨b, o + i, none⟩ := fun o i => by unfold Addr.add; split <;> simp_all
      refine ⟨b, off, rfl, Nat.zero_le _, World.block_lt_of_cell? W (⟨b, off, none⟩ : Addr) (by simpa [hadd] using h0), fun j z hz i v hv => ?_⟩
      rw [List.getElem?_map] at hz
      obtain ⟨y, hy, rfl⟩ := Option.map_eq_some_iff.1 hz
      have := hx j y hy i v hv
      rwa [hadd, hadd] at this
theorem c_int : Try.prog.cellsOf 3 = 1 := by kernel_rfl
theorem c_str : Try.prog.cellsOf 9 = 1 := by kernel_rfl
theorem c_err : Try.prog.cellsOf 25 = 1 := by kernel_rfl
theorem c_hits : Try.prog.cellsOf 34 = 1 := by kernel_rfl
theorem c_rec : Try.prog.cellsOf 33 = 3 := by kernel_rfl
/-- A hit that came in. -/
theorem hit_of {n : Nat} {cs : List Value} {x : DataW H × List MemPlace} (hf : DataW.trod enc Try.prog W base (fun _ => true) held n 72 cs = some x) : ∃ y : Int × Int, cs = hcells y ∧ True := by
  obtain ⟨ys, n', _, _, hcl, hyl, hfl⟩ := DataW.trod_struct Try.underlying72 hf
  rw [hit_cells] at hcl
  match cs, hcl with
  | [c0, c1], _ =>
    match ys, hyl with
    | [y0, y1], _ =>
      have q0 : DataW.trod enc Try.prog W base (fun _ => true) held n' 3 [c0] = some y0 := by
        have h := hfl 0 _ rfl
        change DataW.trod enc Try.prog W base (fun _ => true) held n' 3 (List.take (Try.prog.cellsOf 3) [c0, c1]) = some y0 at h
        rw [c_int] at h
        exact h
      have q1 : DataW.trod enc Try.prog W base (fun _ => true) held n' 3 [c1] = some y1 := by
        have h := hfl 1 _ rfl
        change DataW.trod enc Try.prog W base (fun _ => true) held n' 3 (List.take (Try.prog.cellsOf 3) [c1]) = some y1 at h
        rw [c_int] at h
        exact h
      obtain ⟨i0, e0, _, _⟩ := DataW.trod_int Try.underlying3 q0
      obtain ⟨i1, e1, _, _⟩ := DataW.trod_int Try.underlying3 q1
      injection e0 with e0
      injection e1 with e1
      exact ⟨(i0, i1), by rw [e0, e1]; rfl, trivial⟩
/-- A record that came in. -/
theorem rec_of {n : Nat} {cs : List Value} {x : DataW H × List MemPlace} (hf : DataW.trod enc Try.prog W base (fun _ => true) held n 33 cs = some x) : ∃ (p q : Int) (s : ByteArray), cs = [.int .i64 p, .int .i64 q, .string s] := by
  obtain ⟨ys, n', _, _, hcl, hyl, hfl⟩ := DataW.trod_struct Try.underlying33 hf
  rw [c_rec] at hcl
  match cs, hcl with
  | [c0, c1, c2], _ =>
    match ys, hyl with
    | [y0, y1, y2], _ =>
      have q0 : DataW.trod enc Try.prog W base (fun _ => true) held n' 3 [c0] = some y0 := by
        have h := hfl 0 _ rfl
        change DataW.trod enc Try.prog W base (fun _ => true) held n' 3 (List.take (Try.prog.cellsOf 3) [c0, c1, c2]) = some y0 at h
        rw [c_int] at h
        exact h
      have q1 : DataW.trod enc Try.prog W base (fun _ => true) held n' 3 [c1] = some y1 := by
        have h := hfl 1 _ rfl
        change DataW.trod enc Try.prog W base (fun _ => true) held n' 3 (List.take (Try.prog.cellsOf 3) [c1, c2]) = some y1 at h
        rw [c_int] at h
        exact h
      have q2 : DataW.trod enc Try.prog W base (fun _ => true) held n' 9 [c2] = some y2 := by
        have h := hfl 2 _ rfl
        change DataW.trod enc Try.prog W base (fun _ => true) held n' 9 (List.take (Try.prog.cellsOf 9) [c2]) = some y2 at h
        rw [c_str] at h
        exact h
      obtain ⟨i0, e0, _, _⟩ := DataW.trod_int Try.underlying3 q0
      obtain ⟨i1, e1, _, _⟩ := DataW.trod_int Try.underlying3 q1
      obtain ⟨s2, e2, _, _⟩ := DataW.trod_string Try.underlying9 q2
      injection e0 with e0
      injection e1 with e1
      injection e2 with e2
      exact ⟨i0, i1, s2, by rw [e0, e1, e2]⟩
/-- An item that came in. -/
theorem item_of {n : Nat} {cs : List Value} {x : DataW H × List MemPlace} (hf : DataW.trod enc Try.prog W base (fun _ => true) held n 36 cs = some x) : ∃ y : It, cs = y.cells ∧ HitsAt 0 W y := by
  obtain ⟨ys, n', _, _, hcl, hyl, hfl⟩ := DataW.trod_struct Try.underlying36 hf
  rw [item_cells] at hcl
  match cs, hcl with
  | [c0, c1, c2, c3, c4, c5, c6], _ =>
    match ys, hyl with
    | [y0, y1, y2, y3, y4], _ =>
      have q0 : DataW.trod enc Try.prog W base (fun _ => true) held n' 3 [c0] = some y0 := by
        have h := hfl 0 _ rfl
        change DataW.trod enc Try.prog W base (fun _ => true) held n' 3 (List.take (Try.prog.cellsOf 3) [c0, c1, c2, c3, c4, c5, c6]) = some y0 at h
        rw [c_int] at h
        exact h
      have q1 : DataW.trod enc Try.prog W base (fun _ => true) held n' 3 [c1] = some y1 := by
        have h := hfl 1 _ rfl
        change DataW.trod enc Try.prog W base (fun _ => true) held n' 3 (List.take (Try.prog.cellsOf 3) [c1, c2, c3, c4, c5, c6]) = some y1 at h
        rw [c_int] at h
        exact h
      have q2 : DataW.trod enc Try.prog W base (fun _ => true) held n' 33 [c2, c3, c4] = some y2 := by
        have h := hfl 2 _ rfl
        change DataW.trod enc Try.prog W base (fun _ => true) held n' 33 (List.take (Try.prog.cellsOf 33) [c2, c3, c4, c5, c6]) = some y2 at h
        rw [c_rec] at h
        exact h
      have q3 : DataW.trod enc Try.prog W base (fun _ => true) held n' 34 [c5] = some y3 := by
        have h := hfl 3 _ rfl
        change DataW.trod enc Try.prog W base (fun _ => true) held n' 34 (List.take (Try.prog.cellsOf 34) [c5, c6]) = some y3 at h
        rw [c_hits] at h
        exact h
      have q4 : DataW.trod enc Try.prog W base (fun _ => true) held n' 25 [c6] = some y4 := by
        have h := hfl 4 _ rfl
        change DataW.trod enc Try.prog W base (fun _ => true) held n' 25 (List.take (Try.prog.cellsOf 25) [c6]) = some y4 at h
        rw [c_err] at h
        exact h
      obtain ⟨i0, e0, _, _⟩ := DataW.trod_int Try.underlying3 q0
      obtain ⟨i1, e1, _, _⟩ := DataW.trod_int Try.underlying3 q1
      obtain ⟨p, q, s, e2⟩ := rec_of q2
      obtain ⟨i4, e4, _, _⟩ := DataW.trod_int Try.underlying25 q4
      obtain ⟨D', l', d', hc5⟩ : ∃ D' l' d', c5 = .slice D' l' d' := by
        rcases Go.Deep.open_slice Try.underlying34 q3 with ⟨hcs, _⟩ | ⟨ad', l', c', m', n'', D', Pl', hcs, _⟩
        · simp at hcs
          exact ⟨_, _, _, hcs⟩
        · simp at hcs
          exact ⟨_, _, _, hcs⟩
      subst hc5
      obtain ⟨hs, hrd, -, hnil, -⟩ := reads_of Try.underlying34 hit_cells (by decide) hcells (fun _ => True) (fun y => ⟨rfl, fun u hu => by
        simp only [hcells, List.mem_cons, List.not_mem_nil, or_false] at hu
        rcases hu with rfl | rfl <;> rfl⟩) (fun n cs x h => hit_of h) q3
      injection e0 with e0
      injection e1 with e1
      injection e2 with e2 e2'
      injection e2' with e3 e2'
      injection e2' with e2'
      injection e4 with e4
      exact ⟨⟨i0, i1, p, q, s, D', l', d', hs, i4⟩, by rw [e0, e1, e2, e3, e2', e4]; rfl, hrd, hnil⟩
/-- An act that came in. -/
theorem act_of {n : Nat} {cs : List Value} {x : DataW H × List MemPlace} (hf : DataW.trod enc Try.prog W base (fun _ => true) held n 38 cs = some x) : ∃ y : Act14, cs = y.cells ∧ HitsAt 0 W y.x := by
  obtain ⟨ys, n', _, _, hcl, hyl, hfl⟩ := DataW.trod_struct Try.underlying38 hf
  rw [act_cells] at hcl
  match cs, hcl with
  | [a0, a1, c0, c1, c2, c3, c4, c5, c6], _ =>
    match ys, hyl with
    | [y0, y1, y2], _ =>
      have q0 : DataW.trod enc Try.prog W base (fun _ => true) held n' 3 [a0] = some y0 := by
        have h := hfl 0 _ rfl
        change DataW.trod enc Try.prog W base (fun _ => true) held n' 3 (List.take (Try.prog.cellsOf 3) [a0, a1, c0, c1, c2, c3, c4, c5, c6]) = some y0 at h
        rw [c_int] at h
        exact h
      have q1 : DataW.trod enc Try.prog W base (fun _ => true) held n' 3 [a1] = some y1 := by
        have h := hfl 1 _ rfl
        change DataW.trod enc Try.prog W base (fun _ => true) held n' 3 (List.take (Try.prog.cellsOf 3) [a1, c0, c1, c2, c3, c4, c5, c6]) = some y1 at h
        rw [c_int] at h
        exact h
      have q2 : DataW.trod enc Try.prog W base (fun _ => true) held n' 36 [c0, c1, c2, c3, c4, c5, c6] = some y2 := by
        have h := hfl 2 _ rfl
        change DataW.trod enc Try.prog W base (fun _ => true) held n' 36 (List.take (Try.prog.cellsOf 36) [c0, c1, c2, c3, c4, c5, c6]) = some y2 at h
        rw [item_cells] at h
        exact h
      obtain ⟨i0, e0, _, _⟩ := DataW.trod_int Try.underlying3 q0
      obtain ⟨i1, e1, _, _⟩ := DataW.trod_int Try.underlying3 q1
      obtain ⟨z, ez, hz⟩ := item_of q2
      injection e0 with e0
      injection e1 with e1
      exact ⟨⟨i0, i1, z⟩, by rw [e0, e1, ez]; rfl, hz⟩
theorem act_wide (a : Act14) : a.cells.length = 9 ∧ ∀ u ∈ a.cells, u.oneCell' = true := by
  refine ⟨rfl, fun u hu => ?_⟩
  rcases List.mem_cons.1 hu with rfl | hu
  · rfl
  · rcases List.mem_cons.1 hu with rfl | hu
    · rfl
    · exact a.x.wide.2 u hu
theorem acts14_of {a : Option Addr} {len cap fuel : Nat} {x : DataW H × List MemPlace} (hf : DataW.trod enc Try.prog W base (fun _ => true) held fuel 22 [.slice a len cap] = some x) : ∃ xs, RowA14 W a len xs := by
  obtain ⟨xs, h1, h2, _⟩ := reads_of Try.underlying22 act_cells (by decide) Act14.cells (fun y => HitsAt 0 W y.x) act_wide (fun n cs x h => act_of h) hf
  exact ⟨xs, h1, h2⟩
end
end Go.Proofs.Ytmmfioemnoijoaa
