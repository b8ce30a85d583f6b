/- A row of whole numbers that is cut at its head and grows at its end; the held ones of a pool, in the order in which they were taken. -/
import Derived.Test.YtgjmgbpphfccaaaPView
import Derived.Test.YtgjmgbpphfccaaaLawLine
import Derived.ArgAppend
namespace Go.Proofs.Ytgjmgbpphfccaaa
open Go Go.RowKit
set_option linter.unusedVariables false

/-- The slice lies somewhere in a block of the call's own and reads as xs. -/
def QRow (w : World) (B : Nat) (v : Value) (n : Nat) (xs : List Nat) : Prop :=
  xs.length = n ∧ ((v = .slice none 0 0 ∧ n = 0) ∨ ∃ g o cap cur, v = .slice (some ⟨g, o, none⟩) n cap ∧ B ≤ g ∧ w.heap[g]? = some (.cells cur 3 (0, 0)) ∧ n ≤ cap ∧ cap ≤ maxLen ∧ o + cap ≤ cur.size ∧ ∀ j, j < n → cur[o + j]? = some (.int .i64 ((xs.getD j 0 : Nat) : Int)))
section
variable {w w' : World} {B n : Nat} {v : Value} {xs : List Nat}
theorem QRow.nil_ (w : World) (B : Nat) : QRow w B (.slice none 0 0) 0 [] := ⟨rfl, .inl ⟨rfl, rfl⟩⟩
theorem QRow.keep (h : QRow w B v n xs) (hk : ∀ k, k < w.heap.size → v.ownBlock = some k → w'.heap[k]? = w.heap[k]?) : QRow w' B v n xs := by
  refine ⟨h.1, ?_⟩
  rcases h.2 with h2 | ⟨g, o, cap, cur, rfl, hb, hg, hr⟩
  · exact .inl h2
  · exact .inr ⟨g, o, cap, cur, rfl, hb, (hk g (Array.getElem?_eq_some_iff.1 hg).1 rfl).trans hg, hr⟩
theorem QRow.moved {F : Nat → Prop} (h : QRow w B v n xs) (hm : Moved F w w') (ho : Out F v) : QRow w' B v n xs := h.keep fun k hk hv => hm.block k hk (ho k hv)
theorem QRow.below (h : QRow w B v n xs) (hb : Below w.heap.size w w') : QRow w' B v n xs := h.keep fun k hk hv => hb.block k hk
theorem QRow.lt (h : QRow w B v n xs) {k : Nat} (hk : v.ownBlock = some k) : B ≤ k ∧ k < w.heap.size := by
  rcases h.2 with ⟨rfl, _⟩ | ⟨g, o, cap, cur, rfl, hb, hg, _⟩
  · cases hk
  · injection hk with hk
    subst hk
    exact ⟨hb, (Array.getElem?_eq_some_iff.1 hg).1⟩
theorem QRow.step {F F' : Nat → Prop} (h : QRow w B v n xs) (ho : Out F v) (hs : Step F F' w w') : Out F' v := fun k hk hF => by
  rcases hs.2 k hF with h1 | h1
  · exact ho k hk h1
  · have := (h.lt hk).2
    omega
/-- What it is as a value; its cells. -/
theorem QRow.form (h : QRow w B v n xs) : ∃ A c, v = .slice A n c ∧ n ≤ c ∧ c ≤ maxLen ∧ (0 < n → ∃ b o, A = some ⟨b, o, none⟩ ∧ ∀ j, j < n → w.cell? ⟨b, o + j, none⟩ = some (.int .i64 ((xs.getD j 0 : Nat) : Int))) := by
  rcases h.2 with ⟨rfl, rfl⟩ | ⟨g, o, cap, cur, rfl, hb, hg, h1, h2, h3, h4⟩
  · exact ⟨none, 0, rfl, Nat.le_refl _, Nat.zero_le _, fun h => by omega⟩
  · refine ⟨_, cap, rfl, h1, h2, fun _ => ⟨g, o, rfl, fun j hj => ?_⟩⟩
    rw [cell_of_row w g (o + j) cur _ (0, 0) hg]
    exact h4 j hj
/-- s[1:]. -/
theorem QRow.cut1 {A : Option Addr} {c x : Nat} (h : QRow w B (.slice A (n + 1) c) (n + 1) (x :: xs)) :
    ∃ v', (∀ w : World, (Instr.slice 41 (.slice A (n + 1) c) (some (.int .i64 1)) none none).run Try.prog w = .ok v' w) ∧ QRow w B v' n xs ∧ v'.ownBlock = (Value.slice A (n + 1) c).ownBlock := by
  rcases h.2 with ⟨_, h0⟩ | ⟨g, o, cap, cur, hv, hb, hg, h1, h2, h3, h4⟩
  · omega
  · injection hv with e1 _ e3
    subst e1; subst e3
    have hsl : ∀ w : World, (Instr.slice 41 (.slice (some ⟨g, o, none⟩) (n + 1) c) (some (.int .i64 1)) none none).run Try.prog w = .ok (.slice (some ⟨g, if c = 1 then o else o + 1, none⟩) n (c - 1)) w := by
      intro w
      have hr := run_slice_l (P := Try.prog) (w := w) (t := 41) (a := some ⟨g, o, none⟩) (len := n + 1) (cap := c) (ht := i_slice) (kl := .i64) (l := 1) (h0 := by omega) (h1 := by omega)
      rw [hr, i_elem, i_size]
      by_cases h1 : c = 1
      · simp [Result.andThen, sliced, h1]
      · simp [Result.andThen, sliced, h1, Addr.add]
    refine ⟨.slice (some ⟨g, if c = 1 then o else o + 1, none⟩) n (c - 1), hsl, ⟨by have := h.1; simpa using this, .inr ⟨g, _, c - 1, cur, rfl, hb, hg, by omega, by unfold maxLen at *; omega, ?_, fun j hj => ?_⟩⟩, rfl⟩
    · split <;> omega
    · rw [if_neg (by omega), Nat.add_assoc, Nat.add_comm 1 j]
      have := h4 (j + 1) (by omega)
      simpa using this
/-- append of one value. -/
theorem QRow.push (h : QRow w B v n xs) (x : Nat) (hn : n ≤ 1000) (hB : B ≤ w.heap.size) :
    ∃ v' w', (Builtin.append_ #[41, 41] 41 #[v, .slice (some ⟨w.heap.size, 0, none⟩) 1 1]).run Try.prog (w.alloc (.cells #[.int .i64 (x : Int)] 3)) = .ok v' w' ∧ QRow w' B v' (n + 1) (xs ++ [x]) ∧ w.grownBy w' v.ownBlock ∧ ∀ k, v'.ownBlock = some k → v.ownBlock = some k ∨ w.heap.size ≤ k := by
  obtain ⟨i0, hi, hz0, hz1, hz2⟩ := info_parts info_int
  have hnew := cell_one_new w (.int .i64 (x : Int)) 3
  have hof : ∀ (v' : Value) (w' : World) (base : Nat) (ys : List Value), B ≤ base → w'.ownsRow base 3 1 v' (n + 1) ys → ys = iv xs ++ [.int .i64 (x : Int)] → QRow w' B v' (n + 1) (xs ++ [x]) := by
    intro v' w' base ys hb ho hys
    refine ⟨by simp [h.1], ?_⟩
    rcases ho.2 with ⟨_, h0⟩ | ⟨g, cap, cur, rfl, hbg, hg, h1, h2, h3, h4⟩
    · omega
    · refine .inr ⟨g, 0, cap, cur, rfl, by omega, hg, h1, h2, by omega, fun j hj => ?_⟩
      have e1 : (cur.toList.take ((n + 1) * 1))[j]? = ys[j]? := by rw [h4]
      rw [List.getElem?_take_of_lt (by omega), Array.getElem?_toList] at e1
      rw [Nat.zero_add, e1, hys]
      have hj2 : j < (xs ++ [x]).length := by simp [h.1]; omega
      have e2 : (iv xs ++ [Value.int .i64 (x : Int)]) = iv (xs ++ [x]) := by rw [iv_append]; rfl
      rw [e2]
      unfold iv ints
      rw [List.getElem?_map, List.getElem?_map, List.getElem?_eq_getElem hj2]
      simp [List.getD, List.getElem?_eq_getElem hj2]
  rcases h.2 with ⟨rfl, rfl⟩ | ⟨g, o, cap, cur, rfl, hb, hg, h1, h2, h3, h4⟩
  · have hx : xs = [] := List.eq_nil_of_length_eq_zero h.1
    subst hx
    obtain ⟨v', w', r1, r2, r3, r4⟩ := push_at 41 3 (.int .i64 0) 8 Try.underlying41 info_int rfl w B (.slice none 0 0) 0 [] (World.ownsRow_nil _ _ _ _) (.int .i64 (x : Int)) rfl (by omega) (by unfold maxLen; omega) hB
    exact ⟨v', w', r1, hof v' w' B _ (Nat.le_refl _) r2 rfl, r3, r4⟩
  · have hgl := (Array.getElem?_eq_some_iff.1 hg).1
    have hg1 : (w.alloc (.cells #[.int .i64 (x : Int)] 3)).heap[g]? = some (.cells cur 3 (0, 0)) := (Below.heap_alloc w _ g hgl).trans hg
    by_cases hroom : n + 1 ≤ cap
    · have hc : ∀ j, j < [Value.int .i64 (x : Int)].length → ((w.alloc (.cells #[.int .i64 (x : Int)] 3)).cell? ⟨g, o + n * i0.size + j, none⟩).isSome = true := by
        intro j hj
        simp at hj
        rw [cell_of_row _ g _ cur _ (0, 0) hg1, hz1, Array.getElem?_eq_getElem (by omega)]
        rfl
      have hr := run_append_room_cells (P := Try.prog) (w.alloc (.cells #[.int .i64 (x : Int)] 3)) 41 41 3 i0 Try.underlying41 hi g o n cap ⟨w.heap.size, 0, none⟩ 1 1 [.int .i64 (x : Int)] (by rw [hz1]; rfl) hnew (by simp [Value.oneCell']) hroom hc (fun j hj => by simp [World.frozen?, hg1])
      rw [hz1, Nat.mul_one] at hr
      refine ⟨_, _, hr, ⟨by simp [h.1], .inr ⟨g, o, cap, cur.setIfInBounds (o + n) (.int .i64 (x : Int)), rfl, hb, ?_, hroom, h2, by simpa using h3, fun j hj => ?_⟩⟩, ?_, fun k hk => .inl hk⟩
      · have := heap_setCell_same (w.alloc (.cells #[.int .i64 (x : Int)] 3)) g (o + n) cur 3 (.int .i64 (x : Int)) hg1
        simpa [World.setCells] using this
      · by_cases hjn : j = n
        · subst hjn
          rw [Array.getElem?_setIfInBounds_self_of_lt (by omega)]
          simp [List.getD, ← h.1]
        · rw [Array.getElem?_setIfInBounds_ne (by omega), h4 j (by omega)]
          simp only [List.getD]
          rw [List.getElem?_append_left (by have := h.1; omega)]
      · refine World.grownBy.trans (World.grownBy_alloc w (.cells #[.int .i64 (x : Int)] 3) _) ⟨rfl, rfl, rfl, by simp [World.setCells, World.setCell], fun k _ hk => ?_⟩
        have := heap_setCell_other (w.alloc (.cells #[.int .i64 (x : Int)] 3)) ⟨g, o + n, none⟩ k (.int .i64 (x : Int)) (fun e => hk (by simp [Value.ownBlock, e]))
        simpa [World.setCells] using this
    · have holds : ∀ j u, (iv xs)[j]? = some u → (w.alloc (.cells #[.int .i64 (x : Int)] 3)).cell? ((⟨g, o, none⟩ : Addr).add j) = some u := by
        intro j u hu
        have hj : j < xs.length := by
          have := (List.getElem?_eq_some_iff.1 hu).1
          simpa [iv, ints] using this
        have hadd : (⟨g, o, none⟩ : Addr).add j = ⟨g, o + j, none⟩ := by unfold Addr.add; split <;> simp_all
        rw [hadd, cell_of_row _ g _ cur _ (0, 0) hg1, h4 j (by have := h.1; omega), ← hu]
        simp [iv, ints, List.getD, List.getElem?_eq_getElem hj]
      obtain ⟨v', w', r1, r2, r3⟩ := run_append_arg_grows (P := Try.prog) (w.alloc (.cells #[.int .i64 (x : Int)] 3)) 41 41 3 i0 (.int .i64 0) 1 8 Try.underlying41 hi hz0 hz1 hz2 rfl (by decide) ⟨g, o, none⟩ n cap (iv xs) (by rw [iv_length, h.1]; omega) holds ⟨w.heap.size, 0, none⟩ 1 1 [.int .i64 (x : Int)] rfl hnew (by omega) (by unfold maxLen; omega) (by omega)
      refine ⟨v', w', r1, hof v' w' _ _ (by simp; omega) r2 rfl, ⟨r3.os, r3.tape, r3.output, by have := r3.size; simp at this; omega, fun k hk _ => (r3.block k (by simp; omega) (by simp)).trans (Below.heap_alloc w _ k hk)⟩, fun k hk => .inr ?_⟩
      have := (row_lt r2 hk).1
      simp at this
      omega
end

/-- H are the held ones, each held once. -/
structure Inv (k : Nat) (s : St) (H : List Nat) : Prop where
  one : ∀ h ∈ H, heldL s.hs (h : Int) = 1
  nd : H.Nodup
  all : H.length + s.ln.length = k
section
variable {k size M : Nat} {s : St} {H : List Nat}
theorem heldL_set (hs : List Nat) (i j x : Nat) (hi : i < hs.length) : heldL (hs.set i x) (j : Int) = if i = j then x else heldL hs (j : Int) := by
  rw [heldL_nat, heldL_nat]
  simp only [List.getD, List.getElem?_set]
  by_cases h : i = j
  · subst h; simp [hi]
  · simp [h]
theorem heldL_get {hs : List Nat} {i x : Nat} (h : hs[i]? = some x) : heldL hs (i : Int) = x := by rw [heldL_nat, List.getD, h]; rfl
theorem Inv.take (h : Inv k s H) (hg : Good k size M s) {i : Nat} {r : List Nat} (hl : s.ln = i :: r) : Inv k (takeS s) (H ++ [i]) ∧ heldL (takeS s).hs (i : Int) = 1 ∧ octX (takeS s) (i : Int) = [] ∧ takeX s = (i : Int) ∧ takeE s = 0 := by
  have hf := hg.fr i (by rw [hl]; simp)
  have hi : i < s.hs.length := (List.getElem?_eq_some_iff.1 hf).1
  have e : takeS s = ⟨s.os, s.hs.set i 1, r⟩ := by simp [takeS, hl]
  have h1 : heldL (takeS s).hs (i : Int) = 1 := by rw [e]; simp only; rw [heldL_set _ _ _ _ hi, if_pos rfl]
  refine ⟨⟨fun x hx => ?_, ?_, ?_⟩, h1, ?_, by simp [takeX, hl], by simp [takeE, hl]⟩
  · rcases List.mem_append.1 hx with hx | hx
    · rw [e]; simp only
      rw [heldL_set _ _ _ _ hi]
      split
      · rfl
      · exact h.one x hx
    · simp only [List.mem_singleton] at hx
      subst hx
      exact h1
  · rw [List.nodup_append]
    refine ⟨h.nd, by simp, fun a ha b hb e' => ?_⟩
    simp only [List.mem_singleton] at hb
    rw [hb] at e'
    subst e'
    have := h.one a ha
    rw [heldL_get hf] at this
    omega
  · have := h.all
    rw [e]
    simp only [List.length_append, List.length_singleton]
    rw [hl] at this
    simp at this
    omega
  · have he := hg.emp i hf
    rw [octX, if_neg (by omega), e]
    simp [List.getD, he]
theorem Inv.fill (h : Inv k s H) (hg : Good k size M s) {i : Nat} (hi : heldL s.hs (i : Int) = 1) (ys : List Int) (hy : ys.length ≤ size) :
    fillE size s (i : Int) ys.length = 0 ∧ Inv k (fillS size s (i : Int) ys) H ∧ octX (fillS size s (i : Int) ys) (i : Int) = ys := by
  have e1 : fillE size s (i : Int) ys.length = 0 := by simp [fillE, hi]; omega
  have e2 : fillS size s (i : Int) ys = ⟨s.os.set i ys, s.hs, s.ln⟩ := by simp [fillS, e1]
  have hlt : i < s.os.length := by
    obtain ⟨j, hj, h1, _⟩ := heldL_pos (hs := s.hs) (i := (i : Int)) (by omega)
    have := hg.hn; have := hg.lo; omega
  refine ⟨e1, ?_, ?_⟩
  · rw [e2]; exact ⟨h.one, h.nd, h.all⟩
  · rw [octX, if_neg (by rw [e2]; simp only; omega), e2]
    simp [List.getD, hlt]
theorem Inv.drop {h0 : Nat} (h : Inv k s (h0 :: H)) (hg : Good k size M s) : turnE s (h0 : Int) = 0 ∧ Inv k (dropS s (h0 : Int)) H := by
  have h1 := h.one h0 (by simp)
  have hnd := h.nd
  simp only [List.nodup_cons] at hnd
  obtain ⟨j, hj, hjl, _⟩ := heldL_pos (hs := s.hs) (i := (h0 : Int)) (by omega)
  have e : dropS s (h0 : Int) = ⟨s.os.set h0 [], s.hs.set h0 0, s.ln ++ [h0]⟩ := by simp [dropS, h1]
  refine ⟨by simp [turnE, h1], ⟨fun x hx => ?_, hnd.2, ?_⟩⟩
  · rw [e]; simp only
    rw [heldL_set _ _ _ _ (by omega), if_neg (fun e => hnd.1 (by rw [e]; exact hx))]
    exact h.one x (by simp [hx])
  · have := h.all
    rw [e]
    simp at this ⊢
    omega
theorem all_free (h : Good k size M s) (hl : s.ln.length = k) : allL s.os = 0 := by
  have h1 := all_le size s.os s.hs (by rw [h.lo, h.hn]) h.len h.emp
  have h2 := h.cnt
  rw [show s.hs.countP (fun h => decide (0 < h)) = 0 by omega] at h1
  omega
end
/-- The slice of slices of octets at A with n elements: its element j is a slice that reads as the list j of ps. -/
def RowC (w : World) (A : Option Addr) (n : Nat) (ps : List (List Int)) : Prop :=
  ps.length = n ∧ (0 < n → ∃ b o, A = some ⟨b, o, none⟩ ∧ b < w.heap.size ∧ ∀ j, j < n → ∃ D d, w.cell? ⟨b, o + j, none⟩ = some (.slice D (ps.getD j []).length d) ∧ RowI .u8 w D (ps.getD j []).length (ps.getD j []) ∧ (D = none → (ps.getD j []).length = 0 ∧ d = 0) ∧ (ps.getD j []).length ≤ d ∧ d ≤ maxLen)
theorem rowC_of_rows {W : World} {base : Nat} {a : Addr} {len cap : Nat} {A : Nat → Option Addr} {L C : Nat → Nat} {Z : Nat → List Int} (hl : len ≤ cap)
    (h : ∀ r, r < cap → W.cell? (a.add r) = some (.slice (A r) (L r) (C r)) ∧ L r ≤ C r ∧ C r ≤ maxLen ∧ (Z r).length = C r ∧ (∀ n ∈ Z r, (Lit.int .u8 n).wf = true) ∧ (A r = none → C r = 0) ∧
      ∀ a', A r = some a' → base ≤ a'.block ∧ ∀ c, c < C r → W.cell? (a'.add c) = some (.int .u8 ((Z r).getD c 0))) :
    ∃ ps, RowC W (some a) len ps := by
  refine ⟨(List.range len).map fun r => (Z r).take (L r), by simp, fun hn => ?_⟩
  obtain ⟨b, off, spot⟩ := a
  have h0 := (h 0 (by omega)).1
  have hspot : spot = none := by simpa [Addr.add] using World.cell?_spot h0
  subst hspot
  refine ⟨b, off, rfl, World.block_lt_of_cell? W (⟨b, off, none⟩ : Addr) (by simpa [Addr.add] using h0), fun j hj => ?_⟩
  have hadd : (⟨b, off, none⟩ : Addr).add j = ⟨b, off + j, none⟩ := by unfold Addr.add; split <;> simp_all
  obtain ⟨h1, h2, h3, h4, _, h6, h7⟩ := h j (by omega)
  rw [hadd] at h1
  have hgd : ((List.range len).map fun r => (Z r).take (L r)).getD j [] = (Z j).take (L j) := by simp [List.getD, hj]
  have hlen : ((Z j).take (L j)).length = L j := by rw [List.length_take]; omega
  rw [hgd, hlen]
  refine ⟨A j, C j, h1, ⟨hlen, fun hp => ?_⟩, (fun hA => ⟨by have := h6 hA; omega, h6 hA⟩), h2, h3⟩
  rcases hAj : A j with _ | ⟨b2, o2, s2⟩
  · have := h6 hAj; omega
  · have hc := (h7 _ hAj).2
    have hc0 := hc 0 (by omega)
    have hs2 : s2 = none := by simpa [Addr.add] using World.cell?_spot hc0
    subst hs2
    refine ⟨b2, o2, rfl, World.block_lt_of_cell? W (⟨b2, o2, none⟩ : Addr) (by simpa [Addr.add] using hc0), fun m hm => ?_⟩
    have hadd2 : (⟨b2, o2, none⟩ : Addr).add m = ⟨b2, o2 + m, none⟩ := by unfold Addr.add; split <;> simp_all
    have := hc m (by omega)
    rw [hadd2] at this
    rw [this]
    simp [List.getD, hm]
end Go.Proofs.Ytgjmgbpphfccaaa
