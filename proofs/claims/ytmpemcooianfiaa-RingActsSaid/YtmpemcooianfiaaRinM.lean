/- The program's ring: its block, its places, gone round; what only reads. -/
import Derived.Test.YtmpemcooianfiaaRinF
import Derived.Test.YtmpemcooianfiaaRecS
namespace Go.Proofs.Ytmpemcooianfiaa
open Go Go.RowKit
set_option linter.unusedVariables false
set_option maxRecDepth 20000

theorem info_place : (Try.prog.info? 56).map (fun i => (i.zero, i.size, i.bytes)) = some (some (.agg #[.int .i64 0, .int .i64 0, .int .i64 0, .int .i64 0, .string ⟨#[]⟩, .slice none 0 0, .int .i64 0, .bool false]), 8, 88) := by kernel_rfl
theorem place_cells : Try.prog.cellsOf 56 = 8 := by kernel_rfl
/-- A place: an item, or none. -/
def plc : Option It → List Value
  | some x => x.cells ++ [.bool true]
  | none => (numIt 0).cells ++ [.bool false]
theorem plc_wide (o : Option It) : (plc o).length = 8 ∧ ∀ u ∈ plc o, u.oneCell' = true := by
  rcases o with _ | x
  · exact ⟨rfl, by decide⟩
  · refine ⟨rfl, fun u hu => ?_⟩
    unfold plc at hu
    rcases List.mem_append.1 hu with hu | hu
    · exact x.wide.2 u hu
    · rw [List.mem_singleton] at hu; subst hu; rfl
/-- Where a ticket's place is. -/
theorem mod_inj {a n i j : Nat} (hi : i < n) (hj : j < n) (h : (a + i) % n = (a + j) % n) : i = j := by
  have h1 := Nat.div_add_mod (a + i) n
  have h2 := Nat.div_add_mod (a + j) n
  rw [h] at h1
  rcases Nat.lt_trichotomy ((a + i) / n) ((a + j) / n) with h3 | h3 | h3
  · have : n * ((a + i) / n + 1) ≤ n * ((a + j) / n) := Nat.mul_le_mul_left _ h3
    rw [Nat.mul_add] at this
    omega
  · rw [h3] at h1
    omega
  · have : n * ((a + j) / n + 1) ≤ n * ((a + i) / n) := Nat.mul_le_mul_left _ h3
    rw [Nat.mul_add] at this
    omega
/-- A record is stored. -/
theorem RecW.sets {B : Nat} {e : TypeId} {s b n c k : Nat} : ∀ (vs pre post : List Value) {xs : List (List Value)} {w : World}, RecW w B e s (.slice (some ⟨b, 0, none⟩) n c) xs → xs[k]? = some (pre ++ post) → vs.length = post.length → (∀ u ∈ vs, u.oneCell' = true) →
    RecW (w.setCells b (k * s + pre.length) vs) B e s (.slice (some ⟨b, 0, none⟩) n c) (xs.set k (pre ++ vs))
  | [], pre, post, xs, w, h, hx, hl, _ => by
    rw [List.eq_nil_of_length_eq_zero hl.symm] at hx
    obtain ⟨h1, h2⟩ := List.getElem?_eq_some_iff.1 hx
    rw [← h2, List.set_getElem_self]
    exact h
  | v :: r, pre, [], xs, w, h, hx, hl, _ => by simp at hl
  | v :: r, pre, p :: post, xs, w, h, hx, hl, h1 => by
    have hs := (h.2 _ (List.mem_of_getElem? hx)).1
    have hp := h.put hx (i := pre.length) (by rw [← hs]; simp) v (h1 v (by simp))
    have e1 : (pre ++ p :: post).set pre.length v = (pre ++ [v]) ++ post := by simp
    rw [e1] at hp
    have := RecW.sets r (pre ++ [v]) post hp (by rw [List.getElem?_set_self (List.getElem?_eq_some_iff.1 hx).1]) (by simpa using hl) (fun u hu => h1 u (by simp [hu]))
    rw [List.set_set, List.length_append, List.length_singleton, List.append_assoc] at this
    exact this
/-- A ring of the program. -/
structure RPr (w : World) (F : Nat → Prop) (g b n next : Nat) (W : List (Option It)) (rs : List (List Value)) : Prop where
  low : ∀ k, F k → k < w.heap.size
  fg : F g
  fb : F b
  hn : W.length = n
  rl : rs.length = n
  blk : w.heap[g]? = some (.cells #[.slice (some ⟨b, 0, none⟩) n n, .int .i64 (next : Int)] 54 (0, 0))
  row : RecW w 0 56 8 (.slice (some ⟨b, 0, none⟩) n n) rs
  at_ : ∀ i o, W[i]? = some o → rs[(next + i) % n]? = some (plc o)
def RPt : RP := fun w F g next W => ∃ b n rs, RPr w F g b n next W rs
section
variable {w w' : World} {F : Nat → Prop} {g b n next : Nat} {W : List (Option It)} {rs : List (List Value)}
theorem RPr.lt (h : RPr w F g b n next W rs) : g < w.heap.size := h.low g h.fg
theorem RPr.bl (h : RPr w F g b n next W rs) : b < w.heap.size := h.low b h.fb
theorem RPr.keep (h : RPr w F g b n next W rs) (hs : ∀ k, F k → w'.heap[k]? = w.heap[k]?) (hz : w.heap.size ≤ w'.heap.size) : RPr w' F g b n next W rs where
  low := fun k hk => Nat.lt_of_lt_of_le (h.low k hk) hz
  fg := h.fg
  fb := h.fb
  hn := h.hn
  rl := h.rl
  blk := (hs g h.fg).trans h.blk
  row := h.row.keep fun k _ e => hs k (by injection e with e; subst e; exact h.fb)
  at_ := h.at_
theorem RPr.below (h : RPr w F g b n next W rs) (hb : Below w.heap.size w w') : RPr w' F g b n next W rs := h.keep (fun k hk => hb.block k (h.low k hk)) hb.size
theorem RPr.c0 (h : RPr w F g b n next W rs) : w.cell? ⟨g, 0, none⟩ = some (.slice (some ⟨b, 0, none⟩) n n) := cell_of_row w g 0 _ _ (0, 0) h.blk
theorem RPr.c1 (h : RPr w F g b n next W rs) : w.cell? ⟨g, 1, none⟩ = some (.int .i64 (next : Int)) := cell_of_row w g 1 _ _ (0, 0) h.blk
theorem RPr.fz (h : RPr w F g b n next W rs) (j : Nat) : w.frozen? ⟨g, j, none⟩ = false := by have := h.blk; simp [World.frozen?, this]
theorem RPr.ne (h : RPr w F g b n next W rs) : g ≠ b := fun e => row_ne_blk h.row.1 h.blk (by decide) (by rw [e]; rfl)
theorem RPr.pl (h : RPr w F g b n next W rs) {i : Nat} {o : Option It} (ho : W[i]? = some o) {j : Nat} (hj : j = (next + i) % n) : ∀ k v, (plc o)[k]? = some v → w.cell? ⟨b, j * 8 + k, none⟩ = some v := by
  obtain ⟨b', c', e1, _, _, hc⟩ := h.row.at (h.at_ i o ho)
  injection e1 with e1
  injection e1 with e1
  injection e1 with e1
  subst e1 hj
  exact hc
theorem RPr.fp (h : RPr w F g b n next W rs) (j : Nat) : w.frozen? ⟨b, j, none⟩ = false := by
  have h1 := h.row.1
  rw [h.rl] at h1
  exact h1.frozenAt _
/-- A place is stored. -/
theorem RPr.set (h : RPr w F g b n next W rs) {i : Nat} (hi : i < n) (o : Option It) {j : Nat} (hj : j = (next + i) % n) : RPr (w.setCells b (j * 8) (plc o)) F g b n next (W.set i o) (rs.set j (plc o)) := by
  have hjn : j < rs.length := by rw [h.rl, hj]; exact Nat.mod_lt _ (by omega)
  obtain ⟨x, hx⟩ : ∃ x, rs[j]? = some x := ⟨_, List.getElem?_eq_getElem hjn⟩
  have hxl := (h.row.2 x (List.mem_of_getElem? hx)).1
  have hr := RecW.sets (plc o) [] x h.row (by simpa using hx) (by rw [(plc_wide o).1, hxl]) (plc_wide o).2
  obtain ⟨hk, hz⟩ := setCells_kept b (plc o) (j * 8) w
  exact { low := fun k hk => by rw [hz]; exact h.low k hk
          fg := h.fg
          fb := h.fb
          hn := by rw [List.length_set]; exact h.hn
          rl := by rw [List.length_set]; exact h.rl
          blk := (hk.block g h.lt (fun e => h.ne (Option.some.inj e))).trans h.blk
          row := by simpa using hr
          at_ := fun q o' ho' => by
            rw [List.getElem?_set] at ho'
            by_cases hq : i = q
            · subst hq
              rw [if_pos rfl] at ho'
              split at ho'
              · injection ho' with ho'
                subst ho'
                rw [← hj, List.getElem?_set_self hjn]
              · cases ho'
            · rw [if_neg hq] at ho'
              have hql : q < n := by rw [← h.hn]; exact (List.getElem?_eq_some_iff.1 ho').1
              rw [List.getElem?_set_ne (fun e => hq (mod_inj hi hql (by rw [← hj, e])))]
              exact h.at_ q o' ho' }
theorem RPr.stepS (h : RPr w F g b n next W rs) (j : Nat) (o : Option It) : Step F F w (w.setCells b j (plc o)) := by
  obtain ⟨hk, hz⟩ := setCells_kept b (plc o) j w
  exact ⟨(Moved.refl F w).grown hk fun k e => .inl (by injection e with e; subst e; exact h.fb), fun _ h => .inl h⟩
/-- The next one is counted. -/
theorem RPr.cnt (h : RPr w F g b n next W rs) {r : List (Option It)} (hW : W = none :: r) : RPr (w.setCell ⟨g, 1, none⟩ (.int .i64 ((next + 1 : Nat) : Int))) F g b n (next + 1) (r ++ [none]) rs where
  low := fun k hk => by simpa using h.low k hk
  fg := h.fg
  fb := h.fb
  hn := by rw [← h.hn, hW]; simp
  rl := h.rl
  blk := heap_setCell_same w g 1 _ _ _ h.blk
  row := h.row.keep fun k _ e => Below.heap_setCell _ _ _ _ (by injection e with e; subst e; exact fun e => h.ne e.symm)
  at_ := fun i o ho => by
    have hl : n = r.length + 1 := by rw [← h.hn, hW]; rfl
    rcases Nat.lt_or_ge i r.length with h1 | h1
    · rw [List.getElem?_append_left h1] at ho
      rw [show next + 1 + i = next + (i + 1) by omega]
      exact h.at_ (i + 1) o (by rw [hW]; simpa using ho)
    · rw [List.getElem?_append_right h1] at ho
      have h2 : i = r.length := by
        rcases Nat.eq_zero_or_pos (i - r.length) with h2 | h2
        · omega
        · rw [List.getElem?_eq_none (by simp; omega)] at ho; cases ho
      subst h2
      rw [Nat.sub_self] at ho
      have h3 := h.at_ 0 none (by rw [hW]; rfl)
      rw [show next + 1 + r.length = next + 0 + n by omega, Nat.add_mod_right]
      simp only [List.getElem?_cons_zero, Option.some.injEq] at ho
      subst ho
      exact h3
end
end Go.Proofs.Ytmpemcooianfiaa
