/- The document's run of a program: the walk. -/
import Derived.Test.YtegcebgoiocakaaM07
import Derived.Test.YtegcebgoiocakaaM11
import Derived.Test.YtegcebgoiocakaaN01
import Derived.Test.YtegcebgoiocakaaN02
import Derived.Deep.RegionHeldLaw
import Derived.BigQuiet
namespace Go.Proofs.Ytegcebgoiocakaa
open Go Go.RowKit
set_option linter.unusedVariables false
set_option maxRecDepth 20000

theorem info_bool : (Try.prog.info? 4).map (fun i => (i.zero, i.size, i.bytes)) = some (some (.bool false), 1, 1) := by kernel_rfl
theorem info_two : (Try.prog.info? 94).map (fun i => (i.zero, i.size, i.bytes)) = some (some (.agg #[.int .i64 0, .int .i64 0]), 2, 16) := by kernel_rfl
theorem made_bools (n : Nat) : madeCells #[Value.bool false] n = ((List.replicate n false).map Value.bool).toArray := by
  apply Array.ext
  · rw [size_madeCells]; simp
  · intro i h1 h2
    simp [madeCells, Nat.mod_one]
def pairI (x : Nat × Nat) : Int × Int := ((x.1 : Int), (x.2 : Int))
def seenOf (o : Option Obj) : List Bool := match o with | some (.cells cs _ _) => cs.toList.map (fun v => match v with | .bool b => b | _ => false) | _ => []
theorem seenOf_cells (seen : List Bool) (t : TypeId) (f : Nat × Nat) : seenOf (some (.cells (seen.map Value.bool).toArray t f)) = seen := by
  unfold seenOf
  simp only [List.map_map]
  conv => rhs; rw [← List.map_id seen]
  rfl
def lenV (v : Value) : Nat := match v with | .slice _ n _ => n | _ => 0
/-- The last one is taken off. -/
theorem ownP_cut {w : World} {B : Nat} {e : TypeId} {P : Option Addr} {n pc : Nat} {xs : List (Int × Int)} {x : Int × Int} (h : w.ownsRow B e 2 (.slice P (n + 1) pc) (n + 1) (cellsG (xs ++ [x]))) : w.ownsRow B e 2 (.slice P n pc) n (cellsG xs) ∧ (Value.slice P n pc).ownBlock = (Value.slice P (n + 1) pc).ownBlock := by
  have hl := h.1
  rw [cellsG_length, List.length_append, List.length_singleton] at hl
  rcases h.2 with ⟨e, h0⟩ | ⟨b, cap, cur, e, hB, hb, hnc, hcm, hcs, ht⟩
  · omega
  · injection e with e1' _ e3
    subst e1'; subst e3
    refine ⟨⟨by rw [cellsG_length]; omega, .inr ⟨b, _, cur, rfl, hB, hb, by omega, hcm, hcs, ?_⟩⟩, rfl⟩
    have h2 := congrArg (List.take (n * 2)) ht
    rw [List.take_take, Nat.min_eq_left (by omega)] at h2
    rw [h2, cellsG_append, List.take_append_of_le_length (by rw [cellsG_length]; omega)]
    exact List.take_of_length_le (by rw [cellsG_length]; omega)
/-- The run's memory: what is seen, what is an end, what is to do. -/
structure DfsM (W wr : World) (D : Option Addr) (q dc : Nat) (seen out : List Bool) (todo : List (Nat × Nat)) : Prop where
  sb : wr.heap[W.heap.size]? = some (.cells (seen.map Value.bool).toArray 4 (0, 0))
  ob : wr.heap[W.heap.size + 1]? = some (.cells (out.map Value.bool).toArray 4 (0, 0))
  row : wr.ownsRow W.heap.size 94 2 (.slice D q dc) q (cellsG (todo.map pairI))
  bel : Below W.heap.size W wr
section
variable {W wr w' : World} {D : Option Addr} {q dc : Nat} {seen out : List Bool} {todo : List (Nat × Nat)}
theorem DfsM.lt (h : DfsM W wr D q dc seen out todo) : W.heap.size < wr.heap.size ∧ W.heap.size + 1 < wr.heap.size := ⟨(Array.getElem?_eq_some_iff.1 h.sb).1, (Array.getElem?_eq_some_iff.1 h.ob).1⟩
theorem DfsM.below (h : DfsM W wr D q dc seen out todo) (hb : Below wr.heap.size wr w') : DfsM W w' D q dc seen out todo :=
  ⟨(hb.block _ h.lt.1).trans h.sb, (hb.block _ h.lt.2).trans h.ob, row_keep h.row fun k hk _ => hb.block k hk, h.bel.trans (hb.mono h.bel.size)⟩
theorem DfsM.len (h : DfsM W wr D q dc seen out todo) : todo.length = q := by have := pairs_len h.row; rwa [List.length_map] at this
theorem DfsM.cut {x : Nat × Nat} (h : DfsM W wr D (q + 1) dc seen out (todo ++ [x])) : DfsM W wr D q dc seen out todo := by
  have := h.row
  rw [List.map_append] at this
  exact ⟨h.sb, h.ob, (ownP_cut this).1, h.bel⟩
theorem DfsM.mark (h : DfsM W wr D q dc seen out todo) (j : Nat) : DfsM W (wr.setCell ⟨W.heap.size, j, none⟩ (.bool true)) D q dc (seen.set j true) out todo := by
  refine ⟨?_, (Below.heap_setCell _ _ _ _ (by simp)).trans h.ob, row_keep h.row fun k hk hv => Below.heap_setCell _ _ _ _ fun e => row_ne_blk h.row h.sb (by decide) (by have e : k = W.heap.size := e; rw [← e]; exact hv), h.bel.setCell (p := ⟨W.heap.size, j, none⟩) (Nat.le_refl _) _⟩
  rw [heap_setCell_same wr W.heap.size j _ _ (.bool true) h.sb]
  simp [List.map_set]
theorem DfsM.outm (h : DfsM W wr D q dc seen out todo) (j : Nat) : DfsM W (wr.setCell ⟨W.heap.size + 1, j, none⟩ (.bool true)) D q dc seen (out.set j true) todo := by
  refine ⟨(Below.heap_setCell _ _ _ _ (by simp)).trans h.sb, ?_, row_keep h.row fun k hk hv => Below.heap_setCell _ _ _ _ fun e => row_ne_blk h.row h.ob (by decide) (by have e : k = W.heap.size + 1 := e; rw [← e]; exact hv), h.bel.setCell (p := ⟨W.heap.size + 1, j, none⟩) (Nat.le_succ _) _⟩
  rw [heap_setCell_same wr (W.heap.size + 1) j _ _ (.bool true) h.ob]
  simp [List.map_set]
theorem DfsM.push (h : DfsM W wr D q dc seen out todo) (ys : List (Nat × Nat)) (hy : ys.length ≤ 2) (hq : q ≤ 1000000) :
    ∃ D' dc' w', (Builtin.append_ #[95, 95] 95 #[.slice D q dc, .slice (some ⟨wr.heap.size, 0, none⟩) ys.length ys.length]).run Try.prog (wr.alloc (.cells (cellsG (ys.map pairI)).toArray 94)) = .ok (.slice D' (q + ys.length) dc') w' ∧ DfsM W w' D' (q + ys.length) dc' seen out (todo ++ ys) := by
  have hb0 : Below wr.heap.size wr (wr.alloc (.cells (cellsG (ys.map pairI)).toArray 94)) := (Below.refl _ _).alloc (Nat.le_refl _) _
  have h1 := h.below hb0
  obtain ⟨D', dc', w', happ, ho, hb, hk⟩ := pushP 95 94 Try.underlying95 info_two h1.row (ys.map pairI) (d := wr.heap.size) (hp_new rfl) hq (by rw [List.length_map]; omega) (by have := h.bel.size; simp; omega)
  rw [List.length_map] at happ ho
  refine ⟨D', dc', w', happ, (hk _ h1.lt.1 (row_ne_blk h1.row h1.sb (by decide))).trans h1.sb, (hk _ h1.lt.2 (row_ne_blk h1.row h1.ob (by decide))).trans h1.ob, ?_, h1.bel.trans hb⟩
  rw [List.map_append]
  exact ho
theorem DfsM.seen_at (h : DfsM W wr D q dc seen out todo) {j : Nat} {b : Bool} (hj : seen[j]? = some b) : wr.cell? ⟨W.heap.size, j, none⟩ = some (.bool b) ∧ wr.frozen? ⟨W.heap.size, j, none⟩ = false := by
  refine ⟨?_, by simp [World.frozen?, h.sb]⟩
  rw [cell_of_row _ W.heap.size j _ _ (0, 0) h.sb]
  simp [hj]
theorem DfsM.out_at (h : DfsM W wr D q dc seen out todo) {j : Nat} (hj : j < out.length) : (∃ b, wr.cell? ⟨W.heap.size + 1, j, none⟩ = some (.bool b)) ∧ wr.frozen? ⟨W.heap.size + 1, j, none⟩ = false := by
  refine ⟨⟨out[j], ?_⟩, by simp [World.frozen?, h.ob]⟩
  rw [cell_of_row _ (W.heap.size + 1) j _ _ (0, 0) h.ob]
  simp [List.getElem?_eq_getElem hj]
end
theorem end_round {W wr w' : World} {D D' : Option Addr} {q dc q' dc' : Nat} {seen out seen' out' : List Bool} {todo todo' : List (Nat × Nat)} (hM : DfsM W wr D (q + 1) dc seen out todo) (hM' : DfsM W w' D' q' dc' seen' out' todo') (hl : leftN seen' q' < leftN seen (q + 1)) :
    leftN (seenOf w'.heap[W.heap.size]?) (lenV (.slice D' q' dc')) < leftN (seenOf wr.heap[W.heap.size]?) (lenV (.slice D (q + 1) dc)) := by
  rw [hM.sb, hM'.sb, seenOf_cells, seenOf_cells]
  exact hl
theorem left_le {seen : List Bool} {q : Nat} : q ≤ leftN seen q := by unfold leftN; omega
/-- Where it goes on, by what it is. -/
theorem succ_end {p : List InstL} {rs : List Int} {i k : Nat} {v : InstL} (hv : p[i]? = some v) (h : v.op = 0) : succL p rs i k = [] := by
  unfold succL; rw [hv]; simp only; rw [if_neg (by omega)]; split
  · unfold outs; rw [if_pos h]; rfl
  · rfl
theorem succ_split {p : List InstL} {rs : List Int} {i k : Nat} {v : InstL} (hv : p[i]? = some v) (h : v.op = 2) : succL p rs i k = [(v.x.toNat, k), (v.y.toNat, k)] := by
  unfold succL; rw [hv]; simp only; rw [if_neg (by omega), if_pos (by simp [openA, h])]; unfold outs; rw [if_neg (by omega), if_pos h]; rfl
theorem succ_edge {p : List InstL} {rs : List Int} {i k : Nat} {v : InstL} (hv : p[i]? = some v) (h : v.op = 3 ∨ v.op = 4) : succL p rs i k = if openA rs.length k v.op = true then [(v.x.toNat, k)] else [] := by
  unfold succL; have h1 : v.op ≠ 1 ∧ v.op ≠ 0 ∧ v.op ≠ 2 := by omega
  rw [hv]; simp only; rw [if_neg h1.1]; unfold outs; rw [if_neg h1.2.1, if_neg h1.2.2]; rfl
theorem succ_char {p : List InstL} {rs : List Int} {i k : Nat} {v : InstL} (hv : p[i]? = some v) (h : v.op = 1) : succL p rs i k = (match rs[k]? with | some r => if hasL v.set r = true then [(v.x.toNat, k + 1)] else [] | none => []) := by
  unfold succL; rw [hv]; simp only; rw [if_pos h]; cases rs[k]? <;> rfl
set_option maxHeartbeats 8000000 in
theorem rrun_any {F : Nat → Prop} (A : Option Addr) (n c : Nat) (l : List IV) (RA : Option Addr) (m rc : Nat) (rs : List Int) (a : Nat) (w : World) (hi0 : InsF F w A n l) (hr : rightB n l = true) (hrs : RowI .i64 w RA m rs) (hset : ∀ v ∈ l, v.n ≤ 1000000) (hmn : (m + 1) * n ≤ 50000) (hm : m ≤ 1000) (ha : a ≤ m) :
    Calls Try.prog 31 #[.slice A n c, .slice RA m rc, .int .i64 (a : Int)] w fun e w' => ∃ (P : Option Addr) (pc : Nat) (out : List Bool), e = .returned (.slice P (m + 1) pc) ∧ (∃ b, P = some ⟨b, 0, none⟩ ∧ w'.heap[b]? = some (.cells (out.map Value.bool).toArray 4 (0, 0))) ∧ out.length = m + 1 ∧ (∀ k, k ≤ m → (out[k]? = some true ↔ Hits (l.map fun v => v.i) rs a k)) ∧ Below w.heap.size w w' := by
  obtain ⟨hok, hn0, hp⟩ := right_parts hi0 hr
  obtain ⟨bA, oA, hA, _, _, _⟩ := hi0.2.1 hn0
  subst hA
  have hml : rs.length = m := hrs.1
  have hnl : l.length = n := hi0.1
  obtain ⟨M, hM⟩ : ∃ M : Nat, M = m + 1 := ⟨_, rfl⟩
  obtain ⟨N, hN⟩ : ∃ N : Nat, N = M * n := ⟨_, rfl⟩
  have hn1 : n ≤ 50000 := Nat.le_trans (Nat.le_mul_of_pos_left n (Nat.succ_pos m)) hmn
  have hNb : N ≤ 50000 := by rw [hN, hM]; exact hmn
  have hMI : (m : Int) + 1 = (M : Int) := by omega
  have hNI : (M : Int) * (n : Int) = (N : Int) := by rw [hN]; push_cast; rfl
  have hmkN := run_make_row' (P := Try.prog) 47 4 (.bool false) 1 Try.underlying47 info_bool rfl .i64 .i64 N (by omega) (by omega)
  have hmkM := run_make_row' (P := Try.prog) 47 4 (.bool false) 1 Try.underlying47 info_bool rfl .i64 .i64 M (by omega) (by omega)
  rw [made_bools] at hmkN hmkM
  obtain ⟨S0, hS0⟩ : ∃ S0, S0 = List.replicate N false := ⟨_, rfl⟩
  obtain ⟨O0, hO0⟩ : ∃ O0, O0 = List.replicate M false := ⟨_, rfl⟩
  rw [← hS0] at hmkN
  rw [← hO0] at hmkM
  have hD0 := Dfs.begin (p := l.map fun v => v.i) (rs := rs) (a := a) (by rw [List.length_map]; omega) (by omega)
  rw [List.length_map, hnl, hml, ← hM, ← hN, ← hS0, ← hO0] at hD0
  have hL0 : leftN S0 1 ≤ 150001 := by
    unfold leftN
    have := List.countP_le_length (p := fun b => !b) (l := S0)
    rw [hS0, List.length_replicate] at this
    rw [hS0]
    omega
  have ha0 : ¬ (a : Int) < 0 := by omega
  have ha1 : ¬ (M : Int) ≤ (a : Int) := by omega
  have HSet := Lib.hid hset
  clear hset
  have HD := Lib.hid (And.intro hD0 hL0)
  have HI := Lib.hid (And.intro (hi0.mono (F' := fun b => b < w.heap.size) fun b _ h => h) (And.intro hok (And.intro hp (And.intro hrs (And.intro hml (And.intro hnl (And.intro hM hN)))))))
  clear hi0 hr hrs hok hp hml hnl hM hN hmn hS0 hO0 hD0 hL0
  have hw1 : IntKind.i64.wrap (N : Int) = (N : Int) := by rw [IntKind.wrap_i64]; omega
  have hw2 : IntKind.i64.wrap (M : Int) = (M : Int) := by rw [IntKind.wrap_i64]; omega
  go_enter Try.func31, Try.ntmps31
  go_wp2_with fail
  go_loopw [10] (fun v10 wr => ∃ (D : Option Addr) (q dc : Nat), v10 = .slice D q dc ∧ q ≤ 150001 ∧ Hid (∃ seen out todo, Dfs (l.map fun v => v.i) rs a seen out todo ∧ leftN seen q ≤ 150001 ∧ DfsM w wr D q dc seen out todo)) (fun v10 wr => leftN (seenOf wr.heap[w.heap.size]?) (lenV v10))
  case atStart =>
    refine ⟨some ⟨w.heap.size + 1 + 1, 0, none⟩, 1, 1, rfl, by omega, Lib.hid ⟨S0, O0, [(0, a)], HD.out.1, HD.out.2, ⟨hp_old (hp_old (hp_new rfl)), hp_old (hp_new (by simp)), ?_, ?_⟩⟩⟩
    · exact ⟨rfl, .inr ⟨w.heap.size + 1 + 1, 1, #[.int .i64 0, .int .i64 (a : Int)], rfl, by omega, hp_new (by simp), by decide, by unfold maxLen; omega, rfl, rfl⟩⟩
    · exact (((Below.refl _ _).alloc (Nat.le_refl _) _).alloc (by simp) _).alloc (by simp; omega) _
  case round =>
    obtain ⟨D, q, dc, rfl, hq, H⟩ := hrel
    rcases q with _ | q
    · go_wp2
      go_ret
      obtain ⟨seen, out, todo, hD, hL, hM⟩ := H.out
      obtain rfl : todo = [] := List.eq_nil_of_length_eq_zero hM.len
      have hml := HI.out.2.2.2.2.1
      have hMm := HI.out.2.2.2.2.2.2.1
      have ho := hD.over HI.out.2.2.1
      rw [hml] at ho
      rw [← hMm]
      exact ⟨_, M, out, rfl, ⟨w.heap.size + 1, rfl, hM.ob⟩, by rw [hD.lo, hml]; omega, ho, hM.bel⟩
    · obtain ⟨seen, out, todo0, hD, hL, hM⟩ := H.out
      have hlen := hM.len
      obtain ⟨todo, x, rfl⟩ : ∃ todo x, todo0 = todo ++ [x] := by
        rcases List.eq_nil_or_concat todo0 with e | ⟨td, x, e⟩
        · rw [e] at hlen; simp at hlen
        · exact ⟨td, x, by rw [e]; simp⟩
      obtain ⟨i, k⟩ := x
      have hlq : todo.length = q := by rw [List.length_append, List.length_singleton] at hlen; omega
      obtain ⟨bd, hDd, _, _, hbd, ci, ck⟩ := pair_at hM.row (j := q) (x := pairI (i, k)) (by rw [List.map_append, List.getElem?_append_right (by rw [List.length_map]; omega), List.length_map, hlq]; simp)
      subst hDd
      simp only [pairI] at ci ck
      obtain ⟨hin, hkm, _⟩ := hD.td i k (by simp)
      obtain ⟨j, hj⟩ : ∃ j, j = i * M + k := ⟨_, rfl⟩
      obtain ⟨jm, hjm⟩ : ∃ jm, jm = i * M := ⟨_, rfl⟩
      have hI := HI.out
      rw [List.length_map, hI.2.2.2.2.2.1] at hin
      rw [hI.2.2.2.2.1] at hkm
      have hMs : rs.length + 1 = M := by rw [hI.2.2.2.2.1]; exact hI.2.2.2.2.2.2.1.symm
      have hjN : j < N := by rw [hj, hI.2.2.2.2.2.2.2]; exact idx_lt hin (by omega)
      obtain ⟨sb, hsb⟩ := hD.bound (i := i) (k := k) (by simp)
      rw [hMs, ← hj] at hsb
      have e1 : (i : Int) * (M : Int) = (jm : Int) := by rw [hjm]; push_cast; rfl
      have e2 : (jm : Int) + (k : Int) = (j : Int) := by rw [hjm, hj]; push_cast; rfl
      have j0 : (0 : Int) ≤ (j : Int) := by omega
      have j1 : (j : Int) < (N : Int) := by omega
      have q0 : (0 : Int) ≤ (q : Int) := by omega
      have q1 : (q : Int) < (q : Int) + 1 := by omega
      have q2 : ((q : Int) + 1) - 1 = (q : Int) := by omega
      have HX := Lib.hid (And.intro hD (And.intro hL (And.intro hM (And.intro hlq (And.intro hin (And.intro hkm (And.intro hMs (And.intro hj hsb))))))))
      obtain ⟨cs, fs⟩ := hM.seen_at hsb
      have hqc : (q : Int) ≤ (dc : Int) := by
        rcases hM.row.2 with ⟨_, h0⟩ | ⟨b, cap, cur, ev, hB, hb, hnc, hcm, hcs, ht⟩
        · omega
        · injection ev with _ _ e3
          omega
      obtain ⟨v, hv⟩ : ∃ v, l[i]? = some v := ⟨_, List.getElem?_eq_getElem (by omega)⟩
      have hIw := hI.1.belowB hM.bel
      obtain ⟨b', o', hA', hbF, hbl, _, v0, v1, v2, v3⟩ := hIw.one hv
      injection hA' with hA'
      injection hA' with hb1 hb2 _
      subst hb1; subst hb2
      have hOK := hI.2.1 v (List.mem_of_getElem? hv)
      have HV := Lib.hid (And.intro hv (And.intro (hI.1.2.2 v (List.mem_of_getElem? hv)) (And.intro v0 (And.intro v1 (And.intro v2 (And.intro v3 hbF))))))
      have i0 : (0 : Int) ≤ (i : Int) := by omega
      have i1 : (i : Int) < (n : Int) := by omega
      clear hD hL hM hlen hlq hI hin hkm hMs hj hjm hsb hjN hbd hv hIw v0 v1 v2 v3 hbF hbl
      cases sb with
      | true =>
        go_wp2
        go_quiet (fail)
        go_wp2
        obtain ⟨hD, hL, hM, hlq, hin, hkm, hMs, hj, hsb⟩ := HX.out
        have h1 := hD.old (by rw [hMs, ← hj]; exact hsb)
        have h2 := leftN_old (seen := seen) (t := q)
        exact ⟨⟨_, q, dc, rfl, by omega, Lib.hid ⟨seen, out, todo, h1, by omega, hM.cut.below (below_drewN (Below.refl _ _) _)⟩⟩, end_round hM (hM.cut.below (below_drewN (Below.refl _ _) _)) h2⟩
      | false =>
        go_wp2
        go_quiet (fail)
        obtain ⟨hD, hL, hM, hlq, hin, hkm, hMs, hj, hsb⟩ := HX.out
        have hM2 := (hM.cut.below (w' := wr.drewN nq) (below_drewN (Below.refl _ _) _)).mark j
        have hcell : ∀ o, ((wr.drewN nq).setCell ⟨w.heap.size, j, none⟩ (.bool true)).cell? ⟨bA, o, none⟩ = wr.cell? ⟨bA, o, none⟩ := fun o => heap_cell (Below.heap_setCell _ _ _ _ (by have h1 : bA < w.heap.size := HV.out.2.2.2.2.2.2; show bA ≠ w.heap.size; omega)) o
        have k0 := (hcell _).trans HV.out.2.2.1
        have k1 := (hcell _).trans HV.out.2.2.2.1
        have k2 := (hcell _).trans HV.out.2.2.2.2.1
        have k3 := (hcell _).trans HV.out.2.2.2.2.2.1
        obtain ⟨vi, VA, vn, vc⟩ := v
        obtain ⟨op, st, vx, vy⟩ := vi
        simp only at k0 k1 k2 k3 hOK
        have hpv : (l.map fun v => v.i)[i]? = some ⟨op, st, vx, vy⟩ := by rw [List.getElem?_map, HV.out.1]; rfl
        obtain ⟨X, hX⟩ : ∃ X, X = (wr.drewN nq).setCell ⟨w.heap.size, j, none⟩ (.bool true) := ⟨_, rfl⟩
        have hXs : X.heap.size = wr.heap.size := by rw [hX]; simp
        obtain ⟨Y, hY⟩ : ∃ Y, Y = X.alloc (.cells #[.int .i64 op, .slice VA vn vc, .int .i64 vx, .int .i64 vy] 45) := ⟨_, rfl⟩
        have hYs : Y.heap.size = wr.heap.size + 1 := by rw [hY]; simp [hXs]
        rw [← hX] at hM2
        have hM3 : DfsM w Y (some ⟨bd, 0, none⟩) q dc (seen.set j true) out todo := by rw [hY]; exact hM2.below ((Below.refl _ _).alloc (Nat.le_refl _) _)
        have hq6 : q ≤ 1000000 := by omega
        have hEnd : ∀ (nx : List (Nat × Nat)), nx = succL (l.map fun v => v.i) rs i k → Dfs (l.map fun v => v.i) rs a (seen.set j true) (if op = 0 then out.set k true else out) (todo ++ nx) ∧ leftN (seen.set j true) (q + nx.length) < leftN seen (q + 1) := by
          intro nx hnx
          have h1 := hD.new HI.out.2.2.1 hpv hnx
          rw [hMs, ← hj] at h1
          exact ⟨h1, leftN_new hsb (by rw [hnx]; exact succL_len _ _ _ _)⟩
        have hout : out.length = M := by rw [hD.lo]; exact hMs
        have HE := Lib.hid (And.intro hEnd (And.intro hM3 (And.intro hYs (And.intro hM (And.intro hL (And.intro hpv (And.intro hkm hout)))))))
        have HY := Lib.hid (And.intro hX hY)
        have hfin : ∀ (w' : World) (D' : Option Addr) (dc' : Nat) (nx : List (Nat × Nat)) (out' : List Bool), nx = succL (l.map fun v => v.i) rs i k → out' = (if op = 0 then out.set k true else out) → DfsM w w' D' (q + nx.length) dc' (seen.set j true) out' (todo ++ nx) →
            (∃ (D : Option Addr) (q_1 dc : Nat), Value.slice D' (q + nx.length) dc' = .slice D q_1 dc ∧ q_1 ≤ 150001 ∧ Hid (∃ seen out todo, Dfs (l.map fun v => v.i) rs a seen out todo ∧ leftN seen q_1 ≤ 150001 ∧ DfsM w w' D q_1 dc seen out todo)) ∧ leftN (seenOf w'.heap[w.heap.size]?) (lenV (.slice D' (q + nx.length) dc')) < leftN (seenOf wr.heap[w.heap.size]?) (lenV (.slice (some ⟨bd, 0, none⟩) (q + 1) dc)) := by
          intro w' D' dc' nx out' h1 h2 h3
          obtain ⟨g1, g2⟩ := HE.out.1 nx h1
          have g3 := HE.out.2.2.2.2.1
          have g4 := left_le (seen := seen.set j true) (q := q + nx.length)
          exact ⟨⟨D', _, dc', rfl, by omega, Lib.hid ⟨_, _, _, g1, by omega, by rw [← h2]; exact h3⟩⟩, end_round HE.out.2.2.2.1 h3 g2⟩
        have HFin := Lib.hid hfin
        clear hD hL hM hlq hin hkm hMs hj hsb hM2 hcell hpv hM3 hEnd hX hY hXs hYs hout hfin
        rcases okB_cases hOK with h0 | ⟨h0, x, y, hx, hy, hxn, hyn⟩ | ⟨h0, x, hx, hxn⟩
        · simp only at h0
          subst h0
          have hM4 := HE.out.2.1
          rw [HY.out.2, HY.out.1] at hM4
          obtain ⟨⟨ob, co⟩, fo⟩ := hM4.out_at (j := k) (by have := HE.out.2.2.2.2.2.2; omega)
          have hk1 : (k : Int) < (M : Int) := by have := HE.out.2.2.2.2.2.2; omega
          have hk0 : (0 : Int) ≤ (k : Int) := by omega
          have HM4 := Lib.hid (hM4.outm k)
          clear hM4 hOK
          go_wp2
          have := HFin.out _ _ _ [] _ (succ_end HE.out.2.2.2.2.2.1 rfl).symm rfl (by rw [List.append_nil]; exact HM4.out)
          exact this
        · simp only at h0 hx hy
          subst h0; subst hx; subst hy
          obtain ⟨D', dc', w4, happ, hM4⟩ := HE.out.2.1.push [(x, k), (y, k)] (by simp) (by omega)
          rw [show (cellsG ([(x, k), (y, k)].map pairI)).toArray = #[.int .i64 (x : Int), .int .i64 (k : Int), .int .i64 (y : Int), .int .i64 (k : Int)] from rfl, show [(x, k), (y, k)].length = 2 from rfl, HE.out.2.2.1, HY.out.2, HY.out.1] at happ
          have HAPP := Lib.hid happ
          have HM4 := Lib.hid hM4
          clear happ hM4 hOK
          go_wp2_with (at_builtin; refine wpList_append_run rfl (.tmp 108) (.tmp 117) 95 rfl rfl _ _ _ _ rfl rfl HAPP.out ?_)
          exact HFin.out _ _ _ [(x, k), (y, k)] _ (by rw [succ_split HE.out.2.2.2.2.2.1 rfl]; simp) (by rw [if_neg (by decide)]) HM4.out
        · simp only at h0 hx
          subst hx
          rcases h0 with h0 | h0 | h0
          · subst h0
            clear hOK
            have hml := HI.out.2.2.2.2.1
            have hbY := HE.out.2.1.bel
            have hbx : Y.heap[wr.heap.size]? = some (.cells #[.int .i64 1, .slice VA vn vc, .int .i64 (x : Int), .int .i64 vy] 45 (0, 0)) := by
              rw [HY.out.2]
              exact hp_new (by rw [HY.out.1]; simp)
            have y1 := cell_of_row Y wr.heap.size 1 _ _ (0, 0) hbx
            have y2 := cell_of_row Y wr.heap.size 2 _ _ (0, 0) hbx
            simp only [List.getElem?_toArray, List.getElem?_cons_succ, List.getElem?_cons_zero] at y1 y2
            have hYw := HY.out
            by_cases hk : k < m
            · obtain ⟨r, hr⟩ : ∃ r, rs[k]? = some r := ⟨_, List.getElem?_eq_getElem (by omega)⟩
              obtain ⟨bR, oR, hRA, hbR, hcR⟩ := HI.out.2.2.2.1.2 (by omega)
              have cR : Y.cell? ⟨bR, oR + k, none⟩ = some (.int .i64 r) := by
                have h1 := hcR k hk
                rw [List.getD, hr] at h1
                exact (hbY.cell (p := ⟨bR, oR + k, none⟩) hbR).trans h1
              obtain ⟨R, hR⟩ : ∃ R, R = hasL st r := ⟨_, rfl⟩
              have hG : RowG Y VA vn st := (HV.out.2.1.1.keep hbY.size fun b hb _ => hbY.block b hb).1
              have KH := Lib.hid fun q => (rhas_any st VA vn vc r (Y.drewN q) (hG.below (below_drewN (Below.refl _ _) q) (Nat.le_refl _)) (HSet.out _ (List.mem_of_getElem? HV.out.1))).mono fun e w' (h : _ ∧ _) => And.intro h.1 h.2.symm
              rw [← hR] at KH
              subst hRA
              have hk1 : (k : Int) < (m : Int) := by omega
              have hk2 : decide ((k : Int) < (m : Int)) = true := decide_eq_true hk1
              have hk3 : decide (k < m) = true := decide_eq_true hk
              have hk0 : (0 : Int) ≤ (k : Int) := by omega
              have HR := Lib.hid (And.intro hr (And.intro hR hk))
              clear hr hR hG hbY hbR hcR hml hbx hYw hk
              go_wp2
              rw [← HY.out.1, ← HY.out.2]
              clear hMI hNI hmkN hmkM hw1 hw2 ha0 ha1 e1 e2 j0 j1 q0 q1 q2 fs hqc i0 i1 cs k0 k1 k2 k3
              go_quiet ((go_at_call 50; with_reducible exact Calls.quiet_of_same (KH.out _)))
              have z2 : (Y.drewN nq).cell? ⟨wr.heap.size, 2, none⟩ = some (.int .i64 (x : Int)) := y2
              cases R with
              | true =>
                obtain ⟨D', dc', w4, happ, hM4⟩ := (HE.out.2.1.below (w' := Y.drewN nq) (below_drewN (Below.refl _ _) _)).push [(x, k + 1)] (by simp) (by omega)
                rw [show (cellsG ([(x, k + 1)].map pairI)).toArray = #[.int .i64 (x : Int), .int .i64 ((k : Int) + 1)] from by simp [cellsG, pairI], show [(x, k + 1)].length = 1 from rfl, show (Y.drewN nq).heap.size = Y.heap.size from rfl] at happ
                have HAPP := Lib.hid happ
                have HM4 := Lib.hid hM4
                clear happ hM4
                go_wp2_with (at_builtin; refine wpList_append_run rfl (.tmp 98) (.tmp 104) 95 rfl rfl _ _ _ _ rfl rfl HAPP.out ?_)
                exact HFin.out _ _ _ [(x, k + 1)] _ (by rw [succ_char HE.out.2.2.2.2.2.1 rfl, HR.out.1]; simp only; rw [if_pos HR.out.2.1.symm]; simp) (by rw [if_neg (by decide)]) HM4.out
              | false =>
                go_wp2
                have hM4 := HE.out.2.1.below (w' := Y.drewN nq) (below_drewN (Below.refl _ _) _)
                exact HFin.out _ _ _ [] _ (by rw [succ_char HE.out.2.2.2.2.2.1 rfl, HR.out.1]; simp only; rw [if_neg (by rw [← HR.out.2.1]; simp)]) (by rw [if_neg (by decide)]) (by rw [List.append_nil]; exact hM4)
            · have hk1 : ¬ (k : Int) < (m : Int) := by omega
              have hk2 : decide ((k : Int) < (m : Int)) = false := decide_eq_false hk1
              have hk3 : decide (k < m) = false := decide_eq_false hk
              have HR := Lib.hid (And.intro hml hk)
              clear hbY hml hbx hYw hk
              go_wp2
              rw [← HY.out.1, ← HY.out.2]
              go_quiet (fail)
              go_wp2
              have hM4 := HE.out.2.1.below (w' := Y.drewN nq) (below_drewN (Below.refl _ _) _)
              exact HFin.out _ _ _ [] _ (by rw [succ_char HE.out.2.2.2.2.2.1 rfl, List.getElem?_eq_none (by have := HR.out; omega)]) (by rw [if_neg (by decide)]) (by rw [List.append_nil]; exact hM4)
          · subst h0
            by_cases hk : k = 0
            · subst hk
              obtain rfl : j = jm := by omega
              simp only [Int.ofNat_zero] at ck e2
              obtain ⟨D', dc', w4, happ, hM4⟩ := HE.out.2.1.push [(x, 0)] (by simp) (by omega)
              rw [show (cellsG ([(x, 0)].map pairI)).toArray = #[.int .i64 (x : Int), .int .i64 0] from rfl, show [(x, 0)].length = 1 from rfl, HE.out.2.2.1, HY.out.2, HY.out.1] at happ
              have HAPP := Lib.hid happ
              have HM4 := Lib.hid hM4
              clear happ hM4 hOK
              go_wp2_with (at_builtin; refine wpList_append_run rfl (.tmp 123) (.tmp 128) 95 rfl rfl _ _ _ _ rfl rfl HAPP.out ?_)
              exact HFin.out _ _ _ [(x, 0)] _ (by rw [succ_edge HE.out.2.2.2.2.2.1 (.inl rfl), if_pos (by simp [openA])]; simp) (by rw [if_neg (by decide)]) HM4.out
            · have hk0 : ¬ (k : Int) = 0 := by omega
              have hk1 : ¬ k = 0 := hk
              clear hOK
              go_wp2
              exact HFin.out _ _ _ [] _ (by rw [succ_edge HE.out.2.2.2.2.2.1 (.inl rfl), if_neg (by simp [openA, hk])]) (by rw [if_neg (by decide)]) (by rw [List.append_nil, ← HY.out.1, ← HY.out.2]; exact HE.out.2.1)
          · subst h0
            have hml := HI.out.2.2.2.2.1
            by_cases hk : k = m
            · subst hk
              obtain ⟨D', dc', w4, happ, hM4⟩ := HE.out.2.1.push [(x, k)] (by simp) (by omega)
              rw [show (cellsG ([(x, k)].map pairI)).toArray = #[.int .i64 (x : Int), .int .i64 (k : Int)] from rfl, show [(x, k)].length = 1 from rfl, HE.out.2.2.1, HY.out.2, HY.out.1] at happ
              have HAPP := Lib.hid happ
              have HM4 := Lib.hid hM4
              clear happ hM4 hOK
              have HML := Lib.hid hml
              clear hml
              go_wp2_with (at_builtin; refine wpList_append_run rfl (.tmp 136) (.tmp 141) 95 rfl rfl _ _ _ _ rfl rfl HAPP.out ?_)
              exact HFin.out _ _ _ [(x, k)] _ (by rw [succ_edge HE.out.2.2.2.2.2.1 (.inr rfl), if_pos (by simp [openA, HML.out])]; simp) (by rw [if_neg (by decide)]) HM4.out
            · have hk0 : ¬ (k : Int) = (m : Int) := by omega
              have hk1 : decide ((k : Int) = (m : Int)) = false := decide_eq_false hk0
              have hk2 : decide (k = m) = false := decide_eq_false hk
              have HML := Lib.hid hml
              clear hOK hml
              go_wp2
              exact HFin.out _ _ _ [] _ (by rw [succ_edge HE.out.2.2.2.2.2.1 (.inr rfl), if_neg (by simp [openA, HML.out, hk])]) (by rw [if_neg (by decide)]) (by rw [List.append_nil, ← HY.out.1, ← HY.out.2]; exact HE.out.2.1)
end Go.Proofs.Ytegcebgoiocakaa
