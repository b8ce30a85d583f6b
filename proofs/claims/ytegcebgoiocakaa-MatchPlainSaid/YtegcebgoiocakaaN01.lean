/- The document's texts: code points and places. -/
import Derived.Test.YtegcebgoiocakaaM02
import Derived.Test.YtegcebgoiocakaaM03
import Derived.Test.YtegcebgoiocakaaM06
import Derived.Test.YtegcebgoiocakaaM07
import Derived.Test.YtegcebgoiocakaaM09
import Derived.Test.YtegcebgoiocakaaM10
import Derived.Test.YtegcebgoiocakaaM11
import Derived.Test.YtegcebgoiocakaaM12
import Derived.Test.YtegcebgoiocakaaM19
import Derived.Laws.ResultCell
import Derived.RangeFuncFrom
namespace Go.Proofs.Ytegcebgoiocakaa
open Go Go.RowKit
set_option linter.unusedVariables false
set_option maxRecDepth 20000

/-- A text in the making: its box and its two rows. -/
structure TX (W : World) (bx : Nat) (w : World) (P : Option Addr) (k pc : Nat) (Q : Option Addr) (m qc : Nat) (rs ats : List Int) : Prop where
  hb : w.heap[bx]? = some (.cells #[.slice P k pc, .slice Q m qc] 30 (0, 0))
  o1 : w.ownsRow W.heap.size 3 1 (.slice P k pc) k (rs.map (.int .i64))
  o2 : w.ownsRow W.heap.size 3 1 (.slice Q m qc) m (ats.map (.int .i64))
  n1 : (Value.slice P k pc).ownBlock ≠ some bx
  n2 : (Value.slice Q m qc).ownBlock ≠ some bx
  ne : ∀ b, (Value.slice P k pc).ownBlock = some b → (Value.slice Q m qc).ownBlock ≠ some b
  hB : W.heap.size ≤ bx
  be : Below W.heap.size W w
section
variable {W w w' : World} {bx : Nat} {P Q : Option Addr} {k pc m qc : Nat} {rs ats : List Int}
theorem TX.lt (h : TX W bx w P k pc Q m qc rs ats) : bx < w.heap.size := (Array.getElem?_eq_some_iff.1 h.hb).1
theorem TX.below (h : TX W bx w P k pc Q m qc rs ats) (hb : Below w.heap.size w w') : TX W bx w' P k pc Q m qc rs ats :=
  ⟨(hb.block _ h.lt).trans h.hb, own_kept h.o1 hb, own_kept h.o2 hb, h.n1, h.n2, h.ne, h.hB, h.be.trans (hb.mono h.be.size)⟩
theorem TX.cells (h : TX W bx w P k pc Q m qc rs ats) : w.cell? ⟨bx, 0, none⟩ = some (.slice P k pc) ∧ w.cell? ⟨bx, 1, none⟩ = some (.slice Q m qc) ∧ ∀ j, w.frozen? ⟨bx, j, none⟩ = false :=
  ⟨cell_of_row _ bx 0 _ _ (0, 0) h.hb, cell_of_row _ bx 1 _ _ (0, 0) h.hb, fun j => by simp [World.frozen?, h.hb]⟩
theorem TX.push1 (h : TX W bx w P k pc Q m qc rs ats) (hk : k ≤ 100000) (x : Int) :
    ∃ P' pc' w', (Builtin.append_ #[27, 27] 27 #[.slice P k pc, .slice (some ⟨w.heap.size, 0, none⟩) 1 1]).run Try.prog (w.alloc (.cells #[.int .i64 x] 3)) = .ok (.slice P' (k + 1) pc') w' ∧
      w'.cell? ⟨bx, 0, none⟩ = some (.slice P k pc) ∧ w'.frozen? ⟨bx, 0, none⟩ = false ∧ TX W bx (w'.setCell ⟨bx, 0, none⟩ (.slice P' (k + 1) pc')) P' (k + 1) pc' Q m qc (rs ++ [x]) ats ∧ ∀ g, g < w.heap.size → g ≠ bx → (Value.slice P k pc).ownBlock ≠ some g → (w'.setCell ⟨bx, 0, none⟩ (.slice P' (k + 1) pc')).heap[g]? = w.heap[g]? := by
  obtain ⟨P', pc', w', h1, h2, h3, h4⟩ := pushI_at h.o1 hk h.be x
  have hbx := h4 bx h.lt h.n1
  have hh : w'.heap[bx]? = some (.cells #[.slice P k pc, .slice Q m qc] 30 (0, 0)) := hbx.2.trans h.hb
  have hne : ∀ b, (Value.slice Q m qc).ownBlock = some b → (Value.slice P' (k + 1) pc').ownBlock ≠ some b ∧ w'.heap[b]? = w.heap[b]? := fun b hb => h4 b (row_lt h.o2 hb).2 fun e => h.ne b e hb
  refine ⟨P', pc', w', h1, cell_of_row _ bx 0 _ _ (0, 0) hh, by simp [World.frozen?, hh], ⟨?_, ?_, ?_, hbx.1, h.n2, fun b hb hq => (hne b hq).1 hb, h.hB, h3.setCell (p := ⟨bx, 0, none⟩) h.hB _⟩, fun g hg hne hw => (Below.heap_setCell _ _ _ _ hne).trans (h4 g hg hw).2⟩
  · exact heap_setCell_same w' bx 0 _ _ (.slice P' (k + 1) pc') hh
  · exact row_keep h2 fun i hi hv => Below.heap_setCell _ _ _ _ fun e => hbx.1 (by have e : i = bx := e; subst e; exact hv)
  · refine row_keep h.o2 fun i hi hv => (Below.heap_setCell _ _ _ _ fun e => h.n2 (by have e : i = bx := e; subst e; exact hv)).trans (hne i hv).2
theorem TX.push2 (h : TX W bx w P k pc Q m qc rs ats) (hk : m ≤ 100000) (x : Int) :
    ∃ Q' qc' w', (Builtin.append_ #[27, 27] 27 #[.slice Q m qc, .slice (some ⟨w.heap.size, 0, none⟩) 1 1]).run Try.prog (w.alloc (.cells #[.int .i64 x] 3)) = .ok (.slice Q' (m + 1) qc') w' ∧
      w'.cell? ⟨bx, 1, none⟩ = some (.slice Q m qc) ∧ w'.frozen? ⟨bx, 1, none⟩ = false ∧ TX W bx (w'.setCell ⟨bx, 1, none⟩ (.slice Q' (m + 1) qc')) P k pc Q' (m + 1) qc' rs (ats ++ [x]) ∧ ∀ g, g < w.heap.size → g ≠ bx → (Value.slice Q m qc).ownBlock ≠ some g → (w'.setCell ⟨bx, 1, none⟩ (.slice Q' (m + 1) qc')).heap[g]? = w.heap[g]? := by
  obtain ⟨Q', qc', w', h1, h2, h3, h4⟩ := pushI_at h.o2 hk h.be x
  have hbx := h4 bx h.lt h.n2
  have hh : w'.heap[bx]? = some (.cells #[.slice P k pc, .slice Q m qc] 30 (0, 0)) := hbx.2.trans h.hb
  have hne : ∀ b, (Value.slice P k pc).ownBlock = some b → (Value.slice Q' (m + 1) qc').ownBlock ≠ some b ∧ w'.heap[b]? = w.heap[b]? := fun b hb => h4 b (row_lt h.o1 hb).2 fun e => h.ne b hb e
  refine ⟨Q', qc', w', h1, cell_of_row _ bx 1 _ _ (0, 0) hh, by simp [World.frozen?, hh], ⟨?_, ?_, ?_, h.n1, hbx.1, fun b hb hq => (hne b hb).1 hq, h.hB, h3.setCell (p := ⟨bx, 1, none⟩) h.hB _⟩, fun g hg hne hw => (Below.heap_setCell _ _ _ _ hne).trans (h4 g hg hw).2⟩
  · exact heap_setCell_same w' bx 1 _ _ (.slice Q' (m + 1) qc') hh
  · refine row_keep h.o1 fun i hi hv => (Below.heap_setCell _ _ _ _ fun e => h.n1 (by have e : i = bx := e; subst e; exact hv)).trans (hne i hv).2
  · exact row_keep h2 fun i hi hv => Below.heap_setCell _ _ _ _ fun e => hbx.1 (by have e : i = bx := e; subst e; exact hv)
end
theorem box_two' {w : World} {b : Nat} {x y : Value} {t : TypeId} (h : w.heap[b]? = some (.cells #[x, y] t (0, 0))) : w.cell? ⟨b, 0, none⟩ = some x ∧ w.cell? ⟨b, 1, none⟩ = some y ∧ w.frozen? ⟨b, 0, none⟩ = false ∧ w.frozen? ⟨b, 1, none⟩ = false :=
  ⟨cell_of_row _ b 0 _ _ (0, 0) h, cell_of_row _ b 1 _ _ (0, 0) h, by simp [World.frozen?, h], by simp [World.frozen?, h]⟩
theorem box_put' {w : World} {b : Nat} {x y x' y' : Value} {t : TypeId} (h : w.heap[b]? = some (.cells #[x, y] t (0, 0))) : ((w.setCell ⟨b, 0, none⟩ x').setCell ⟨b, 1, none⟩ y').heap[b]? = some (.cells #[x', y'] t (0, 0)) := by
  rw [heap_setCell_same _ b 1 _ _ _ (heap_setCell_same w b 0 _ _ _ h)]; rfl
theorem results_cellT {fn : Func} {p : Tmp} {ty : TypeId} (h : fn.results = #[.cell p ty]) (tmps : Array Value) (P : Program) (w : World) :
    (results fn tmps).run P w = ((asAddr (tmps.getD p undef)).run P w).andThen fun a w₁ => (loadVar ty a).run P w₁ := by
  simp only [results, h]
  simp [Sem.run_bind, Result.andThen]
/-- What Of answers. -/
def TextV (T : List Int) (W w : World) (P : Option Addr) (k pc : Nat) (Q : Option Addr) (m qc : Nat) : Prop :=
  w.ownsRow W.heap.size 3 1 (.slice P k pc) k ((rsT T).map (.int .i64)) ∧ w.ownsRow W.heap.size 3 1 (.slice Q m qc) m ((iN (atT T)).map (.int .i64))
set_option maxHeartbeats 4000000 in
theorem rof_any (s : ByteArray) (w : World) (hs : s.size ≤ 1000) :
    Calls Try.prog 13 #[.string s] w fun e w' => ∃ P k pc Q m qc, e = .returned (.agg #[.slice P k pc, .slice Q m qc]) ∧ TextV (nums s) w w' P k pc Q m qc ∧ Below w.heap.size w w' := by
  have hnl := nums_length s
  have HN := Lib.hid hnl
  clear hnl
  go_enter Try.func13, Try.ntmps13
  go_wp2_with fail
  go_loopw [4] (fun v4 wr => ∃ a : Nat, v4 = .int .i64 (a : Int) ∧ Hid (∃ k P pc Q qc, k ≤ (rsT (nums s)).length ∧ (atT (nums s))[k]? = some a ∧ TX w (w.heap.size + 2) wr P k pc Q (k + 1) qc ((rsT (nums s)).take k) (iN ((atT (nums s)).take (k + 1))) ∧ wr.heap[w.heap.size]? = some (.cells #[.slice none 0 0, .slice none 0 0] 30 (0, 0)))) (fun v4 _ => s.size - (intOf v4).toNat)
  case atStart =>
    refine ⟨0, rfl, Lib.hid ⟨0, none, 0, some ⟨w.heap.size + 1, 0, none⟩, 1, Nat.zero_le _, rfl, ⟨hp_new (by simp), ownI_nil _ _, ?_, by simp [Value.ownBlock], by simp [Value.ownBlock], fun b hb => by simp [Value.ownBlock] at hb, by omega, ?_⟩, hp_old (hp_old (hp_new rfl))⟩⟩
    · exact own_alloc ⟨rfl, .inr ⟨w.heap.size + 1, 1, #[.int .i64 0], rfl, by omega, hp_new (by simp), by decide, by unfold maxLen; omega, rfl, rfl⟩⟩ _
    · exact (((Below.refl _ _).alloc (Nat.le_refl _) _).alloc (by simp) _).alloc (by simp; omega) _
  case round =>
    obtain ⟨a, rfl, H⟩ := hrel
    by_cases hlt : a < s.size
    · obtain ⟨k, P, pc, Q, qc, hkl, hka, hX, hres⟩ := H.out
      have hkm : k < (rsT (nums s)).length := by
        rcases Nat.lt_or_ge k (rsT (nums s)).length with h | h
        · exact h
        · have := (atT_end hkl hka).2 (by omega)
          have := HN.out
          omega
      obtain ⟨h1, h2, h3⟩ := atT_next hkm hka
      have hp := szT_pos h1
      have he := szT_eq h1
      have HG := refGet_any (s.extract a s.size) wr (by have : (s.extract a s.size).size = s.size - a := by (rw [ByteArray.size_extract]; omega)
                                                        unfold maxLen; omega)
      rw [nums_drop, ← he, show (getI ((nums s).drop a)).1 = cpT (nums s) a from rfl] at HG
      obtain ⟨z, hz⟩ : ∃ z, z = szT (nums s) a := ⟨_, rfl⟩
      obtain ⟨r, hr⟩ : ∃ r, r = cpT (nums s) a := ⟨_, rfl⟩
      rw [← hz, ← hr] at HG
      rw [← hz] at h2 hp
      rw [← hr] at h3
      have HG := Lib.hid HG
      have hz4 : (z : Int) ≤ 4 := by omega
      have ha1 : (a : Int) < (s.size : Int) := by omega
      have ha2 : (a : Int) ≤ (s.size : Int) := by omega
      have ha0 : (0 : Int) ≤ (a : Int) := by omega
      have hrl := rsT_le (T := nums s)
      have HZ := Lib.hid (And.intro hkm (And.intro h2 (And.intro h3 (And.intro hp (And.intro hrl (And.intro hX hres))))))
      clear h1 h2 h3 hp hz hr hkm hrl hkl hka hX hres he
      go_wp2_with (first
        | (go_at_call 26; (with_reducible refine HG.out.mono ?_); rintro e w2 ⟨rfl, hb2⟩
           have hX2 := HZ.out.2.2.2.2.2.1.below hb2
           have hres2 := (hb2.block _ (Array.getElem?_eq_some_iff.1 HZ.out.2.2.2.2.2.2).1).trans HZ.out.2.2.2.2.2.2
           obtain ⟨P', pc', w3, happ, c3, f3, hX3, hk3⟩ := hX2.push1 (by have := HZ.out; have := HN.out; omega) r
           have hres3 := (hk3 w.heap.size (Array.getElem?_eq_some_iff.1 hres2).1 (by omega) (row_ne_blk hX2.o1 hres2 (by decide))).trans hres2
           obtain ⟨Q', qc', w4, happ4, c4, f4, hX4, hk4⟩ := hX3.push2 (by have := HZ.out; have := HN.out; omega) ((a : Int) + (z : Int))
           rw [show (w3.setCell ⟨w.heap.size + 2, 0, none⟩ (.slice P' (k + 1) pc')).heap.size = w3.heap.size by simp] at happ4
           have hres4 := (hk4 w.heap.size (Array.getElem?_eq_some_iff.1 hres3).1 (by omega) (row_ne_blk hX3.o2 hres3 (by decide))).trans hres3
           obtain ⟨q0, q1, qf⟩ := hX2.cells
           obtain ⟨r0, r1, rf⟩ := hX3.cells
           have HAPP := Lib.hid happ; have HAPP4 := Lib.hid happ4; have HX4 := Lib.hid (And.intro hX4 hres4)
           clear happ happ4 hX4 hres4 hk3 hk4 hX2 hX3 hres2 hres3 hb2)
        | (at_builtin; refine wpList_append_run rfl (.tmp 24) (.tmp 26) 27 rfl rfl _ _ _ _ rfl rfl HAPP.out ?_)
        | (at_builtin; refine wpList_append_run rfl (.tmp 30) (.tmp 32) 27 rfl rfl _ _ _ _ rfl rfl HAPP4.out ?_))
      have hz := HZ.out
      have hn := HN.out
      refine ⟨⟨a + z, rfl, Lib.hid ⟨k + 1, P', pc', Q', qc', hz.1, hz.2.1, ?_, HX4.out.2⟩⟩, by simp [intOf]; omega⟩
      have hx := HX4.out.1
      have e1 : (rsT (nums s)).take (k + 1) = (rsT (nums s)).take k ++ [r] := by rw [List.take_add_one, hz.2.2.1]; rfl
      have e2 : iN ((atT (nums s)).take (k + 1 + 1)) = iN ((atT (nums s)).take (k + 1)) ++ [(a : Int) + (z : Int)] := by rw [List.take_add_one (i := k + 1), hz.2.1]; simp [iN]
      rw [e1, e2]
      exact hx
    · obtain ⟨k, P, pc, Q, qc, hkl, hka, hX, hres⟩ := H.out
      have hkm : k = (rsT (nums s)).length := by
        have := atT_le hka
        exact (atT_end hkl hka).1 (by have := HN.out; omega)
      obtain ⟨q0, q1, qf⟩ := hX.cells
      obtain ⟨x0, x1, y0, y1⟩ := box_two' hres
      have HX := Lib.hid (And.intro hkm (And.intro hX hres))
      have ha1 : ¬ (a : Int) < (s.size : Int) := by omega
      clear hkm hX hres hka hkl
      go_wp2
      have hres := HX.out.2.2
      have hX := HX.out.2.1
      have hset := box_put' (x' := .slice P k pc) (y' := .slice Q (k + 1) qc) hres
      have hbf := (hX.be.setCell (p := ⟨w.heap.size, 0, none⟩) (Nat.le_refl _) (.slice P k pc)).setCell (p := ⟨w.heap.size, 1, none⟩) (Nat.le_refl _) (.slice Q (k + 1) qc)
      have hoth : ∀ g, g ≠ w.heap.size → ((wr.setCell ⟨w.heap.size, 0, none⟩ (.slice P k pc)).setCell ⟨w.heap.size, 1, none⟩ (.slice Q (k + 1) qc)).heap[g]? = wr.heap[g]? := fun g hg => (Below.heap_setCell _ _ _ _ hg).trans (Below.heap_setCell _ _ _ _ hg)
      have o1 := row_keep (w' := (wr.setCell ⟨w.heap.size, 0, none⟩ (.slice P k pc)).setCell ⟨w.heap.size, 1, none⟩ (.slice Q (k + 1) qc)) hX.o1 fun i hi hv => hoth i fun e => row_ne_blk hX.o1 hres (by decide) (by rw [← e]; exact hv)
      have o2 := row_keep (w' := (wr.setCell ⟨w.heap.size, 0, none⟩ (.slice P k pc)).setCell ⟨w.heap.size, 1, none⟩ (.slice Q (k + 1) qc)) hX.o2 fun i hi hv => hoth i fun e => row_ne_blk hX.o2 hres (by decide) (by rw [← e]; exact hv)
      obtain ⟨z0, z1, _, _⟩ := box_two' hset
      generalize (wr.setCell ⟨w.heap.size, 0, none⟩ (.slice P k pc)).setCell ⟨w.heap.size, 1, none⟩ (.slice Q (k + 1) qc) = wf at hset z0 z1 hbf o1 o2 ⊢
      clear x0 x1 y0 y1 hset q0 q1 qf hoth
      refine bodyPost_ret (v := .agg #[.slice P k pc, .slice Q (k + 1) qc]) ?_ rfl ⟨P, k, pc, Q, k + 1, qc, rfl, ⟨?_, ?_⟩, hbf⟩
      · rw [results_cellT rfl]; go_simp
      · rwa [List.take_of_length_le (by rw [HX.out.1]; exact Nat.le_refl _)] at o1
      · rwa [List.take_of_length_le (by rw [atT_len, HX.out.1]; exact Nat.le_refl _)] at o2
end Go.Proofs.Ytegcebgoiocakaa
/- The document's run of a program: what is seen, what is left to do. -/
namespace Go.Proofs.Ytegcebgoiocakaa
set_option linter.unusedVariables false

/-- Where a place of a program goes on at a place of a text. -/
def succL (p : List InstL) (rs : List Int) (i k : Nat) : List (Nat × Nat) :=
  match p[i]? with
  | none => []
  | some v => if v.op = 1 then (match rs[k]? with | some r => if hasL v.set r = true then [(v.x.toNat, k + 1)] else [] | none => [])
    else if openA rs.length k v.op = true then (outs v).map (fun j => (j, k)) else []
theorem openA_one {m k : Nat} : openA m k 1 = false := by simp [openA]
theorem mem_succL {p : List InstL} {rs : List Int} {i k j k' : Nat} : (j, k') ∈ succL p rs i k ↔ (EdgeE p rs.length k i j ∧ k' = k) ∨ (∃ r, rs[k]? = some r ∧ EdgeC p r i j ∧ k' = k + 1) := by
  unfold succL
  constructor
  · intro h
    cases hv : p[i]? with
    | none => rw [hv] at h; simp at h
    | some v =>
      rw [hv] at h
      simp only at h
      by_cases h1 : v.op = 1
      · rw [if_pos h1] at h
        cases hr : rs[k]? with
        | none => rw [hr] at h; simp at h
        | some r =>
          rw [hr] at h
          simp only at h
          by_cases h2 : hasL v.set r = true
          · rw [if_pos h2] at h
            simp at h
            exact .inr ⟨r, rfl, ⟨v, hv, by unfold outs; rw [if_neg (by omega), if_neg (by omega)]; simp [h.1], h1, h2⟩, h.2⟩
          · rw [if_neg h2] at h; simp at h
      · rw [if_neg h1] at h
        by_cases h2 : openA rs.length k v.op = true
        · rw [if_pos h2] at h
          obtain ⟨j', hj, e⟩ := List.mem_map.1 h
          injection e with e1 e2
          subst e1; subst e2
          exact .inl ⟨⟨v, hv, hj, h2⟩, rfl⟩
        · rw [if_neg h2] at h; simp at h
  · rintro (⟨⟨v, hv, hj, ho⟩, rfl⟩ | ⟨r, hr, ⟨v, hv, hj, h1, h2⟩, rfl⟩)
    · rw [hv]
      simp only
      rw [if_neg (fun e => by rw [e, openA_one] at ho; cases ho), if_pos ho]
      exact List.mem_map.2 ⟨j, hj, rfl⟩
    · rw [hv]
      simp only
      rw [if_pos h1, hr]
      simp only
      rw [if_pos h2]
      unfold outs at hj
      rw [if_neg (by omega), if_neg (by omega)] at hj
      simp at hj
      simp [hj]
/-- What is seen: of each pair, is it? -/
def seenAt (seen : List Bool) (n i k : Nat) : Prop := seen[i * n + k]? = some true
structure Dfs (p : List InstL) (rs : List Int) (a : Nat) (seen out : List Bool) (todo : List (Nat × Nat)) : Prop where
  ls : seen.length = (rs.length + 1) * p.length
  lo : out.length = rs.length + 1
  td : ∀ i k, (i, k) ∈ todo → i < p.length ∧ k ≤ rs.length ∧ Rch p rs 0 a i k
  sn : ∀ i k, i < p.length → k ≤ rs.length → seenAt seen (rs.length + 1) i k → Rch p rs 0 a i k
  st : seenAt seen (rs.length + 1) 0 a ∨ (0, a) ∈ todo
  cl : ∀ i k, i < p.length → k ≤ rs.length → seenAt seen (rs.length + 1) i k → ∀ j k', (j, k') ∈ succL p rs i k → seenAt seen (rs.length + 1) j k' ∨ (j, k') ∈ todo
  ou : ∀ k, k ≤ rs.length → (out[k]? = some true ↔ ∃ i, i < p.length ∧ seenAt seen (rs.length + 1) i k ∧ IsEnd p i)
theorem idx_lt {n N i k : Nat} (hi : i < N) (hk : k < n) : i * n + k < n * N := by
  have h1 : (i + 1) * n ≤ N * n := Nat.mul_le_mul_right n hi
  rw [Nat.succ_mul, Nat.mul_comm N n] at h1
  omega
theorem idx_inj {n i k i' k' : Nat} (hk : k < n) (hk' : k' < n) (h : i * n + k = i' * n + k') : i = i' ∧ k = k' := by
  have hn : 0 < n := by omega
  have h1 : (i * n + k) / n = i := by rw [Nat.mul_comm, Nat.mul_add_div hn, Nat.div_eq_of_lt hk, Nat.add_zero]
  have h2 : (i' * n + k') / n = i' := by rw [Nat.mul_comm, Nat.mul_add_div hn, Nat.div_eq_of_lt hk', Nat.add_zero]
  have h3 : i = i' := by rw [← h1, h, h2]
  subst h3
  omega
section
variable {p : List InstL} {rs : List Int} {a : Nat} {seen out : List Bool} {todo : List (Nat × Nat)}
theorem Dfs.begin (hp : 0 < p.length) (ha : a ≤ rs.length) : Dfs p rs a (List.replicate ((rs.length + 1) * p.length) false) (List.replicate (rs.length + 1) false) [(0, a)] := by
  have hn : ∀ i k, ¬ seenAt (List.replicate ((rs.length + 1) * p.length) false) (rs.length + 1) i k := fun i k h => by
    have := List.eq_of_mem_replicate (List.mem_of_getElem? h)
    cases this
  refine ⟨by simp, by simp, fun i k h => ?_, fun i k _ _ h => absurd h (hn i k), .inr (by simp), fun i k _ _ h => absurd h (hn i k), fun k hk => ⟨fun h => ?_, fun ⟨i, _, h, _⟩ => absurd h (hn i k)⟩⟩
  · simp at h
    obtain ⟨rfl, rfl⟩ := h
    exact ⟨hp, ha, .refl⟩
  · have := List.eq_of_mem_replicate (List.mem_of_getElem? h)
    cases this
theorem Dfs.bound (h : Dfs p rs a seen out todo) {i k : Nat} (hm : (i, k) ∈ todo) : ∃ b, seen[i * (rs.length + 1) + k]? = some b := by
  obtain ⟨h1, h2, _⟩ := h.td i k hm
  exact ⟨_, List.getElem?_eq_getElem (by rw [h.ls]; exact idx_lt h1 (by omega))⟩
/-- One that is seen already is left. -/
theorem Dfs.old {i k : Nat} (h : Dfs p rs a seen out (todo ++ [(i, k)])) (hs : seen[i * (rs.length + 1) + k]? = some true) : Dfs p rs a seen out todo := by
  refine ⟨h.ls, h.lo, fun i' k' hm => h.td i' k' (by simp [hm]), h.sn, ?_, fun i' k' h1 h2 h3 j l hj => ?_, h.ou⟩
  · rcases h.st with h1 | h1
    · exact .inl h1
    · rcases List.mem_append.1 h1 with h2 | h2
      · exact .inr h2
      · simp at h2; obtain ⟨rfl, rfl⟩ := h2; exact .inl hs
  · rcases h.cl i' k' h1 h2 h3 j l hj with h4 | h4
    · exact .inl h4
    · rcases List.mem_append.1 h4 with h5 | h5
      · exact .inr h5
      · simp at h5; obtain ⟨rfl, rfl⟩ := h5; exact .inl hs
theorem seen_set {n i k i' k' : Nat} (hk : k < n) (hk' : k' < n) (hl : i * n + k < seen.length) : seenAt (seen.set (i * n + k) true) n i' k' ↔ (i' = i ∧ k' = k) ∨ seenAt seen n i' k' := by
  unfold seenAt
  by_cases h : i * n + k = i' * n + k'
  · obtain ⟨rfl, rfl⟩ := idx_inj hk hk' h
    rw [List.getElem?_set_self hl]
    simp
  · rw [List.getElem?_set_ne h]
    constructor
    · exact .inr
    · rintro (⟨rfl, rfl⟩ | h1)
      · exact absurd rfl h
      · exact h1
/-- One that is new is marked; where it goes on is to do. -/
theorem Dfs.new (hp : Within p) {i k : Nat} {v : InstL} (h : Dfs p rs a seen out (todo ++ [(i, k)])) (hv : p[i]? = some v) {nx : List (Nat × Nat)} (hnx : nx = succL p rs i k) : Dfs p rs a (seen.set (i * (rs.length + 1) + k) true) (if v.op = 0 then out.set k true else out) (todo ++ nx) := by
  obtain ⟨h1, h2, h3⟩ := h.td i k (by simp)
  have hl : i * (rs.length + 1) + k < seen.length := by rw [h.ls]; exact idx_lt h1 (by omega)
  have hss : ∀ {i' k'}, k' ≤ rs.length → (seenAt (seen.set (i * (rs.length + 1) + k) true) (rs.length + 1) i' k' ↔ (i' = i ∧ k' = k) ∨ seenAt seen (rs.length + 1) i' k') := fun hk' => seen_set (by omega) (by omega) hl
  have hsu : ∀ j k', (j, k') ∈ nx → j < p.length ∧ k' ≤ rs.length ∧ Rch p rs 0 a j k' := by
    intro j k' hm
    rw [hnx, mem_succL] at hm
    rcases hm with ⟨e, rfl⟩ | ⟨r, hr, e, rfl⟩
    · obtain ⟨u, hu, hj, ho⟩ := e
      exact ⟨hp.2 i u hu j hj, h2, .eps h3 ⟨u, hu, hj, ho⟩⟩
    · obtain ⟨u, hu, hj, ho⟩ := e
      have := (List.getElem?_eq_some_iff.1 hr).1
      exact ⟨hp.2 i u hu j hj, by omega, .chr h3 hr ⟨u, hu, hj, ho⟩⟩
  refine ⟨by simp [h.ls], by split <;> simp [h.lo], fun i' k' hm => ?_, fun i' k' g1 g2 g3 => ?_, ?_, fun i' k' g1 g2 g3 j l hj => ?_, fun l hl' => ?_⟩
  · rcases List.mem_append.1 hm with hm | hm
    · exact h.td i' k' (by simp [hm])
    · exact hsu i' k' hm
  · rcases (hss g2).1 g3 with ⟨rfl, rfl⟩ | g4
    · exact h3
    · exact h.sn i' k' g1 g2 g4
  · rcases h.st with g1 | g1
    · have ha : a ≤ rs.length := by have := h3.le; omega
      exact .inl ((hss ha).2 (.inr g1))
    · rcases List.mem_append.1 g1 with g2 | g2
      · exact .inr (by simp [g2])
      · simp at g2
        obtain ⟨rfl, rfl⟩ := g2
        exact .inl ((hss h2).2 (.inl ⟨rfl, rfl⟩))
  · have hl2 : l ≤ rs.length := by
      rw [mem_succL] at hj
      rcases hj with ⟨_, rfl⟩ | ⟨r, hr, _, rfl⟩
      · exact g2
      · have := (List.getElem?_eq_some_iff.1 hr).1; omega
    rcases (hss g2).1 g3 with ⟨rfl, rfl⟩ | g4
    · exact .inr (by rw [hnx]; simp [hj])
    · rcases h.cl i' k' g1 g2 g4 j l hj with g5 | g5
      · exact .inl ((hss hl2).2 (.inr g5))
      · rcases List.mem_append.1 g5 with g6 | g6
        · exact .inr (by simp [g6])
        · simp at g6
          obtain ⟨rfl, rfl⟩ := g6
          exact .inl ((hss h2).2 (.inl ⟨rfl, rfl⟩))
  · have hex : (∃ i', i' < p.length ∧ seenAt (seen.set (i * (rs.length + 1) + k) true) (rs.length + 1) i' l ∧ IsEnd p i') ↔ ((l = k ∧ v.op = 0) ∨ out[l]? = some true) := by
      rw [h.ou l hl']
      constructor
      · rintro ⟨i', g1, g2, g3⟩
        rcases (hss hl').1 g2 with ⟨rfl, rfl⟩ | g4
        · obtain ⟨u, hu, h0⟩ := g3
          rw [hv] at hu; injection hu with hu; subst hu
          exact .inl ⟨rfl, h0⟩
        · exact .inr ⟨i', g1, g4, g3⟩
      · rintro (⟨rfl, h0⟩ | ⟨i', g1, g2, g3⟩)
        · exact ⟨i, h1, (hss hl').2 (.inl ⟨rfl, rfl⟩), v, hv, h0⟩
        · exact ⟨i', g1, (hss hl').2 (.inr g2), g3⟩
    rw [hex]
    by_cases h0 : v.op = 0
    · rw [if_pos h0]
      by_cases hlk : l = k
      · subst hlk
        rw [List.getElem?_set_self (by rw [h.lo]; omega)]
        simp [h0]
      · rw [List.getElem?_set_ne (fun e => hlk e.symm)]
        simp [hlk]
    · rw [if_neg h0]
      simp [h0]
/-- Nothing is left to do: all is seen that is reached. -/
theorem Dfs.over (hp : Within p) (h : Dfs p rs a seen out []) : ∀ k, k ≤ rs.length → (out[k]? = some true ↔ Hits p rs a k) := by
  have hall : ∀ i k, Rch p rs 0 a i k → i < p.length ∧ (k ≤ rs.length → seenAt seen (rs.length + 1) i k) := by
    intro i k hr
    induction hr with
    | refl =>
      refine ⟨hp.1, fun _ => ?_⟩
      rcases h.st with h1 | h1
      · exact h1
      · simp at h1
    | @eps j k' b hr e ih =>
      obtain ⟨v, hv, hj, ho⟩ := e
      refine ⟨hp.2 j v hv k' hj, fun hb => ?_⟩
      rcases h.cl j b ih.1 hb (ih.2 hb) k' b (mem_succL.2 (.inl ⟨⟨v, hv, hj, ho⟩, rfl⟩)) with h1 | h1
      · exact h1
      · simp at h1
    | @chr j k' b r hr hg e ih =>
      obtain ⟨v, hv, hj, ho⟩ := e
      have hbl := (List.getElem?_eq_some_iff.1 hg).1
      refine ⟨hp.2 j v hv k' hj, fun hb => ?_⟩
      rcases h.cl j b ih.1 (by omega) (ih.2 (by omega)) k' (b + 1) (mem_succL.2 (.inr ⟨r, hg, ⟨v, hv, hj, ho⟩, rfl⟩)) with h1 | h1
      · exact h1
      · simp at h1
  intro k hk
  rw [h.ou k hk]
  constructor
  · rintro ⟨i, h1, h2, h3⟩
    exact ⟨i, h.sn i k h1 hk h2, h3⟩
  · rintro ⟨i, h1, h2⟩
    have := hall i k h1
    exact ⟨i, this.1, this.2 hk, h2⟩
end
/-- How much there is to do yet. -/
def leftN (seen : List Bool) (todo : Nat) : Nat := 3 * seen.countP (fun b => !b) + todo
theorem leftN_new {seen : List Bool} {j t nx : Nat} (h : seen[j]? = some false) (hn : nx ≤ 2) : leftN (seen.set j true) (t + nx) < leftN seen (t + 1) := by
  have hj := (List.getElem?_eq_some_iff.1 h).1
  have hg := (List.getElem?_eq_some_iff.1 h).2
  unfold leftN
  rw [List.countP_set hj]
  have hpos : 0 < seen.countP (fun b => !b) := List.countP_pos_iff.2 ⟨false, by rw [← hg]; exact List.getElem_mem hj, rfl⟩
  simp [hg]
  omega
theorem leftN_old {seen : List Bool} {t : Nat} : leftN seen t < leftN seen (t + 1) := by unfold leftN; omega
theorem succL_len (p : List InstL) (rs : List Int) (i k : Nat) : (succL p rs i k).length ≤ 2 := by
  unfold succL
  split
  · simp
  · split
    · split
      · split <;> simp
      · simp
    · split
      · rw [List.length_map]; unfold outs; split
        · simp
        · split <;> simp
      · simp
end Go.Proofs.Ytegcebgoiocakaa
/- Rows of pairs of numbers, of any type of two cells: append. -/
namespace Go.Proofs.Ytegcebgoiocakaa
open Go Go.RowKit
set_option linter.unusedVariables false
set_option maxRecDepth 20000

theorem cellsG_get (s : List (Int × Int)) {j : Nat} {x : Int × Int} (h : s[j]? = some x) : (cellsG s)[j * 2]? = some (.int .i64 x.1) ∧ (cellsG s)[j * 2 + 1]? = some (.int .i64 x.2) := by
  have hj := (List.getElem?_eq_some_iff.1 h).1
  have := cellsG_at s j hj
  rw [List.getD, h] at this
  exact this
/-- append of pairs to a row of the call's own. -/
theorem pushP (t e : TypeId) (ht : Try.prog.underlying t = some (.slice e)) (hinfo : (Try.prog.info? e).map (fun i => (i.zero, i.size, i.bytes)) = some (some (.agg #[.int .i64 0, .int .i64 0]), 2, 16))
    {B : Nat} {w : World} {P : Option Addr} {q pc : Nat} {xs : List (Int × Int)} (h : w.ownsRow B e 2 (.slice P q pc) q (cellsG xs)) (ys : List (Int × Int)) {d : Nat} (hd : w.heap[d]? = some (.cells (cellsG ys).toArray e (0, 0))) (hq : q ≤ 1000000) (hn : ys.length ≤ 100000) (hB : B ≤ w.heap.size) :
    ∃ P' pc' w', (Builtin.append_ #[t, t] t #[.slice P q pc, .slice (some ⟨d, 0, none⟩) ys.length ys.length]).run Try.prog w = .ok (.slice P' (q + ys.length) pc') w' ∧ w'.ownsRow B e 2 (.slice P' (q + ys.length) pc') (q + ys.length) (cellsG (xs ++ ys)) ∧ Below B w w' ∧ ∀ g, g < w.heap.size → (Value.slice P q pc).ownBlock ≠ some g → w'.heap[g]? = w.heap[g]? := by
  obtain ⟨i0, hi, hz0, hz1, hz2⟩ := info_parts hinfo
  have hcells : ∀ j u, (cellsG ys)[j]? = some u → w.cell? ((⟨d, 0, none⟩ : Addr).add j) = some u := by
    intro j u hu
    have hadd : (⟨d, 0, none⟩ : Addr).add j = ⟨d, j, none⟩ := by unfold Addr.add; split <;> simp_all
    rw [hadd, cell_of_row _ d j _ _ (0, 0) hd, ← hu]
    simp
  obtain ⟨V', w', h1, h2, h3, _⟩ := run_append_own (P := Try.prog) w B t t e i0 _ 2 16 ht hi hz0 hz1 hz2 rfl (by decide) _ q _ h ⟨d, 0, none⟩ ys.length ys.length (cellsG ys) (by rw [cellsG_length]) hcells
    (by intro u hu; obtain ⟨p, _, hp⟩ := List.mem_flatMap.1 hu; simp at hp; rcases hp with rfl | rfl <;> rfl) (by unfold maxLen; omega) (by omega) hB
  have hb' : Below B w w' := (Below.refl _ _).grown h3 hB (by intro k hk; exact (row_lt h hk).1)
  have hk' : ∀ g, g < w.heap.size → (Value.slice P q pc).ownBlock ≠ some g → w'.heap[g]? = w.heap[g]? := fun g hg hne => h3.block g hg fun e => hne e.symm
  rw [← cellsG_append] at h2
  rcases h2.2 with ⟨rfl, h0⟩ | ⟨b, cap, cu, rfl, _⟩
  · rw [h0] at h2 ⊢
    exact ⟨none, 0, w', h1, h2, hb', hk'⟩
  · exact ⟨_, _, w', h1, h2, hb', hk'⟩
/-- A pair of an own row. -/
theorem pair_at {w : World} {B : Nat} {e : TypeId} {P : Option Addr} {n pc : Nat} {xs : List (Int × Int)} (h : w.ownsRow B e 2 (.slice P n pc) n (cellsG xs)) {j : Nat} {x : Int × Int} (hx : xs[j]? = some x) : ∃ b, P = some ⟨b, 0, none⟩ ∧ j < n ∧ B ≤ b ∧ b < w.heap.size ∧ w.cell? ⟨b, j * 2, none⟩ = some (.int .i64 x.1) ∧ w.cell? ⟨b, j * 2 + 1, none⟩ = some (.int .i64 x.2) := by
  have hj := (List.getElem?_eq_some_iff.1 hx).1
  have hl := h.1
  rw [cellsG_length] at hl
  obtain ⟨e0, e1⟩ := cellsG_get xs hx
  rcases h.2 with ⟨e, h0⟩ | ⟨b, cap, cur, e, hB, hb, hnc, hcm, hcs, ht⟩
  · omega
  · injection e with e1' _ e3
    subst e1'; subst e3
    refine ⟨b, rfl, by omega, hB, (Array.getElem?_eq_some_iff.1 hb).1, ?_, ?_⟩
    · rw [cell_of_row w b (j * 2) cur _ (0, 0) hb, ← e0, ← ht, List.getElem?_take_of_lt (by omega), Array.getElem?_toList]
    · rw [cell_of_row w b (j * 2 + 1) cur _ (0, 0) hb, ← e1, ← ht, List.getElem?_take_of_lt (by omega), Array.getElem?_toList]
theorem pairs_len {w : World} {B : Nat} {e : TypeId} {P : Option Addr} {n pc : Nat} {xs : List (Int × Int)} (h : w.ownsRow B e 2 (.slice P n pc) n (cellsG xs)) : xs.length = n := by have := h.1; rw [cellsG_length] at this; omega
end Go.Proofs.Ytegcebgoiocakaa
/- The walk back: what its rounds make of the ends. -/
namespace Go.Proofs.Ytegcebgoiocakaa
open Go Go.RowKit
set_option linter.unusedVariables false

/-- An end as it is told: -1, there is none. -/
def endI (T : List Int) : Option Nat → Int
  | none => -1
  | some e => (atF T e : Int)
/-- What holds when k of the places have come in their order, the last one first. -/
def EReal (p : List InstL) (T : List Int) (k at_ : Nat) (here : List (Nat × Nat)) (met xs : List Int) : Prop :=
  ((k = 0 ∧ here = [] ∧ at_ = T.length ∧ ∀ x ∈ met, x = -1) ∨ (0 < k ∧ k ≤ (rsT T).length + 1 ∧ at_ = atF T ((rsT T).length + 1 - k) ∧ (∃ h, here = h.map (phi T) ∧ Bwd p (rsT T) ((rsT T).length + 1 - k) h) ∧ ∀ x ∈ met, x = -1 ∨ (at_ : Int) ≤ x)) ∧
  ∀ a : Nat, a ≤ T.length → (∃ j o, (rsT T).length + 1 - k ≤ j ∧ atF T j = a ∧ j ≤ (rsT T).length ∧ Long p (rsT T) j o ∧ xs[a]? = some (endI T o)) ∨ ((¬ ∃ j, (rsT T).length + 1 - k ≤ j ∧ j ≤ (rsT T).length ∧ atF T j = a) ∧ xs[a]? = some (-1))
theorem EReal.begin {p : List InstL} {T : List Int} {n : Nat} : EReal p T 0 T.length [] (List.replicate n (-1)) (List.replicate (T.length + 1) (-1)) := by
  refine ⟨.inl ⟨rfl, rfl, rfl, fun x hx => List.eq_of_mem_replicate hx⟩, fun a ha => .inr ⟨fun ⟨j, h1, h2, _⟩ => by omega, ?_⟩⟩
  rw [List.getElem?_replicate, if_pos (by omega)]
/-- Of this place no instruction was met yet. -/
theorem EReal.fresh {p : List InstL} {T : List Int} {k at_ tq : Nat} {here : List (Nat × Nat)} {met xs : List Int} (h : EReal p T k at_ here met xs) (hk : k ≤ (rsT T).length) (htq : tq = atF T ((rsT T).length - k)) : ∀ x ∈ met, x ≠ (tq : Int) := by
  rcases h.1 with ⟨rfl, _, h1, h2⟩ | ⟨h0, _, h1, _, h2⟩
  · intro x hx; rw [h2 x hx]; omega
  · intro x hx
    have := atF_lt (T := T) (i := (rsT T).length - k) (j := (rsT T).length + 1 - k) (by omega) (by omega)
    rcases h2 x hx with h3 | h3 <;> omega
theorem EReal.next {p : List InstL} {W : List (List (Nat × Nat))} {T : List Int} {k at_ tq : Nat} {here here' : List (Nat × Nat)} {met met' xs : List Int} {ms : List Nat} {r : Int} (h : EReal p T k at_ here met xs) (hW : BackW p W) (hp : Within p) (hk : k ≤ (rsT T).length) (htq : tq = atF T ((rsT T).length - k))
    (hr : r = (getI ((T.drop (min at_ tq)).take (max at_ tq - min at_ tq))).1) (hms : ∀ i, i ∈ ms ↔ IsEnd p i) (hs : Steps (WE p W T.length tq) (meets p W r here ++ ms.map fun i => (i, tq)) here')
    (hm : ∀ x ∈ met', x ∈ met ∨ x = (tq : Int)) (hxl : xs.length = T.length + 1) {f : Int} {ok : Bool} (hb : BestOf (fun x => decide (x.1 = 0)) here' f ok) :
    EReal p T (k + 1) tq here' met' (if ok = true then xs.set tq f else xs) := by
  obtain ⟨j, hj⟩ : ∃ j, j = (rsT T).length - k := ⟨_, rfl⟩
  have hjk : (rsT T).length + 1 - (k + 1) = j := by omega
  have hjl : j ≤ (rsT T).length := by omega
  rw [← hj] at htq
  have hem : (ms.map fun i => (i, tq)) = (ms.map fun i => (i, j)).map (phi T) := by rw [List.map_map, htq]; rfl
  rw [htq, we_at hjl] at hs
  rw [← htq] at hs
  have key : ∃ h', here' = h'.map (phi T) ∧ Bwd p (rsT T) j h' := by
    rcases h.1 with ⟨h0, h1, h2, h3⟩ | ⟨h0, h00, h1, ⟨h2, rfl, h3⟩, h4⟩
    · rw [h1, show meets p W r [] = [] from rfl, List.nil_append, hem] at hs
      obtain ⟨h', rfl, hs'⟩ := hs.unmap _ rfl
      exact ⟨h', rfl, Bwd.step (here := []) hW hp hjl (todo := []) (.inl ⟨by omega, rfl⟩) (ends := ms.map fun i => (i, j)) (fun i f => by rw [List.mem_map]; exact ⟨fun ⟨a, ha, e⟩ => by injection e with e1 e2; subst e1; exact ⟨e2.symm, (hms _).1 ha⟩, fun ⟨e1, e2⟩ => ⟨i, (hms i).2 e2, by rw [e1]⟩⟩) hs'⟩
    · have hj1 : (rsT T).length + 1 - k = j + 1 := by omega
      rw [hj1] at h1 h3
      have hnx := atF_next (T := T) (k := j) (by omega)
      have hp1 := szT_pos hnx.1
      have he1 := szT_eq hnx.1
      have hmin : min at_ tq = atF T j := by omega
      have hmax : max at_ tq - min at_ tq = szT T (atF T j) := by omega
      have hrr : r = cpT T (atF T j) := by
        rw [hr, hmax, hmin, getI_take (by omega) (.inr (.inr he1.symm)) (by omega)]
        rfl
      rw [meets_map, hem, ← List.map_append] at hs
      obtain ⟨h', rfl, hs'⟩ := hs.unmap _ rfl
      refine ⟨h', rfl, Bwd.step (here := h2) hW hp hjl (.inr ⟨r, by rw [hrr]; exact hnx.2.2, rfl, h3⟩) (ends := ms.map fun i => (i, j)) (fun i f => by rw [List.mem_map]; exact ⟨fun ⟨a, ha, e⟩ => by injection e with e1 e2; subst e1; exact ⟨e2.symm, (hms _).1 ha⟩, fun ⟨e1, e2⟩ => ⟨i, (hms i).2 e2, by rw [e1]⟩⟩) hs'⟩
  obtain ⟨h', rfl, hB⟩ := key
  have hat : tq ≤ T.length := by rw [htq]; exact atF_max hjl
  refine ⟨.inr ⟨Nat.succ_pos _, by omega, by rw [hjk]; exact htq, ⟨h', rfl, by rw [hjk]; exact hB⟩, fun x hx => ?_⟩, fun a ha => ?_⟩
  · rcases hm x hx with h1 | h1
    · rcases h.1 with ⟨_, _, _, h3⟩ | ⟨h0, h00, h2, _, h4⟩
      · exact .inl (h3 x h1)
      · have hlt := atF_lt (T := T) (i := j) (j := (rsT T).length + 1 - k) (by omega) (by omega)
        rcases h4 x h1 with h5 | h5
        · exact .inl h5
        · exact .inr (by omega)
    · exact .inr (by omega)
  · rw [hjk]
    by_cases hat2 : a = tq
    · left
      subst hat2
      rcases hb with ⟨rfl, rfl, hno⟩ | ⟨rfl, A, i, b, Z, rfl, hA, _, hi⟩
      · refine ⟨j, none, Nat.le_refl _, htq.symm, hjl, hB.none_ fun f hf => ?_, ?_⟩
        · have := hno _ (List.mem_map.2 ⟨_, hf, rfl⟩)
          simp [phi] at this
        · rcases h.2 a ha with ⟨j0, o, h1, h2, h3, _⟩ | ⟨_, h2⟩
          · exfalso
            have := atF_lt (T := T) (i := j) (j := j0) h3 (by omega)
            omega
          · rw [if_neg (by simp)]; exact h2
      · have hi0 : i = 0 := by simpa using hi
        subst hi0
        have hmem : (0, b) ∈ h'.map (phi T) := by rw [hA]; simp
        obtain ⟨⟨i0, f0⟩, hf, e⟩ := List.mem_map.1 hmem
        unfold phi at e
        injection e with e1 e2
        have e1 : i0 = 0 := e1
        subst e1
        refine ⟨j, some f0, Nat.le_refl _, htq.symm, hjl, hB.some_ hf, ?_⟩
        rw [if_pos rfl, List.getElem?_set_self (by omega)]
        rw [← e2]; rfl
    · have hx : (if ok = true then xs.set tq f else xs)[a]? = xs[a]? := by
        split
        · rw [List.getElem?_set_ne (by omega)]
        · rfl
      rw [hx]
      rcases h.2 a ha with ⟨j0, o, h1, h2, h3, h4, h5⟩ | ⟨h1, h2⟩
      · exact .inl ⟨j0, o, by omega, h2, h3, h4, h5⟩
      · refine .inr ⟨fun ⟨j0, h3, h4, h5⟩ => ?_, h2⟩
        by_cases hje : j0 = j
        · subst hje; omega
        · exact h1 ⟨j0, by omega, h4, h5⟩
/-- All have come. -/
theorem EReal.over {p : List InstL} {T : List Int} {at_ : Nat} {here : List (Nat × Nat)} {met xs : List Int} (h : EReal p T ((rsT T).length + 1) at_ here met xs) :
    ∀ a : Nat, a ≤ T.length → (∃ j o, atF T j = a ∧ j ≤ (rsT T).length ∧ Long p (rsT T) j o ∧ xs[a]? = some (endI T o)) ∨ ((¬ ∃ j, j ≤ (rsT T).length ∧ atF T j = a) ∧ xs[a]? = some (-1)) := by
  intro a ha
  rcases h.2 a ha with ⟨j, o, _, h2, h3, h4, h5⟩ | ⟨h1, h2⟩
  · exact .inl ⟨j, o, h2, h3, h4, h5⟩
  · exact .inr ⟨fun ⟨j, h3, h4⟩ => h1 ⟨j, by omega, h3, h4⟩, h2⟩
end Go.Proofs.Ytegcebgoiocakaa
/- The walk back: what its rounds keep in memory. -/
namespace Go.Proofs.Ytegcebgoiocakaa
open Go Go.RowKit Go.Shelf
set_option linter.unusedVariables false
set_option maxRecDepth 20000

/-- What the call has when its loop begins: the walk, its own boxes, the ends of the program. -/
structure EB where
  w0 : World
  W0 : World
  B : Nat
  g : Nat
  mb : Nat
  b5 : Nat
  b6 : Nat
  b7 : Nat
  bs : Nat
  bp : Nat
  bm : Nat
  MP : Option Addr
  mq : Nat
  mc : Nat
  ms : List Nat
/-- Blocks that no round turns. -/
def EB.K (E : EB) (k : Nat) : Prop := k = E.b5 ∨ k = E.b6 ∨ k = E.b7 ∨ k = E.bs ∨ k = E.bp ∨ k = E.bm
structure EFix (e : WEnv) (E : EB) : Prop where
  hK : ∀ k, E.K k → k ≠ E.g ∧ k ≠ E.mb ∧ k ≠ e.skip ∧ ∃ cs t f, E.W0.heap[k]? = some (.cells cs t f) ∧ t ≠ 125
  c5 : E.W0.heap[E.b5]? = some (.cells #[.slice (some ⟨e.skip, 0, none⟩) (e.T.size + 1) (e.T.size + 1)] 27 (0, 0))
  c6 : E.W0.heap[E.b6]? = some (.cells #[.pointer (some ⟨E.g, 0, none⟩)] 84 (0, 0))
  c7 : E.W0.heap[E.b7]? = some (.cells #[.slice E.MP E.mq E.mc] 27 (0, 0))
  ml : E.ms.length = E.mq
  mr : ∀ (j i : Nat), E.ms[j]? = some i → ∃ o, E.MP = some ⟨E.bm, o, none⟩ ∧ E.W0.cell? ⟨E.bm, o + j, none⟩ = some (.int .i64 (i : Int))
  mi : ∀ i ∈ E.ms, i < e.n
  hs : e.skip < E.B
  w0B : E.w0.heap.size ≤ E.B
  w0s : E.w0.heap.size ≤ e.skip
  BW : E.B ≤ E.W0.heap.size
/-- What holds between two calls, whatever came. -/
structure ESafe (e : WEnv) (E : EB) (W : World) (at_ : Nat) (here : List (Nat × Nat)) (met xs : List Int) : Prop where
  walk : ∃ last, WalkS E.B E.g E.mb e W at_ here last met
  row : W.heap[e.skip]? = some (.cells (xs.map (Value.int .i64)).toArray 3 (0, 0))
  fix : ∀ k, E.K k → W.heap[k]? = E.W0.heap[k]?
  bel : Below E.w0.heap.size E.w0 W
  siz : E.W0.heap.size ≤ W.heap.size
theorem WalkS.others {B g mb : Nat} {e : WEnv} {w w' : World} {at_ : Nat} {here : List (Nat × Nat)} {last : SRow} {met : List Int} (h : WalkS B g mb e w at_ here last met) (ht : Tch B g mb w w') : KeepsOthers w w' := by
  obtain ⟨H, hn, hc, hC⟩ := h
  refine ⟨ht.1.size, fun k o hk ho => (ht.2 k o hk ?_ ?_ (hC.free hk fun cs f e => by subst e; cases ho)).1⟩
  · rintro rfl; rw [hC.hg] at hk; injection hk with hk; subst hk; cases ho
  · rintro rfl; rw [hC.hm] at hk; injection hk with hk; subst hk; cases ho
theorem others_below {w w' : World} (h : Below w.heap.size w w') : KeepsOthers w w' := ⟨h.size, fun k o hk _ => (h.block k (Array.getElem?_eq_some_iff.1 hk).1).trans hk⟩
theorem ESafe.tch {e : WEnv} {E : EB} {W W' : World} {at_ at' : Nat} {here here' : List (Nat × Nat)} {met met' xs : List Int} {last' : SRow} (h : ESafe e E W at_ here met xs) (F : EFix e E) (hw : WalkS E.B E.g E.mb e W' at' here' last' met') (ht : Tch E.B E.g E.mb W W') : ESafe e E W' at' here' met' xs := by
  obtain ⟨last, H, hn, hc, hC⟩ := h.walk
  refine ⟨⟨last', hw⟩, (ht.1.block _ F.hs).trans h.row, fun k hk => ?_, h.bel.trans (ht.1.mono F.w0B), Nat.le_trans h.siz ht.1.size⟩
  obtain ⟨h1, h2, h3, cs, t, f, h4, h5⟩ := F.hK k hk
  have h6 := (h.fix k hk).trans h4
  rw [h4]
  exact (ht.2 k _ h6 h1 h2 (hC.free h6 fun cs' f' e' => by injection e' with _ e2; exact h5 e2)).1
theorem ESafe.below {e : WEnv} {E : EB} {W W' : World} {at_ : Nat} {here : List (Nat × Nat)} {met xs : List Int} (h : ESafe e E W at_ here met xs) (F : EFix e E) (hb : Below W.heap.size W W') : ESafe e E W' at_ here met xs := by
  obtain ⟨last, hw⟩ := h.walk
  have hB := F.BW
  have hs := h.siz
  refine ⟨⟨last, hw.below hb⟩, (hb.block _ (by have := F.hs; omega)).trans h.row, fun k hk => ?_, h.bel.trans (hb.mono (by have := h.bel.size; omega)), Nat.le_trans h.siz hb.size⟩
  obtain ⟨h1, h2, h3, cs, t, f, h4, h5⟩ := F.hK k hk
  exact (hb.block k (by have := (Array.getElem?_eq_some_iff.1 h4).1; omega)).trans (h.fix k hk)
theorem ESafe.store {e : WEnv} {E : EB} {W : World} {at_ : Nat} {here : List (Nat × Nat)} {met xs : List Int} (h : ESafe e E W at_ here met xs) (F : EFix e E) (a : Nat) (v : Int) : ESafe e E (W.setCell ⟨e.skip, a, none⟩ (.int .i64 v)) at_ here met (xs.set a v) := by
  obtain ⟨last, H, hn, hc, hC⟩ := h.walk
  have hk : ∀ k, k ≠ e.skip → (W.setCell ⟨e.skip, a, none⟩ (.int .i64 v)).heap[k]? = W.heap[k]? := fun k hk => Below.heap_setCell _ _ _ _ hk
  refine ⟨⟨last, H, hn, hc, hC.skip F.hs (by simp) fun k _ h2 => hk k h2⟩, ?_, fun k h1 => (hk k (F.hK k h1).2.2.1).trans (h.fix k h1), h.bel.setCell (p := ⟨e.skip, a, none⟩) F.w0s _, by have := h.siz; simpa using this⟩
  rw [heap_setCell_same W e.skip a _ _ (.int .i64 v) h.row]
  simp [List.map_set]
/-- Between two rounds. -/
def EInv (e : WEnv) (E : EB) (hM : ∀ j : Nat, (atT (nums e.T))[j]?.getD 0 ≤ (nums e.T).length) (pre : List (PlX (nums e.T).length)) (W : World) : Prop :=
  ∃ at_ here met xs, ESafe e E W at_ here met xs ∧ ((here.map Prod.fst).Nodup ∧ (∀ x ∈ here, x.1 < e.n) ∧ at_ ≤ e.T.size ∧ xs.length = e.T.size + 1) ∧ ∀ k, pre = backL (atT (nums e.T)) hM k → k ≤ (rsT (nums e.T)).length + 1 → EReal e.p (nums e.T) k at_ here met xs
theorem EInv.own {e : WEnv} {E : EB} {hM : ∀ j : Nat, (atT (nums e.T))[j]?.getD 0 ≤ (nums e.T).length} (F : EFix e E) {D : Nat} (hD : E.B ≤ D) : OwnFrom D (EInv e E hM) := by
  rintro pre W W' row ⟨at_, here, met, xs, hS, h2, h3⟩ hg hr
  have hc : ∀ (k : Nat) (cs : Array Value) (t : TypeId) (f : Nat × Nat), W.heap[k]? = some (Obj.cells cs t f) → W'.heap[k]? = W.heap[k]? := fun k cs t f hk => grownBy_keeps_cells hg (fun r e => (hr r e).2) hk rfl
  have hb : ∀ B', B' ≤ D → B' ≤ W.heap.size → Below B' W W' := fun B' h1 h2 => ⟨hg.os, hg.tape, hg.output, hg.size, fun k hk => hg.block k (by omega) fun e => by have := (hr k e.symm).1; omega⟩
  obtain ⟨last, H, hn, hc2, hC⟩ := hS.walk
  have hBs : E.B ≤ W.heap.size := Nat.le_trans F.BW hS.siz
  refine ⟨at_, here, met, xs, ⟨⟨last, H, hn, hc2, hC.keep (hb _ hD hBs) (hc _ _ _ _ hC.hg) (hc _ _ _ _ hC.hm) fun k cs f hk => hc k cs _ f hk⟩, (hc _ _ _ _ hS.row).trans hS.row, fun k hk => ?_, hS.bel.trans (hb _ (Nat.le_trans F.w0B hD) hS.bel.size), Nat.le_trans hS.siz hg.size⟩, h2, h3⟩
  obtain ⟨_, _, _, cs, t, f, h4, _⟩ := F.hK k hk
  exact (hc k cs t f ((hS.fix k hk).trans h4)).trans (hS.fix k hk)
theorem backL_inj {M : Nat} {zs : List Nat} {hM : ∀ j : Nat, zs[j]?.getD 0 ≤ M} {pre : List (PlX M)} {x : PlX M} {k : Nat} (h : pre ++ [x] = backL zs hM k) : ∃ k', k = k' + 1 ∧ pre = backL zs hM k' ∧ x.1 = (zs.length - 1 - k', zs[zs.length - 1 - k']?.getD 0) := by
  cases k with
  | zero => have := congrArg List.length h; rw [backL_len] at this; simp at this
  | succ k =>
    rw [backL_succ] at h
    obtain ⟨h1, h2⟩ := List.append_inj' h rfl
    injection h2 with h2
    exact ⟨k, rfl, h1, by rw [h2]⟩
theorem iter_stops {M : Nat} (F : Fence) (n : Nat) (hF : F.fn 84) (hro : F.round = none) (hn : 1 ≤ n) (Bs b len cap : Nat) (zs : List Nat) (hz : zs.length = len) (hM : ∀ j : Nat, zs[j]?.getD 0 ≤ M) (hsm : len ≤ 100000) (w : World)
    (hBs : w.cell? ⟨Bs, 0, none⟩ = some (.slice (some ⟨b, 0, none⟩) len cap)) (hc : ∀ j, j < len → w.cell? ⟨b, j, none⟩ = some (.int .i64 (zs[j]?.getD 0 : Nat))) :
    SeqStopsK F n Try.prog 84 #[.pointer (some ⟨Bs, 0, none⟩)] encP (KpR Bs b) (fun ys => ys = backL zs hM len) (fun _ => True) len w := fun l J Jx W hW hJ hJx hY h0 =>
  backw1_in F n hF hro hn l Bs b len cap zs hz hM hsm J Jx hY W ((hW.cell (p := ⟨Bs, 0, none⟩) (World.block_lt_of_cell? w (⟨Bs, 0, none⟩ : Addr) hBs)).trans hBs) (fun j hj => (hW.cell (p := ⟨b, j, none⟩) (World.block_lt_of_cell? w (⟨b, j, none⟩ : Addr) (hc j hj))).trans (hc j hj)) h0
end Go.Proofs.Ytegcebgoiocakaa
