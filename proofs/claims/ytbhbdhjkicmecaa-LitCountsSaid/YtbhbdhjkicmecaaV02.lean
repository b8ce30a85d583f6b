/- Index, Count. -/
import Derived.Test.YtbhbdhjkicmecaaM01
import Derived.Test.YtbhbdhjkicmecaaM02
import Derived.Test.YtbhbdhjkicmecaaM03
import Derived.Test.YtbhbdhjkicmecaaM04
import Derived.Test.YtbhbdhjkicmecaaS01
import Derived.Test.YtbhbdhjkicmecaaV01
import Derived.Lib.MinMax
import Derived.BigQuiet
import Derived.BigRegion
namespace Go.Proofs.Ytbhbdhjkicmecaa
open Go Go.RowKit Go.Shelf
set_option linter.unusedVariables false
set_option maxRecDepth 20000
attribute [local go_sem] Oper.semAt_some

theorem results_cellL {fn : Func} {p : Tmp} {ty : TypeId} (h : fn.results = #[.cell p ty]) (tmps : Array Value) (P : Program) (w : World) :
    (results fn tmps).run P w = ((asAddr (tmps.getD p undef)).run P w).andThen fun a w₁ => (loadVar ty a).run P w₁ := by
  simp only [results, h]
  simp [Sem.run_bind, Result.andThen]
/-- The result lies in a block of one number. -/
theorem results_num {x : Int} {b : Nat} {tmps : Array Value} {w : World} (hp : tmps.getD 6 undef = .pointer (some ⟨b, 0, none⟩)) (hc : w.heap[b]? = some (.cells #[.int .i64 x] 3 (0, 0))) : (results Try.f5 tmps).run Try.prog w = .ok (.int .i64 x) w := by
  have c0 := cell_of_row w b 0 _ _ (0, 0) hc
  rw [results_cellL (p := 6) (ty := 3) rfl, hp]
  go_simp
/-- The least place from f on, or none. -/
def IndV (T L : ByteArray) (f : Nat) (w : World) (e : Ending) (w' : World) : Prop :=
  Below w.heap.size w w' ∧ ((∃ q : Nat, Pl (nums T) (nums L) f q ∧ (∀ p, p < q → ¬ Pl (nums T) (nums L) f p) ∧ e = .returned (.int .i64 (q : Int))) ∨ ((∀ p, ¬ Pl (nums T) (nums L) f p) ∧ e = .returned (.int .i64 (-1))))
set_option maxHeartbeats 4000000 in
theorem index_any (T L : ByteArray) (a : Int) (f : Nat) (hf : max a 0 = (f : Int)) (w : World) (hT : T.size ≤ 10000) (hL : L.size ≤ 10000) (hf1 : f ≤ 10001) :
    Calls Try.prog 5 #[.string T, .string L, .int .i64 a] w (IndV T L f w) := by
  have HP := Lib.hid (lplaces_any T L a f hf (w.alloc (.cells #[.int .i64 0] 3)))
  refine (callsIn_wide (n := 10)).1 ?_
  refine callsIn_of_wp_marks Try.func5 rfl trivial ?_ rfl
  simp only [Try.ntmps5, List.size_toArray, List.length_cons, List.length_nil, Nat.reduceAdd, Nat.reduceSub, Array.replicate_succ, Array.replicate_zero, List.push_toArray, List.append_toArray, List.nil_append, List.cons_append]
  gi_wp2_with (refine ⟨trivial, ?_⟩; gi_at_call 9; refine (callsIn_wide.2 HP.out).mono ?_; rintro en w2 ⟨rfl, rfl⟩)
  obtain ⟨W0, hW0⟩ : ∃ W0, W0 = (((w.alloc (.cells #[.int .i64 0] 3)).alloc (.cells #[.string T] 9)).alloc (.cells #[.string L] 9)).alloc (.cells #[.int .i64 (f : Int)] 3) := ⟨_, rfl⟩
  have z0 : W0.heap.size = w.heap.size + 4 := by rw [hW0]; simp
  have hb0 : Below w.heap.size w W0 := by rw [hW0]; exact ((((Below.refl _ w).alloc (Nat.le_refl _) _).alloc (by simp) _).alloc (by simp; omega) _).alloc (by simp; omega) _
  have hr0 : W0.heap[w.heap.size]? = some (.cells #[.int .i64 0] 3 (0, 0)) := by rw [hW0]; exact at_up (at_up (at_up (at_new w _ rfl) _) _) _
  have hm0 : SeqM (w.heap.size + 1) T L f W0 := by
    rw [hW0]
    exact ⟨at_up (at_up (at_new _ _ (by simp)) _) _, at_up (at_new _ _ (by simp)) _, at_new _ _ (by simp)⟩
  rw [← hW0]
  have hseq := lit_seq (10 - 1) (by omega) T L f (w.heap.size + 1) w.heap.size W0 hm0 (by omega) hT hL hf1
  have HZ := Lib.hid z0
  clear hm0 hW0 z0
  refine range_law rfl (by omega) (gf := 17) (lb := #[.pointer (some ⟨w.heap.size + 1 + 1, 0, none⟩), .pointer (some ⟨w.heap.size + 1, 0, none⟩), .pointer (some ⟨w.heap.size + 1 + 1 + 1, 0, none⟩)]) rfl trivial (enters_of Try.func17 (by kernel_rfl) rfl) rfl hseq
    (fun q W => (∀ p, p < q → ¬ Pl (nums T) (nums L) f p) ∧ W.heap[w.heap.size]? = some (.cells #[.int .i64 0] 3 (0, 0)) ∧ Below w.heap.size w W)
    (fun q W => (∀ p, p < q → ¬ Pl (nums T) (nums L) f p) ∧ W.heap[w.heap.size]? = some (.cells #[.int .i64 (q : Int)] 3 (0, 0)) ∧ Below w.heap.size w W)
    (fun q A B h hb => ⟨h.1, (hb.block _ (by have := HZ.out; omega)).trans h.2.1, h.2.2.trans (hb.mono (by have := HZ.out; omega))⟩)
    (fun q A B h hb => ⟨h.1, (hb.block _ (by have := HZ.out; omega)).trans h.2.1, h.2.2.trans (hb.mono (by have := HZ.out; omega))⟩)
    (fun q A h hp => ⟨fun p hpq hpl => by
      rcases Nat.lt_or_ge p q with h1 | h1
      · exact h.1 p h1 hpl
      · obtain rfl : p = q := by omega
        exact hp hpl, h.2⟩)
    ⟨fun p hp hpl => by have := hpl.1; omega, hr0, hb0⟩
    (fun q => { tmps := #[.string T, .string L, .int .i64 a, undef, undef, undef, .pointer (some ⟨w.heap.size, 0, none⟩), .int .i64 (q : Int), .string T, .string L, .int .i64 a, .func (.func 17) #[] #[.pointer (some ⟨w.heap.size + 1 + 1, 0, none⟩), .pointer (some ⟨w.heap.size + 1, 0, none⟩), .pointer (some ⟨w.heap.size + 1 + 1 + 1, 0, none⟩)], .int .i64 (q : Int), undef], defers := [] }) ?assign ?body ?done ?stop
  case assign =>
    intro l q W K hK
    gi_wp2
    exact hK
  case body =>
    rintro l q W ⟨hq, hr, hb⟩ hp
    have c0 := cell_of_row W w.heap.size 0 _ _ (0, 0) hr
    have f0 : W.frozen? ⟨w.heap.size, 0, none⟩ = false := by simp [World.frozen?, hr]
    have HX := Lib.hid (And.intro hq (And.intro (heap_setCell_same W w.heap.size 0 _ _ (.int .i64 (q : Int)) hr) (hb.setCell (p := ⟨w.heap.size, 0, none⟩) (Nat.le_refl _) (.int .i64 (q : Int)))))
    clear hq hr hb
    gi_wp2
    exact ⟨KeepsOthers.setCell _ _ _, HX.out⟩
  case done =>
    rintro D q W hD hq ⟨hn, hr, hb⟩ hK
    have c0 := cell_of_row W w.heap.size 0 _ _ (0, 0) hr
    have f0 : W.frozen? ⟨w.heap.size, 0, none⟩ = false := by simp [World.frozen?, hr]
    have HX := Lib.hid (And.intro hq (And.intro hn (And.intro hr hb)))
    clear hq hn hr hb
    gi_wp2
    have hK2 : (W.setCell ⟨w.heap.size, 0, none⟩ (.int .i64 (-1))).heap[D]? = some (.deferred (some [])) := (Below.heap_setCell _ _ _ _ (by have := HZ.out; simp; omega)).trans hK
    refine ⟨by simp, .inl ⟨_, _, rfl, run_takeDeferred hK2, ?_⟩⟩
    have hr2 : ((W.setCell ⟨w.heap.size, 0, none⟩ (.int .i64 (-1))).putObj D (.deferred none)).heap[w.heap.size]? = some (.cells #[.int .i64 (-1)] 3 (0, 0)) := (World.putObj_heap_other (by have := HZ.out; omega)).trans (heap_setCell_same W w.heap.size 0 _ _ _ HX.out.2.2.1)
    refine ⟨_, results_num rfl hr2, ?_⟩
    refine ⟨(HX.out.2.2.2.setCell (p := ⟨w.heap.size, 0, none⟩) (Nat.le_refl _) (.int .i64 (-1))).trans ((below_put _ hK2 hD).mono (by have := HZ.out; omega)), .inr ⟨fun p hp => ?_, rfl⟩⟩
    rcases Nat.lt_or_ge p q with h1 | h1
    · exact HX.out.2.1 p h1 hp
    · exact HX.out.1 p h1 hp
  case stop =>
    rintro D q W hD hp ⟨hn, hr, hb⟩ hK
    have HX := Lib.hid (And.intro hn (And.intro hr hb))
    clear hn hb
    gi_wp2
    refine ⟨by simp, .inl ⟨_, _, rfl, run_takeDeferred hK, ?_⟩⟩
    refine ⟨_, results_num rfl ((World.putObj_heap_other (by have := HZ.out; omega)).trans hr), ?_⟩
    exact ⟨HX.out.2.2.trans ((below_put _ hK hD).mono (by have := HZ.out; omega)), .inl ⟨q, hp, HX.out.1, rfl⟩⟩
end Go.Proofs.Ytbhbdhjkicmecaa
/- Count. -/
namespace Go.Proofs.Ytbhbdhjkicmecaa
open Go Go.RowKit Go.Shelf
set_option linter.unusedVariables false
set_option maxRecDepth 20000
attribute [local go_sem] Oper.semAt_some

/-- How many places there are below q. -/
def cntP (T L : List Int) : Nat → Nat
  | 0 => 0
  | q + 1 => cntP T L q + if Pl T L 0 q then 1 else 0
theorem cntP_le (T L : List Int) : ∀ q, cntP T L q ≤ q
  | 0 => Nat.le_refl _
  | q + 1 => by have := cntP_le T L q; rw [cntP]; split <;> omega
theorem cntP_up {T L : List Int} {q : Nat} (h : ∀ p, q ≤ p → ¬ Pl T L 0 p) : ∀ d, cntP T L (q + d) = cntP T L q
  | 0 => rfl
  | d + 1 => by rw [← Nat.add_assoc, cntP, if_neg (h _ (by omega)), cntP_up h d]; rfl
/-- How many there are. -/
def cntA (T L : List Int) : Nat := cntP T L (T.length + 1)
theorem cntP_all {T L : List Int} {q : Nat} (h : ∀ p, q ≤ p → ¬ Pl T L 0 p) : cntP T L q = cntA T L := by
  have h2 : ∀ p, T.length + 1 ≤ p → ¬ Pl T L 0 p := fun p hp hpl => by have := hpl.2.1; omega
  unfold cntA
  rcases Nat.le_total q (T.length + 1) with h3 | h3
  · have := cntP_up h (T.length + 1 - q)
    rw [show q + (T.length + 1 - q) = T.length + 1 by omega] at this
    exact this.symm
  · have := cntP_up h2 (q - (T.length + 1))
    rwa [show T.length + 1 + (q - (T.length + 1)) = q by omega] at this
set_option maxHeartbeats 4000000 in
theorem countL_any (T L : ByteArray) (w : World) (hT : T.size ≤ 10000) (hL : L.size ≤ 10000) :
    Calls Try.prog 6 #[.string T, .string L] w fun e w' => e = .returned (.int .i64 (cntA (nums T) (nums L) : Nat)) ∧ Below w.heap.size w w' := by
  have HP := Lib.hid (lplaces_any T L 0 0 rfl (w.alloc (.cells #[.int .i64 0] 3)))
  refine (callsIn_wide (n := 10)).1 ?_
  refine callsIn_of_wp_marks Try.func6 rfl trivial ?_ rfl
  simp only [Try.ntmps6, List.size_toArray, List.length_cons, List.length_nil, Nat.reduceAdd, Nat.reduceSub, Array.replicate_succ, Array.replicate_zero, List.push_toArray, List.append_toArray, List.nil_append, List.cons_append]
  gi_wp2_with (refine ⟨trivial, ?_⟩; gi_at_call 9; refine (callsIn_wide.2 HP.out).mono ?_; rintro en w2 ⟨rfl, rfl⟩)
  obtain ⟨W0, hW0⟩ : ∃ W0, W0 = (((w.alloc (.cells #[.int .i64 0] 3)).alloc (.cells #[.string T] 9)).alloc (.cells #[.string L] 9)).alloc (.cells #[.int .i64 0] 3) := ⟨_, rfl⟩
  have z0 : W0.heap.size = w.heap.size + 4 := by rw [hW0]; simp
  have hb0 : Below w.heap.size w W0 := by rw [hW0]; exact ((((Below.refl _ w).alloc (Nat.le_refl _) _).alloc (by simp) _).alloc (by simp; omega) _).alloc (by simp; omega) _
  have hr0 : W0.heap[w.heap.size]? = some (.cells #[.int .i64 0] 3 (0, 0)) := by rw [hW0]; exact at_up (at_up (at_up (at_new w _ rfl) _) _) _
  have hm0 : SeqM (w.heap.size + 1) T L 0 W0 := by
    rw [hW0]
    exact ⟨at_up (at_up (at_new _ _ (by simp)) _) _, at_up (at_new _ _ (by simp)) _, at_new _ _ (by simp)⟩
  rw [← hW0]
  have hseq := lit_seq (10 - 1) (by omega) T L 0 (w.heap.size + 1) w.heap.size W0 hm0 (by omega) hT hL (by omega)
  have HZ := Lib.hid z0
  clear hm0 hW0 z0
  refine range_law rfl (by omega) (gf := 17) (lb := #[.pointer (some ⟨w.heap.size + 1 + 1, 0, none⟩), .pointer (some ⟨w.heap.size + 1, 0, none⟩), .pointer (some ⟨w.heap.size + 1 + 1 + 1, 0, none⟩)]) rfl trivial (enters_of Try.func17 (by kernel_rfl) rfl) rfl hseq
    (fun q W => W.heap[w.heap.size]? = some (.cells #[.int .i64 (cntP (nums T) (nums L) q : Nat)] 3 (0, 0)) ∧ Below w.heap.size w W)
    (fun _ _ => False)
    (fun q A B h hb => ⟨(hb.block _ (by have := HZ.out; omega)).trans h.1, h.2.trans (hb.mono (by have := HZ.out; omega))⟩)
    (fun q A B h hb => h)
    (fun q A h hp => by rw [cntP, if_neg hp]; exact h)
    ⟨hr0, hb0⟩
    (fun q => { tmps := #[.string T, .string L, undef, undef, .int .i64 0, .pointer (some ⟨w.heap.size, 0, none⟩), .string T, .string L, .func (.func 17) #[] #[.pointer (some ⟨w.heap.size + 1 + 1, 0, none⟩), .pointer (some ⟨w.heap.size + 1, 0, none⟩), .pointer (some ⟨w.heap.size + 1 + 1 + 1, 0, none⟩)], .int .i64 (q : Int), undef, undef, undef], defers := [] }) ?assign ?body ?done ?stop
  case assign =>
    intro l q W K hK
    gi_wp2
    simpa using hK
  case body =>
    rintro l q W ⟨hr, hb⟩ hp
    obtain ⟨k, hk⟩ : ∃ k, k = cntP (nums T) (nums L) q := ⟨_, rfl⟩
    have hkq : k ≤ 10000 := by have := cntP_le (nums T) (nums L) q; have := hp.2.1; rw [nums_length, nums_length] at this; omega
    have hk1 : cntP (nums T) (nums L) (q + 1) = k + 1 := by rw [cntP, if_pos hp, hk]
    rw [← hk] at hr
    rw [hk1]
    have c0 := cell_of_row W w.heap.size 0 _ _ (0, 0) hr
    have f0 : W.frozen? ⟨w.heap.size, 0, none⟩ = false := by simp [World.frozen?, hr]
    have hki : (k : Int) ≤ 10000 := by omega
    have HX := Lib.hid (And.intro (heap_setCell_same W w.heap.size 0 _ _ (.int .i64 ((k : Int) + 1)) hr) (hb.setCell (p := ⟨w.heap.size, 0, none⟩) (Nat.le_refl _) (.int .i64 ((k : Int) + 1))))
    clear hr hb hk hk1
    gi_wp2
    exact ⟨KeepsOthers.setCell _ _ _, KpB.set _, HX.out.1, HX.out.2⟩
  case done =>
    rintro D q W hD hq ⟨hr, hb⟩ hK
    rw [cntP_all hq] at hr
    have c0 := cell_of_row W w.heap.size 0 _ _ (0, 0) hr
    have HX := Lib.hid hb
    clear hq hr hb
    gi_wp2
    refine ⟨by simp, .inl ⟨_, _, rfl, run_takeDeferred hK, ?_⟩⟩
    exact ⟨_, results_tmp rfl _ _ _, rfl, HX.out.trans ((below_put _ hK hD).mono (by have := HZ.out; omega))⟩
  case stop =>
    rintro D q W hD hp h hK
    exact h.elim
end Go.Proofs.Ytbhbdhjkicmecaa
/- The law of lit. -/
namespace Go.Proofs.Ytbhbdhjkicmecaa
open Go Go.RowKit Go.Shelf
set_option linter.unusedVariables false
set_option maxRecDepth 20000

theorem pl_from {T L : List Int} {f q : Nat} : Pl T L f q ↔ f ≤ q ∧ Pl T L 0 q := by unfold Pl; exact ⟨fun h => ⟨h.1, Nat.zero_le _, h.2⟩, fun h => ⟨h.1, h.2.2⟩⟩
theorem cntP_none {T L : List Int} {a : Nat} : ∀ {d : Nat}, (∀ p, a ≤ p → p < a + d → ¬ Pl T L 0 p) → cntP T L (a + d) = cntP T L a
  | 0, _ => rfl
  | d + 1, h => by rw [← Nat.add_assoc, cntP, if_neg (h _ (by omega) (by omega)), cntP_none (d := d) fun p h1 h2 => h p h1 (by omega)]; rfl
theorem cnt_next {T L : List Int} {p q c : Nat} (hp : Pl T L 0 p) (hc : cntP T L p = c) (hq : Pl T L (p + 1) q) (hm : ∀ r, r < q → ¬ Pl T L (p + 1) r) : Pl T L 0 q ∧ cntP T L q = c + 1 := by
  have h1 := pl_from.1 hq
  refine ⟨h1.2, ?_⟩
  have := cntP_none (T := T) (L := L) (a := p + 1) (d := q - (p + 1)) fun r h2 h3 hr => hm r (by omega) (pl_from.2 ⟨h2, hr⟩)
  rw [show p + 1 + (q - (p + 1)) = q by omega, cntP, if_pos hp, hc] at this
  exact this
theorem cnt_last {T L : List Int} {p c : Nat} (hp : Pl T L 0 p) (hc : cntP T L p = c) (hn : ∀ r, ¬ Pl T L (p + 1) r) : cntA T L = c + 1 := by
  rw [← cntP_all (q := p + 1) fun r h2 hr => hn r (pl_from.2 ⟨h2, hr⟩), cntP, if_pos hp, hc]
theorem cnt_first {T L : List Int} {q : Nat} (hm : ∀ r, r < q → ¬ Pl T L 0 r) : cntP T L q = 0 := by
  have := cntP_none (T := T) (L := L) (a := 0) (d := q) fun r _ h => hm r (by omega)
  rwa [Nat.zero_add] at this
theorem cnt_zero {T L : List Int} (hn : ∀ r, ¬ Pl T L 0 r) : cntA T L = 0 := by
  rw [← cntP_all (q := 0) fun r _ => hn r]; rfl
theorem pl_zeros {n m q : Nat} : Pl (List.replicate n (0 : Int)) (List.replicate m 0) 0 q ↔ q + m ≤ n := by
  unfold Pl
  rw [List.length_replicate, List.length_replicate]
  refine ⟨fun h => h.2.1, fun h => ⟨Nat.zero_le _, h, ?_⟩⟩
  rw [List.drop_replicate, List.take_replicate]
  congr 1
  omega
theorem cnt_zeros {n m : Nat} : cntA (List.replicate n (0 : Int)) (List.replicate m 0) = n + 1 - m := by
  have key : ∀ q, cntP (List.replicate n (0 : Int)) (List.replicate m 0) q = min q (n + 1 - m) := by
    intro q
    induction q with
    | zero => simp [cntP]
    | succ q ih =>
      rw [cntP, ih]
      by_cases h : q + m ≤ n
      · rw [if_pos (pl_zeros.2 h)]; omega
      · rw [if_neg (fun h2 => h (pl_zeros.1 h2))]; omega
  unfold cntA
  rw [key, List.length_replicate]
  omega
/-- A new row of zeros, as a string. -/
theorem zeros_str (n : Nat) : nums (strOfNums (List.replicate n 0)) = List.replicate n 0 := nums_strOfNums _ fun c hc => by rw [List.eq_of_mem_replicate hc]; omega
theorem zeros_row {w w' : World} {g n : Nat} (h : w'.heap[g]? = some (.cells (madeCells #[Value.int .u8 0] n) 5 (0, 0))) : RowI .u8 w' (some ⟨g, 0, none⟩) n (List.replicate n 0) := by
  refine ⟨List.length_replicate, fun hn => ⟨g, 0, rfl, (Array.getElem?_eq_some_iff.1 h).1, fun j hj => ?_⟩⟩
  rw [cell_of_row w' g (0 + j) _ _ (0, 0) h]
  simp [madeCells, hj, Nat.mod_one]
/-- What Index tells, as a number. -/
def IndN (T L : ByteArray) (f : Nat) (v : Int) : Prop := (∃ q : Nat, v = (q : Int) ∧ Pl (nums T) (nums L) f q ∧ ∀ p, p < q → ¬ Pl (nums T) (nums L) f p) ∨ (v = -1 ∧ ∀ p, ¬ Pl (nums T) (nums L) f p)
theorem IndV.val {T L : ByteArray} {f : Nat} {w w' : World} {e : Ending} (h : IndV T L f w e w') : ∃ v : Int, e = .returned (.int .i64 v) ∧ IndN T L f v ∧ Below w.heap.size w w' := by
  obtain ⟨hb, ⟨q, h1, h2, rfl⟩ | ⟨h1, rfl⟩⟩ := h
  · exact ⟨_, rfl, .inl ⟨q, rfl, h1, h2⟩, hb⟩
  · exact ⟨_, rfl, .inr ⟨rfl, h1⟩, hb⟩
/-- Where the law's loop stands. -/
def LoopV (T L : ByteArray) (c : Nat) (v : Int) : Prop := (∃ p : Nat, v = (p : Int) ∧ Pl (nums T) (nums L) 0 p ∧ cntP (nums T) (nums L) p = c) ∨ (v = -1 ∧ cntA (nums T) (nums L) = c)
theorem IndN.first {T L : ByteArray} {v : Int} (h : IndN T L 0 v) : LoopV T L 0 v := by
  rcases h with ⟨q, h1, h2, h3⟩ | ⟨h1, h2⟩
  · exact .inl ⟨q, h1, h2, cnt_first h3⟩
  · exact .inr ⟨h1, cnt_zero h2⟩
theorem IndN.next {T L : ByteArray} {v : Int} {p c : Nat} (h : IndN T L (p + 1) v) (hp : Pl (nums T) (nums L) 0 p) (hc : cntP (nums T) (nums L) p = c) : LoopV T L (c + 1) v := by
  rcases h with ⟨q, h1, h2, h3⟩ | ⟨h1, h2⟩
  · obtain ⟨h4, h5⟩ := cnt_next hp hc h2 h3
    exact .inl ⟨q, h1, h4, h5⟩
  · exact .inr ⟨h1, cnt_last hp hc h2⟩
theorem info_u8L : (Try.prog.info? 5).map (fun i => (i.zero, i.size, i.bytes)) = some (some (.int .u8 0), 1, 1) := by kernel_rfl
set_option maxHeartbeats 8000000 in
theorem litCounts_any (hA : ∀ w : World, Calls Try.prog 4 #[] w fun e w' => e = .returned (.bool true) ∧ Below w.heap.size w w') (T L : ByteArray) (a b : Nat) (ha : a < 256) (hb : b < 256) (w : World) :
    Calls Try.prog 3 #[.string T, .string L, .agg #[.int .u8 (a : Int), .int .u8 (b : Int)]] w fun e w' => e = .returned (.bool true) ∧ Below w.heap.size w w' := by
  have HA := Lib.hid hA
  clear hA
  by_cases hT : (T.size : Int) > 100
  · go_enter Try.func3, Try.ntmps3
    go_wp2_with (first | (go_at_call 4; (with_reducible refine (HA.out w1).mono ?_); rintro e w2 ⟨rfl, hb2⟩; have HB2 := Lib.hid (HB1.out.trans (hb2.mono HB1.out.size)); clear hb2) | (go_at_call 4; (with_reducible refine (HA.out _).mono ?_); rintro e w1 ⟨rfl, hb1⟩; have HB1 := Lib.hid (((Below.refl w.heap.size w).alloc (Nat.le_refl _) (.cells #[.int .u8 (a : Int), .int .u8 (b : Int)] 22)).trans (hb1.mono (by simp))); have HN1 := Lib.hid hb1; clear hb1))
    go_ret
    exact ⟨rfl, HB2.out⟩
  by_cases hL : (L.size : Int) > 50
  · go_enter Try.func3, Try.ntmps3
    go_wp2_with (first | (go_at_call 4; (with_reducible refine (HA.out w1).mono ?_); rintro e w2 ⟨rfl, hb2⟩; have HB2 := Lib.hid (HB1.out.trans (hb2.mono HB1.out.size)); clear hb2) | (go_at_call 4; (with_reducible refine (HA.out _).mono ?_); rintro e w1 ⟨rfl, hb1⟩; have HB1 := Lib.hid (((Below.refl w.heap.size w).alloc (Nat.le_refl _) (.cells #[.int .u8 (a : Int), .int .u8 (b : Int)] 22)).trans (hb1.mono (by simp))); have HN1 := Lib.hid hb1; clear hb1))
    go_ret
    exact ⟨rfl, HB2.out⟩
  have hT1 : T.size ≤ 100 := by omega
  have hL1 : L.size ≤ 50 := by omega
  have HI := Lib.hid (fun (W : World) (x : Int) (f : Nat) (hf : max x 0 = (f : Int)) (h : f ≤ 10001) => index_any T L x f hf W (by omega) (by omega) h)
  have HTL := Lib.hid (And.intro hT1 hL1)
  clear hT1 hL1
  go_enter Try.func3, Try.ntmps3
  go_wp2_with (first
    | (go_at_call 4; (with_reducible refine (HA.out _).mono ?_); rintro e w1 ⟨rfl, hb1⟩; have HB1 := Lib.hid (((Below.refl w.heap.size w).alloc (Nat.le_refl _) (.cells #[.int .u8 (a : Int), .int .u8 (b : Int)] 22)).trans (hb1.mono (by simp))); have HN1 := Lib.hid hb1; clear hb1)
    | (go_at_call 5; (with_reducible refine (HI.out _ 0 0 rfl (by omega)).mono ?_); rintro e w2 hv; obtain ⟨v, rfl, hv3, hb2⟩ := hv.val; have HB2 := Lib.hid (HB1.out.trans (hb2.mono HB1.out.size)); have HBx := Lib.hid (HN1.out.trans (hb2.mono HN1.out.size)); have HV := Lib.hid hv3; clear hb2 hv3 hv))
  go_loopw [7, 8] (fun v7 v8 wr => ∃ (c : Nat) (v : Int), v7 = .int .i64 (c : Int) ∧ v8 = .int .i64 v ∧ c ≤ T.size + 1 ∧ Hid (LoopV T L c v ∧ Below w.heap.size w wr ∧ Below (w.alloc (.cells #[.int .u8 (a : Int), .int .u8 (b : Int)] 22)).heap.size (w.alloc (.cells #[.int .u8 (a : Int), .int .u8 (b : Int)] 22)) wr)) (fun v7 _ _ => T.size + 2 - (intOf v7).toNat)
  case atStart => exact ⟨0, v, rfl, rfl, Nat.zero_le _, Lib.hid ⟨HV.out.first, HB2.out, HBx.out⟩⟩
  case round =>
    obtain ⟨c, v, rfl, rfl, hcT, H⟩ := hrel
    rcases H.out.1 with ⟨p, rfl, hp, hc⟩ | ⟨rfl, hc⟩
    · have hcp : c ≤ p := by have := cntP_le (nums T) (nums L) p; omega
      have hpT : p + L.size ≤ T.size := by have := hp.2.1; rwa [nums_length, nums_length] at this
      obtain ⟨S, hS1, hS2, hcut⟩ : ∃ S : ByteArray, S.size = L.size ∧ S = L ∧ ∀ w : World, (Instr.slice 9 (.string T) (some (.int .i64 (p : Int))) (some (.int .i64 ((p : Int) + (L.size : Int)))) none).run Try.prog w = .ok (.string S) w := by
        have hr := fun w => run_slice_string (P := Try.prog) w 9 T .i64 .i64 (p : Int) ((p : Int) + (L.size : Int)) Try.underlying9 (by omega) (by omega) (by omega)
        have e1 : ((p : Int) + (L.size : Int)).toNat = p + L.size := by omega
        rw [e1, Int.toNat_natCast] at hr
        have e2 : T.extract p (p + L.size) = L := by
          have e3 : nums (T.extract p (p + L.size)) = nums L := by
            have e4 : nums (T.extract p (p + L.size)) = ((nums T).drop p).take (p + L.size - p) := by
              unfold nums
              rw [← List.map_drop, ← List.map_take]
              congr 1
              rw [ByteArray.data_extract, Array.toList_extract]
            have := hp.2.2
            rw [nums_length] at this
            rw [e4, show p + L.size - p = L.size by omega, this]
          exact (strOfNums_nums _).symm.trans ((congrArg strOfNums e3).trans (strOfNums_nums L))
        exact ⟨_, by rw [e2], e2, hr⟩
      subst hS2
      have h0 : (0 : Int) ≤ (p : Int) := by omega
      have h1 : (c : Int) ≤ (T.size : Int) := by omega
      have h2 : ¬ (p : Int) + (S.size : Int) > (T.size : Int) := by omega
      have HX := Lib.hid (And.intro hp (And.intro hc (And.intro hpT hcp)))
      have hc0 : (0 : Int) ≤ (c : Int) := by omega
      have h3 : (T.size : Int) ≤ 100 := by omega
      have h4 : (S.size : Int) ≤ 50 := by omega
      clear hp hc hpT hcp hS1
      go_wp2_with (go_at_call 5; (with_reducible refine (HI.out _ ((p : Int) + 1) (p + 1) (by omega) (by have := HX.out.2.2.1; have := HTL.out; omega)).mono ?_); rintro e w3 hv; obtain ⟨v, rfl, hv3, hb3⟩ := hv.val; have HV3 := Lib.hid (And.intro hv3 hb3); clear hb3 hv3 hv)
      have hcp := HX.out.2.2.2
      refine ⟨⟨c + 1, v, rfl, rfl, by have := HX.out.2.2.1; omega, Lib.hid ⟨HV3.out.1.next HX.out.1 HX.out.2.1, H.out.2.1.trans (HV3.out.2.mono H.out.2.1.size), H.out.2.2.trans (HV3.out.2.mono H.out.2.2.size)⟩⟩, by have := HX.out.2.2.1; simp [intOf]; omega⟩
    · have h0 : ¬ (0 : Int) ≤ (-1 : Int) := by omega
      have hrow : wr.heap[w.heap.size]? = some (.cells #[.int .u8 (a : Int), .int .u8 (b : Int)] 22 (0, 0)) := (H.out.2.2.block _ (by simp)).trans (heap_alloc_new w _)
      have c0 := cell_of_row wr w.heap.size 0 _ _ (0, 0) hrow
      have c1 := cell_of_row wr w.heap.size 1 _ _ (0, 0) hrow
      obtain ⟨m, hm⟩ : ∃ m : Nat, m = b % 40 := ⟨_, rfl⟩
      have hmod : (b : Int).tmod 40 = (m : Int) := by rw [Int.tmod_eq_emod_of_nonneg (by omega), hm]; omega
      have hm40 : m < 40 := by omega
      have hmkA := run_make_row' (P := Try.prog) 25 5 (.int .u8 0) 1 Try.underlying25 info_u8L rfl .i64 .i64 a (by omega) (by omega)
      have hmkM := run_make_row' (P := Try.prog) 25 5 (.int .u8 0) 1 Try.underlying25 info_u8L rfl .i64 .i64 m (by omega) (by omega)
      obtain ⟨ZA, hZA⟩ : ∃ Z, Z = madeCells #[Value.int .u8 0] a := ⟨_, rfl⟩
      obtain ⟨ZM, hZM⟩ : ∃ Z, Z = madeCells #[Value.int .u8 0] m := ⟨_, rfl⟩
      rw [← hZA] at hmkA
      rw [← hZM] at hmkM
      have HX := Lib.hid (And.intro hZA (And.intro hZM (And.intro hm (And.intro hc hrow))))
      have ha0 : (0 : Int) ≤ (a : Int) := by omega
      have ha1 : (a : Int) < 256 := by omega
      have hb0 : (0 : Int) ≤ (b : Int) := by omega
      have hb1 : (b : Int) < 256 := by omega
      have wa : IntKind.i64.wrap (a : Int) = (a : Int) := by rw [IntKind.wrap_i64]; omega
      have wb : IntKind.i64.wrap (b : Int) = (b : Int) := by rw [IntKind.wrap_i64]; omega
      have wm : IntKind.i64.wrap (m : Int) = (m : Int) := by rw [IntKind.wrap_i64]; omega
      have d0 : (wr.alloc (.cells ZM 5)).cell? ⟨w.heap.size, 0, none⟩ = some (.int .u8 (a : Int)) := cell_of_row _ w.heap.size 0 _ _ (0, 0) (at_up hrow _)
      have d1 : (wr.alloc (.cells ZA 5)).cell? ⟨w.heap.size, 1, none⟩ = some (.int .u8 (b : Int)) := cell_of_row _ w.heap.size 1 _ _ (0, 0) (at_up hrow _)
      obtain ⟨z, hz⟩ : ∃ z : Nat, z = a + 1 - m := ⟨_, rfl⟩
      have hmax : max ((a : Int) - (m : Int) + 1) 0 = (z : Int) := by omega
      have HZ := Lib.hid hz
      clear hZA hZM hm hc hrow hz
      go_wp2_with fail
      go_region
      · have HrA : Hid (RowI .u8 ((wr.alloc (.cells ZA 5)).alloc (.cells ZM 5)).drew (some ⟨wr.heap.size, 0, none⟩) a (List.replicate a 0)) := Lib.hid (zeros_row (w := wr) (by rw [← HX.out.1]; exact at_up (at_new wr _ rfl) _))
        have HrM : Hid (RowI .u8 ((wr.alloc (.cells ZA 5)).alloc (.cells ZM 5)).drew (some ⟨wr.heap.size + 1, 0, none⟩) m (List.replicate m 0)) := Lib.hid (zeros_row (w := wr) (by rw [← HX.out.2.1]; exact at_new _ _ (by simp)))
        have HBX : Hid (Below wr.heap.size wr ((wr.alloc (.cells ZA 5)).alloc (.cells ZM 5)).drew) := Lib.hid (((Below.refl wr.heap.size wr).alloc (Nat.le_refl _) _).alloc (by simp) _).drew
        have HC1 := Lib.hid (countL_any T L ((wr.alloc (.cells ZA 5)).alloc (.cells ZM 5)).drew (by have := HTL.out; omega) (by have := HTL.out; omega))
        rw [HX.out.2.2.2.1] at HC1
        go_wp2_with (first
          | (go_at_call 6; (with_reducible refine HC2.out.mono ?_); rintro e w6 ⟨rfl, hb6⟩; have H6 := Lib.hid hb6; clear hb6)
          | (go_at_call 6; (with_reducible refine HC1.out.mono ?_); rintro e w5 ⟨rfl, hb5⟩; have s1 := strRow w5 (some ⟨wr.heap.size, 0, none⟩) a a _ (HrA.out.below hb5 (Nat.le_refl _)); have s2 := strRow w5 (some ⟨wr.heap.size + 1, 0, none⟩) m m _ (HrM.out.below hb5 (Nat.le_refl _)); obtain ⟨SA, hSA⟩ : ∃ S, S = strOfNums (List.replicate a 0) := ⟨_, rfl⟩; obtain ⟨SM, hSM⟩ : ∃ S, S = strOfNums (List.replicate m 0) := ⟨_, rfl⟩; rw [← hSA] at s1; rw [← hSM] at s2; have hc2 := countL_any SA SM w5 (by rw [← nums_length, hSA, zeros_str, List.length_replicate]; omega) (by rw [← nums_length, hSM, zeros_str, List.length_replicate]; omega); rw [show cntA (nums SA) (nums SM) = z by rw [hSA, hSM, zeros_str, zeros_str, cnt_zeros, HZ.out]] at hc2; have HC2 := Lib.hid hc2; have H5 := Lib.hid hb5; clear hc2 hb5 hSA hSM))
        go_ret
        exact ⟨rfl, (H.out.2.1.trans (HBX.out.mono H.out.2.1.size)).trans ((H5.out.mono (Nat.le_trans H.out.2.1.size HBX.out.size)).trans (H6.out.mono (Nat.le_trans (Nat.le_trans H.out.2.1.size HBX.out.size) H5.out.size)))⟩
      · have HrA : Hid (RowI .u8 ((wr.alloc (.cells ZM 5)).alloc (.cells ZA 5)).drew (some ⟨wr.heap.size + 1, 0, none⟩) a (List.replicate a 0)) := Lib.hid (zeros_row (w := wr) (by rw [← HX.out.1]; exact at_new _ _ (by simp)))
        have HrM : Hid (RowI .u8 ((wr.alloc (.cells ZM 5)).alloc (.cells ZA 5)).drew (some ⟨wr.heap.size, 0, none⟩) m (List.replicate m 0)) := Lib.hid (zeros_row (w := wr) (by rw [← HX.out.2.1]; exact at_up (at_new wr _ rfl) _))
        have HBX : Hid (Below wr.heap.size wr ((wr.alloc (.cells ZM 5)).alloc (.cells ZA 5)).drew) := Lib.hid (((Below.refl wr.heap.size wr).alloc (Nat.le_refl _) _).alloc (by simp) _).drew
        have HC1 := Lib.hid (countL_any T L ((wr.alloc (.cells ZM 5)).alloc (.cells ZA 5)).drew (by have := HTL.out; omega) (by have := HTL.out; omega))
        rw [HX.out.2.2.2.1] at HC1
        go_wp2_with (first
          | (go_at_call 6; (with_reducible refine HC2.out.mono ?_); rintro e w6 ⟨rfl, hb6⟩; have H6 := Lib.hid hb6; clear hb6)
          | (go_at_call 6; (with_reducible refine HC1.out.mono ?_); rintro e w5 ⟨rfl, hb5⟩; have s1 := strRow w5 (some ⟨wr.heap.size + 1, 0, none⟩) a a _ (HrA.out.below hb5 (Nat.le_refl _)); have s2 := strRow w5 (some ⟨wr.heap.size, 0, none⟩) m m _ (HrM.out.below hb5 (Nat.le_refl _)); obtain ⟨SA, hSA⟩ : ∃ S, S = strOfNums (List.replicate a 0) := ⟨_, rfl⟩; obtain ⟨SM, hSM⟩ : ∃ S, S = strOfNums (List.replicate m 0) := ⟨_, rfl⟩; rw [← hSA] at s1; rw [← hSM] at s2; have hc2 := countL_any SA SM w5 (by rw [← nums_length, hSA, zeros_str, List.length_replicate]; omega) (by rw [← nums_length, hSM, zeros_str, List.length_replicate]; omega); rw [show cntA (nums SA) (nums SM) = z by rw [hSA, hSM, zeros_str, zeros_str, cnt_zeros, HZ.out]] at hc2; have HC2 := Lib.hid hc2; have H5 := Lib.hid hb5; clear hc2 hb5 hSA hSM))
        go_ret
        exact ⟨rfl, (H.out.2.1.trans (HBX.out.mono H.out.2.1.size)).trans ((H5.out.mono (Nat.le_trans H.out.2.1.size HBX.out.size)).trans (H6.out.mono (Nat.le_trans (Nat.le_trans H.out.2.1.size HBX.out.size) H5.out.size)))⟩
end Go.Proofs.Ytbhbdhjkicmecaa
/- What a tree begins with, in plain words. -/
namespace Go.Proofs.Ytbhbdhjkicmecaa
open Go Go.RowKit
set_option linter.unusedVariables false

abbrev Pre := ByteArray × Bool
/-- One behind the other, up to the first that isn't whole; cut at 200 octets. -/
def rowP : ByteArray → List Pre → Pre
  | acc, [] => (acc, true)
  | acc, (s, b) :: t => if 200 < (acc ++ s).size then ((acc ++ s).extract 0 200, false) else if b = true then rowP (acc ++ s) t else (acc ++ s, false)
/-- How many octets are alike. -/
def likeL : List Int → List Int → Nat
  | x :: a, y :: b => if x = y then likeL a b + 1 else 0
  | _, _ => 0
def likeB (s t : ByteArray) : Nat := likeL (nums s) (nums t)
/-- Side by side, behind the first. -/
def altG : Pre → List Pre → Pre
  | p, [] => p
  | p, q :: t => let n := likeB p.1 q.1; altG (p.1.extract 0 n, ((p.2 && q.2) && n == p.1.size) && n == q.1.size) t
def altP : List Pre → Pre
  | [] => (ByteArray.empty, true)
  | q :: t => altG (q.1, true) (q :: t)
/-- One number of a set. -/
def charP : List (Int × Int) → Pre
  | [(a, b)] => if a = b ∧ isI a = true then (strOfNums (putI a), true) else (ByteArray.empty, false)
  | _ => (ByteArray.empty, false)
def repP (mn mx : Int) (kp : List Pre) : Pre :=
  ((rowP ByteArray.empty (List.replicate (min mn 201).toNat (rowP ByteArray.empty kp))).1, ((rowP ByteArray.empty kp).2 && (rowP ByteArray.empty (List.replicate (min mn 201).toNat (rowP ByteArray.empty kp))).2) && mx == max mn 0)
def nodeP (op : Int) (s : List (Int × Int)) (mn mx : Int) (kp : List Pre) : Pre :=
  if op = 0 then (ByteArray.empty, true) else if op = 1 then charP s else if op = 4 then rowP ByteArray.empty kp else if op = 5 then altP kp else if op = 6 then repP mn mx kp else (ByteArray.empty, false)
/-- Of each node of a row. -/
def prefs : Wood → List Pre
  | .nil => []
  | .cons op s mn mx k x => nodeP op s mn mx (prefs k) :: prefs x
theorem prefs_len : ∀ T : Wood, (prefs T).length = T.len
  | .nil => rfl
  | .cons op s mn mx k x => by rw [prefs, List.length_cons, prefs_len x, Wood.len]
theorem prefs_nth : ∀ (T : Wood) (j : Nat), j < T.len → prefs (T.nth j) = [(prefs T)[j]?.getD (ByteArray.empty, false)]
  | .nil, _, h => by simp [Wood.len] at h
  | .cons op s mn mx k x, 0, _ => rfl
  | .cons op s mn mx k x, j + 1, h => by
    rw [Wood.nth, prefs_nth x j (by simp only [Wood.len] at h; omega)]
    rfl
theorem likeL_le : ∀ a b : List Int, likeL a b ≤ a.length ∧ likeL a b ≤ b.length
  | [], _ => by simp [likeL]
  | _ :: _, [] => by simp [likeL]
  | x :: a, y :: b => by
    have := likeL_le a b
    rw [likeL]
    simp only [List.length_cons]
    split <;> omega
theorem likeL_is : ∀ (a b : List Int) (n : Nat), n ≤ a.length → n ≤ b.length → (∀ i, i < n → a[i]? = b[i]?) → (n = a.length ∨ n = b.length ∨ a[n]? ≠ b[n]?) → likeL a b = n
  | [], b, n, h1, _, _, _ => by simp at h1; subst h1; cases b <;> rfl
  | x :: a, [], n, _, h2, _, _ => by simp at h2; subst h2; rfl
  | x :: a, y :: b, 0, _, _, _, h => by
    have hxy : x ≠ y := by
      rcases h with h | h | h
      · simp at h
      · simp at h
      · intro e; subst e; simp at h
    rw [likeL, if_neg hxy]
  | x :: a, y :: b, n + 1, h1, h2, h3, h4 => by
    have h0 := h3 0 (by omega)
    simp at h0
    subst h0
    rw [likeL, if_pos rfl, likeL_is a b n (by simpa using h1) (by simpa using h2) (fun i hi => by simpa using h3 (i + 1) (by omega)) (by simpa using h4)]
theorem likeB_le (s t : ByteArray) : likeB s t ≤ s.size ∧ likeB s t ≤ t.size := by
  have := likeL_le (nums s) (nums t)
  rwa [nums_length, nums_length] at this
theorem rowP_size : ∀ (l : List Pre) (acc : ByteArray), acc.size ≤ 200 → (rowP acc l).1.size ≤ 200
  | [], acc, h => h
  | (s, b) :: t, acc, h => by
    rw [rowP]
    by_cases h1 : 200 < (acc ++ s).size
    · rw [if_pos h1]; simp only [ByteArray.size_extract]; omega
    · rw [if_neg h1]
      cases b
      · simpa using h1
      · rw [if_pos rfl]; exact rowP_size t _ (by omega)
theorem altG_size : ∀ (l : List Pre) (p : Pre), p.1.size ≤ 200 → (altG p l).1.size ≤ 200
  | [], p, h => h
  | q :: t, p, h => by rw [altG]; exact altG_size t _ (by simp only [ByteArray.size_extract]; omega)
theorem putI_short (r : Int) : (putI r).length ≤ 4 := by
  unfold putI
  repeat' split
  all_goals simp
theorem strN_size (l : List Int) : (strOfNums l).size = l.length := by
  show (strOfNums l).data.size = _
  rw [← Array.length_toList, strOfNums_data, List.length_map]
theorem charP_size (s : List (Int × Int)) : (charP s).1.size ≤ 200 := by
  unfold charP
  split
  · rename_i a b
    split
    · show (strOfNums (putI a)).size ≤ 200
      rw [strN_size]
      have := putI_short a
      omega
    · simp
  · simp
theorem prefs_size : ∀ T : Wood, ∀ p ∈ prefs T, p.1.size ≤ 200
  | .nil, p, h => by simp [prefs] at h
  | .cons op s mn mx k x, p, h => by
    rw [prefs, List.mem_cons] at h
    rcases h with rfl | h
    · unfold nodeP
      split; · simp
      split; · exact charP_size s
      split; · exact rowP_size _ _ (by simp)
      split
      · have hk := prefs_size k
        match hp : prefs k with
        | [] => simp [altP]
        | q :: t => rw [altP]; exact altG_size _ _ (hk q (by rw [hp]; simp))
      split; · exact rowP_size _ _ (by simp)
      simp
    · exact prefs_size x p h
end Go.Proofs.Ytbhbdhjkicmecaa
/- set.Only; what one code point of a set begins with; how much is alike. -/
namespace Go.Proofs.Ytbhbdhjkicmecaa
open Go Go.RowKit
set_option linter.unusedVariables false
set_option maxRecDepth 20000

/-- One number of a canonical set. -/
def onlyV : List (Int × Int) → Int × Bool
  | [(a, b)] => if a = b then (a, true) else (0, false)
  | _ => (0, false)
set_option maxHeartbeats 4000000 in
theorem only_any (s : List (Int × Int)) (A : Option Addr) (n c : Nat) (W : World) (hin : RowG W A n s) (hc : Canon s) (hn : n ≤ 2000000) :
    Calls Try.prog 26 #[.slice A n c] W fun e w' => e = .returned (.tuple #[.int .i64 (onlyV s).1, .bool (onlyV s).2]) ∧ Below W.heap.size W w' := by
  have HO := Lib.hid ((of_any s A n c W hin hn).mono (R' := fun e w' => ∃ A' c', e = .returned (.slice A' s.length c') ∧ RowG w' A' s.length s ∧ Below W.heap.size W w') (by
    rintro e w' ⟨V, t, rfl, hO, hct, hh⟩
    obtain rfl := canon_one hct hc hh
    obtain ⟨A', c', rfl, hG, _⟩ := canon_out hO hct
    exact ⟨A', c', rfl, hG.row, hO.2⟩))
  clear hin
  obtain ⟨N, hN⟩ : ∃ N, N = s.length := ⟨_, rfl⟩
  rw [← hN] at HO
  by_cases h1 : N = 1
  · obtain ⟨⟨x, y⟩, rfl⟩ : ∃ p, s = [p] := by
      match s, hN with
      | [p], _ => exact ⟨p, rfl⟩
      | [], h => simp at h; omega
      | _ :: _ :: _, h => simp at h; omega
    subst h1
    have HV : Hid ((x = y → onlyV [(x, y)] = (x, true)) ∧ (¬ x = y → onlyV [(x, y)] = (0, false))) := Lib.hid ⟨fun h => by simp [onlyV, h], fun h => by simp [onlyV, h]⟩
    clear hN hc
    obtain ⟨v, hv⟩ : ∃ v, v = onlyV [(x, y)] := ⟨_, rfl⟩
    rw [← hv] at HV ⊢
    clear hv
    by_cases hxy : x = y
    · have e := HV.out.1 hxy
      subst e
      subst hxy
      go_enter Try.func26, Try.ntmps26
      go_wp2_with (go_at_call 42; (with_reducible refine HO.out.mono ?_); rintro e w1 ⟨A', c', rfl, hG, hb⟩; obtain ⟨b, o, rfl, hbl, hcl⟩ := hG.2 (by omega); obtain ⟨c0, c1⟩ := hcl 0 (by omega); simp only [Nat.zero_mul, Nat.add_zero, List.getD_cons_zero] at c0 c1; have HB := Lib.hid hb; clear hG hcl hb)
      go_quiet (fail)
      go_wp2
      go_ret2
      exact ⟨rfl, below_drewN HB.out _⟩
    · have e := HV.out.2 hxy
      subst e
      have hb1 : (x == y) = false := by simp [hxy]
      have hb2 : (x != y) = true := by simp [hxy]
      go_enter Try.func26, Try.ntmps26
      go_wp2_with (go_at_call 42; (with_reducible refine HO.out.mono ?_); rintro e w1 ⟨A', c', rfl, hG, hb⟩; obtain ⟨b, o, rfl, hbl, hcl⟩ := hG.2 (by omega); obtain ⟨c0, c1⟩ := hcl 0 (by omega); simp only [Nat.zero_mul, Nat.add_zero, List.getD_cons_zero] at c0 c1; have HB := Lib.hid hb; clear hG hcl hb)
      go_quiet (fail)
      go_wp2
      go_ret2
      exact ⟨rfl, below_drewN HB.out _⟩
  · have HV : Hid (onlyV s = (0, false)) := Lib.hid (by
      match s, hN with
      | [p], h => simp at h; omega
      | [], h => rfl
      | _ :: _ :: _, h => rfl)
    have hb1 : ((N : Int) == 1) = false := by simp; omega
    have hb2 : ((N : Int) != 1) = true := by simp; omega
    have hni : ¬ (N : Int) = 1 := by omega
    rw [HV.out]
    clear hN hc h1
    go_enter Try.func26, Try.ntmps26
    go_wp2_with (go_at_call 42; (with_reducible refine HO.out.mono ?_); rintro e w1 ⟨A', c', rfl, hG, hb⟩; have HB := Lib.hid hb; clear hG hb)
    go_quiet (fail)
    go_wp2
    go_ret2
    exact ⟨rfl, below_drewN HB.out _⟩
theorem char_is (s : List (Int × Int)) : charP s = if (onlyV s).2 = true ∧ isI (onlyV s).1 = true then (strOfNums (putI (onlyV s).1), true) else (ByteArray.empty, false) := by
  match s with
  | [] => rfl
  | [(a, b)] => by_cases h : a = b <;> by_cases h2 : isI a = true <;> simp [charP, onlyV, h, h2] <;> (try (subst h; simp [h2]))
  | _ :: _ :: _ => rfl
set_option maxHeartbeats 4000000 in
theorem pchar_any (s : List (Int × Int)) (A : Option Addr) (n c : Nat) (W : World) (hin : RowG W A n s) (hc : Canon s) (hn : n ≤ 2000000) :
    Calls Try.prog 13 #[.slice A n c] W fun e w' => e = .returned (.tuple #[.string (charP s).1, .bool (charP s).2]) ∧ Below W.heap.size W w' := by
  have HO := Lib.hid (only_any s A n c W hin hc hn)
  have hch := char_is s
  obtain ⟨⟨r, ok⟩, hv⟩ : ∃ v, v = onlyV s := ⟨_, rfl⟩
  rw [← hv] at HO hch
  dsimp only at HO hch
  clear hin hv
  rcases ok with _ | _
  · rw [if_neg (by simp)] at hch
    rw [hch]
    dsimp only
    clear hch
    go_enter Try.func13, Try.ntmps13
    go_wp2_with (go_at_call 26; (with_reducible refine HO.out.mono ?_); rintro e w1 ⟨rfl, hb⟩; have HB := Lib.hid hb; clear hb)
    go_ret2
    exact ⟨rfl, HB.out⟩
  · have HI := Lib.hid (fun w => is_any r w)
    rcases hi : isI r with _ | _
    · rw [hi] at hch HI
      rw [if_neg (by simp)] at hch
      rw [hch]
      dsimp only
      clear hch
      go_enter Try.func13, Try.ntmps13
      go_wp2_with (first
        | (go_at_call 26; (with_reducible refine HO.out.mono ?_); rintro e w1 ⟨rfl, hb⟩; have HB := Lib.hid hb; clear hb)
        | (go_at_call 27; (with_reducible refine (HI.out _).mono ?_); rintro e w1 ⟨rfl, rfl⟩))
      go_ret2
      exact ⟨rfl, HB.out⟩
    · rw [hi] at hch HI
      rw [if_pos (by simp)] at hch
      rw [hch]
      dsimp only
      have HP := Lib.hid (fun w => put_any r w)
      have hs : sndI r = r := by unfold sndI; rw [if_pos hi]
      unfold putN at HP
      rw [hs] at HP
      have HL := Lib.hid (putI_short r)
      obtain ⟨l, hl⟩ : ∃ l, l = putI r := ⟨_, rfl⟩
      rw [← hl] at HP HL ⊢
      obtain ⟨S, hS⟩ : ∃ S, S = strOfNums l := ⟨_, rfl⟩
      rw [← hS]
      have HS := Lib.hid hS
      clear hch hs hi hl hS
      go_enter Try.func13, Try.ntmps13
      go_wp2_with (first
        | (go_at_call 26; (with_reducible refine HO.out.mono ?_); rintro e w1 ⟨rfl, hb⟩; have HB := Lib.hid hb; clear hb)
        | (go_at_call 27; (with_reducible refine (HI.out _).mono ?_); rintro e w1 ⟨rfl, rfl⟩)
        | (go_at_call 28; (with_reducible refine (HP.out _).mono ?_); rintro e w2 ⟨rfl, hw2⟩; have s1 := strRow w2 (some ⟨w1.heap.size, 0, none⟩) l.length l.length l (by rw [hw2]; exact RowI.new .u8 w1 l 5); rw [← HS.out] at s1; have HB2 := Lib.hid (show Below W.heap.size W w2 by rw [hw2]; exact HB.out.alloc HB.out.size _); clear hw2))
      go_ret2
      exact ⟨rfl, HB2.out⟩
end Go.Proofs.Ytbhbdhjkicmecaa
