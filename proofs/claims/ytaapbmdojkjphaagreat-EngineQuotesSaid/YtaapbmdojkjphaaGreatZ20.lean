/- Texts. -/
import Derived.Test.YtaapbmdojkjphaaGreatZ07
import Derived.Test.YtaapbmdojkjphaaGreatZ09
import Derived.Test.YtaapbmdojkjphaaGreatZ11
import Derived.Test.YtaapbmdojkjphaaGreatZ12
import Derived.Test.YtaapbmdojkjphaaGreatZ15
import Derived.Test.YtaapbmdojkjphaaGreatZ16
import Derived.Test.YtaapbmdojkjphaaGreatZ18
import Derived.Test.YtaapbmdojkjphaaGreatZ19
import Derived.Laws.ResultCell
import Derived.BigQuiet
import Derived.ProofKit
namespace Go.Proofs.YtaapbmdojkjphaaGreat
open Go Go.RowKit
set_option linter.unusedVariables false
set_option maxRecDepth 20000
theorem info_hit : (Tryz.prog.info? 38).map (fun i => (i.zero, i.size, i.bytes)) = some (some (.agg #[.int .i64 0, .int .i64 0]), 2, 16) := by kernel_rfl
theorem nilP (w : World) (B : Nat) (e : TypeId) : w.ownsRow B e 2 (.slice none 0 0) 0 (cellsG []) := World.ownsRow_nil _ _ _ _
theorem ite01 (p : Prop) [Decidable p] : (if p then 0 else 1) ≤ 1 := by split <;> omega
theorem less01 {A B x : Nat} {p : Prop} [Decidable p] (h : A + 1 < B) : (A + if p then 0 else 1) < B + x := Nat.lt_of_le_of_lt (Nat.add_le_add_left (ite01 p) _) (Nat.lt_of_lt_of_le h (Nat.le_add_right _ _))
theorem less10 {A B : Nat} {p q : Prop} [Decidable p] [Decidable q] (hp : p) (hq : ¬ q) (h : A ≤ B) : (A + if p then 0 else 1) < (B + if q then 0 else 1) := by rw [if_pos hp, if_neg hq]; omega
set_option maxHeartbeats 4000000 in
theorem all_match {F : Nat → Prop} (A : Option Addr) (n c : Nat) (l : List IV) (T : ByteArray) (w : World) (hi0 : InsF F w A n l) (hr : rightB n l = true) (hn : n ≤ 1000) (hT : T.size ≤ 1000) :
    Calls Tryz.prog 26 #[.slice A n c, .string T] w fun e w' => ∃ P q pc hs, e = .returned (.slice P q pc) ∧ AllR (l.map fun v => v.i) (rsT (nums T)) 0 none hs ∧ w'.ownsRow w.heap.size 38 2 (.slice P q pc) q (cellsG (hs.map (hitI (nums T)))) ∧ Below w.heap.size w w' := by
  have hnl := nums_length T
  have HR := Lib.hid (right_any A n c l w hi0.insAt (by omega))
  rw [hr] at HR
  have HE := Lib.hid fun w2 (hb : Below w.heap.size w w2) => ends_any A n c l T w2 ((hi0.mono (F' := fun b => b < w.heap.size) fun b _ h => h).belowB hb) hr hn hT
  have HN := Lib.hid hnl
  clear hi0 hr hnl
  go_enter Tryz.func26, Tryz.ntmps26
  go_wp2_with (first
    | (go_at_call 48; (with_reducible refine HR.out.mono ?_); rintro e w2 ⟨rfl, hb⟩; have HB := Lib.hid hb; have HE2 := Lib.hid (HE.out w2 hb); clear hb)
    | (go_at_call 51; (with_reducible refine HE2.out.mono ?_); rintro e w3 ⟨ra, xs, rfl, hxl, hra, hrow, hx, hb⟩; have HX := Lib.hid (And.intro hxl (And.intro hrow (And.intro hx (And.intro (HB.out.trans (hb.mono HB.out.size)) hra)))); clear hxl hra hrow hx hb))
  go_loopw [5, 7, 8] (fun v5 v7 v8 wr => ∃ (P : Option Addr) (q pc at_ : Nat) (behind : Int), v5 = .slice P q pc ∧ v7 = .int .i64 behind ∧ v8 = .int .i64 (at_ : Int) ∧ at_ ≤ T.size + 1 ∧ Hid (∃ hs k b, AInv (l.map fun v => v.i) (nums T) at_ behind hs k b ∧ hs.length = q ∧ (q ≤ 2 * at_ + 1 ∧ (behind ≠ (at_ : Int) → q ≤ 2 * at_)) ∧ wr.ownsRow w.heap.size 38 2 (.slice P q pc) q (cellsG (hs.map (hitI (nums T)))) ∧ Below w.heap.size w wr ∧ wr.heap[ra]? = some (.cells (xs.map (Value.int .i64)).toArray 3 (0, 0)))) (fun _ v7 v8 _ => 2 * (T.size + 1 - (intOf v8).toNat) + (if intOf v7 = intOf v8 then 0 else 1))
  case atStart =>
    exact ⟨none, 0, 0, 0, -1, rfl, rfl, rfl, Nat.zero_le _, Lib.hid ⟨[], 0, none, AInv.begin, rfl, ⟨by omega, fun _ => by omega⟩, nilP _ _ _, HX.out.2.2.2.1, HX.out.2.1⟩⟩
  case round =>
    obtain ⟨P, q, pc, at_, behind, rfl, rfl, rfl, hat, H⟩ := hrel
    have hT1 : (T.size : Int) ≤ 1000 := by omega
    by_cases hle : at_ ≤ T.size
    · obtain ⟨tv, hto⟩ : ∃ tv, xs[at_]? = some tv := ⟨_, List.getElem?_eq_getElem (by rw [HX.out.1]; omega)⟩
      have hxa := HX.out.2.2.1 at_ hle
      have cE : wr.cell? ⟨ra, at_, none⟩ = some (.int .i64 tv) := by
        obtain ⟨_, _, _, _, _, _, _, _, hrow⟩ := H.out
        rw [cell_of_row wr ra at_ _ _ (0, 0) hrow]
        simp [hto]
      have HTO := Lib.hid (And.intro hto hxa)
      clear hto hxa
      have h1 : (at_ : Int) ≤ (T.size : Int) := by omega
      have h2 : (0 : Int) ≤ (at_ : Int) := by omega
      have h3 : (at_ : Int) < (T.size : Int) + 1 := by omega
      have hskip : (tv = -1 ∨ tv = (at_ : Int) ∧ (at_ : Int) = behind) → ∃ (P' : Option Addr) (q' pc' at' : Nat) (behind' : Int), (Value.slice P q pc = .slice P' q' pc' ∧ Value.int .i64 behind = .int .i64 behind' ∧ Value.int .i64 ((at_ : Int) + 1) = .int .i64 (at' : Int) ∧ at' ≤ T.size + 1 ∧ Hid (∃ hs k b, AInv (l.map fun v => v.i) (nums T) at' behind' hs k b ∧ hs.length = q' ∧ (q' ≤ 2 * at' + 1 ∧ (behind' ≠ (at' : Int) → q' ≤ 2 * at')) ∧ wr.ownsRow w.heap.size 38 2 (.slice P' q' pc') q' (cellsG (hs.map (hitI (nums T)))) ∧ Below w.heap.size w wr ∧ wr.heap[ra]? = some (.cells (xs.map (Value.int .i64)).toArray 3 (0, 0)))) := by
        intro hc
        obtain ⟨hs, k, b, hA, hl, hq, ho, hb, hrow⟩ := H.out
        obtain ⟨k', hA'⟩ := hA.skip (by have := HN.out; omega) HTO.out.1 HTO.out.2 hc
        exact ⟨P, q, pc, at_ + 1, behind, rfl, rfl, rfl, by omega, Lib.hid ⟨hs, k', b, hA', hl, ⟨by omega, fun _ => by omega⟩, ho, hb, hrow⟩⟩
      have HSK := Lib.hid hskip
      clear hskip
      by_cases hn1 : tv = -1
      · subst hn1
        go_wp2
        refine ⟨HSK.out (.inl rfl), by simp only [intOf]; exact less01 (by omega)⟩
      · by_cases hn2 : tv = (at_ : Int)
        · by_cases hn3 : (at_ : Int) = behind
          · have HC := Lib.hid (And.intro hn2 hn3)
            subst hn2
            subst hn3
            go_wp2
            refine ⟨HSK.out (.inr HC.out), by simp only [intOf]; exact less01 (by omega)⟩
          · subst hn2
            have hd4 : ((at_ : Int) == behind) = false := beq_eq_false_iff_ne.2 hn3
            have hd5 : decide ((at_ : Int) = behind) = false := decide_eq_false hn3
            have hn4 : ¬ ((at_ : Int) = (at_ : Int) ∧ (at_ : Int) = behind) := fun h => hn3 h.2
            have HC := Lib.hid (And.intro hn1 (And.intro hn4 hn3))
            obtain ⟨hs, k, b, hA, hl, hq, ho, hb, hrow⟩ := H.out
            obtain ⟨e, z, hz1, hz2, hz3, hz4, hA'⟩ := hA.take (by have := HN.out; omega) HTO.out.1 HTO.out.2 hn1 hn4
            have hbs := hb.size
            obtain ⟨P', pc', w4, happ, ho4, hb4, hk4⟩ := pushP 35 38 Tryz.underlying35 info_hit (w := wr.alloc (.cells #[.int .i64 (at_ : Int), .int .i64 (at_ : Int)] 38)) (B := w.heap.size) (row_keep ho fun i hi _ => Below.heap_alloc wr _ i hi) [((at_ : Int), (at_ : Int))] (d := wr.heap.size) (hp_new rfl) (by omega) (by simp) (by simp; omega)
            have hrow4 : w4.heap[ra]? = some (.cells (xs.map (Value.int .i64)).toArray 3 (0, 0)) := by
              have hral : ra < wr.heap.size := (Array.getElem?_eq_some_iff.1 hrow).1
              rw [hk4 ra (by simp; omega) (fun ev => row_ne_blk ho hrow (by decide) ev)]
              exact (Below.heap_alloc wr _ ra hral).trans hrow
            have hb5 : Below w.heap.size w w4 := (hb.alloc hb.size _).trans hb4
            have HAPP := Lib.hid happ
            have HNX := Lib.hid (And.intro hz1 (And.intro hz2 (And.intro hz3 (And.intro hz4 (And.intro hA' (And.intro ho4 (And.intro hb5 (And.intro hrow4 (And.intro hl hq)))))))))
            clear happ ho4 hb4 hk4 hrow4 hb5 hbs hA hl hq ho hb hrow hA' hz1 hz2 hz3 hz4 hn4
            go_wp2_with (at_builtin; refine wpList_append_run rfl (.tmp 38) (.tmp 42) 35 rfl rfl _ _ _ _ rfl rfl HAPP.out ?_)
            obtain ⟨hz1, hz2, hz3, hz4, hA', ho4, hb5, hrow4, hl, hq⟩ := HNX.out
            have hc := HC.out
            have hnl := HN.out
            refine ⟨⟨P', q + 1, pc', z, (at_ : Int), rfl, rfl, by rw [hz1], by omega, Lib.hid ⟨hs ++ [(k, e)], e, some e, hA', by simp [hl], ⟨?_, ?_⟩, ?_, hb5, hrow4⟩⟩, ?_⟩
            · by_cases hze : z = at_
              · have := hq.2 (fun h => hc.2.1 ⟨by omega, h.symm⟩); omega
              · omega
            · intro h; exact absurd hz1 h
            · rw [List.map_append, List.map_singleton, ← hz4, ← hz1]; exact ho4
            · simp only [intOf]
              by_cases hze : z = at_
              · exact less10 trivial (fun h => hc.2.1 ⟨by omega, h.symm⟩) (by omega)
              · exact less01 (by omega)
        · have hn4 : ¬ (tv = (at_ : Int) ∧ (at_ : Int) = behind) := fun h => hn2 h.1
          have HC := Lib.hid (And.intro hn1 (And.intro hn4 hn2))
          obtain ⟨hs, k, b, hA, hl, hq, ho, hb, hrow⟩ := H.out
          obtain ⟨e, z, hz1, hz2, hz3, hz4, hA'⟩ := hA.take (by have := HN.out; omega) HTO.out.1 HTO.out.2 hn1 hn4
          have hbs := hb.size
          obtain ⟨P', pc', w4, happ, ho4, hb4, hk4⟩ := pushP 35 38 Tryz.underlying35 info_hit (w := wr.alloc (.cells #[.int .i64 (at_ : Int), .int .i64 tv] 38)) (B := w.heap.size) (row_keep ho fun i hi _ => Below.heap_alloc wr _ i hi) [((at_ : Int), tv)] (d := wr.heap.size) (hp_new rfl) (by omega) (by simp) (by simp; omega)
          have hrow4 : w4.heap[ra]? = some (.cells (xs.map (Value.int .i64)).toArray 3 (0, 0)) := by
            have hral : ra < wr.heap.size := (Array.getElem?_eq_some_iff.1 hrow).1
            rw [hk4 ra (by simp; omega) (fun ev => row_ne_blk ho hrow (by decide) ev)]
            exact (Below.heap_alloc wr _ ra hral).trans hrow
          have hb5 : Below w.heap.size w w4 := (hb.alloc hb.size _).trans hb4
          have HAPP := Lib.hid happ
          have HNX := Lib.hid (And.intro hz1 (And.intro hz2 (And.intro hz3 (And.intro hz4 (And.intro hA' (And.intro ho4 (And.intro hb5 (And.intro hrow4 (And.intro hl hq)))))))))
          clear happ ho4 hb4 hk4 hrow4 hb5 hbs hA hl hq ho hb hrow hA' hz1 hz2 hz3 hz4 hn4
          go_wp2_with (at_builtin; refine wpList_append_run rfl (.tmp 38) (.tmp 42) 35 rfl rfl _ _ _ _ rfl rfl HAPP.out ?_)
          obtain ⟨hz1, hz2, hz3, hz4, hA', ho4, hb5, hrow4, hl, hq⟩ := HNX.out
          have hc := HC.out
          have hnl := HN.out
          refine ⟨⟨P', q + 1, pc', z, tv, rfl, rfl, by rw [hz1], by omega, Lib.hid ⟨hs ++ [(k, e)], e, some e, hA', by simp [hl], ⟨?_, ?_⟩, ?_, hb5, hrow4⟩⟩, ?_⟩
          · by_cases hze : z = at_
            · have := hq.2 (fun h => hc.2.1 ⟨by omega, h.symm⟩); omega
            · omega
          · intro h; exact absurd hz1 h
          · rw [List.map_append, List.map_singleton, ← hz4, ← hz1]; exact ho4
          · simp only [intOf]
            by_cases hze : z = at_
            · exact less10 trivial (fun h => hc.2.1 ⟨by omega, h.symm⟩) (by omega)
            · exact less01 (by omega)
    · have h1 : ¬ (at_ : Int) ≤ (T.size : Int) := by omega
      go_wp2
      go_ret
      obtain ⟨hs, k, b, hA, hl, hq, ho, hb, hrow⟩ := H.out
      exact ⟨P, q, pc, rfl, hs, hA.over (by have := HN.out; omega), ho, hb⟩
end Go.Proofs.YtaapbmdojkjphaaGreat
namespace Go.Proofs.YtaapbmdojkjphaaGreat
open Go Go.RowKit
set_option linter.unusedVariables false
set_option maxRecDepth 20000
def RowH (w : World) (A : Option Addr) (n : Nat) (xs : List (Int × Int)) : Prop :=
  xs.length = n ∧ (0 < n → ∃ b, A = some ⟨b, 0, none⟩ ∧ b < w.heap.size ∧ ∀ j x, xs[j]? = some x → w.cell? ⟨b, j * 2, none⟩ = some (.int .i64 x.1) ∧ w.cell? ⟨b, j * 2 + 1, none⟩ = some (.int .i64 x.2))
theorem rowH_own {w : World} {B : Nat} {A : Option Addr} {n c : Nat} {xs : List (Int × Int)} (h : w.ownsRow B 38 2 (.slice A n c) n (cellsG xs)) : RowH w A n xs := by
  refine ⟨pairs_len h, fun hn => ?_⟩
  obtain ⟨x, hx⟩ : ∃ x, xs[0]? = some x := ⟨_, List.getElem?_eq_getElem (by rw [pairs_len h]; exact hn)⟩
  obtain ⟨b, hb, _, _, hlt, _, _⟩ := pair_at h hx
  refine ⟨b, hb, hlt, fun j y hy => ?_⟩
  obtain ⟨b', hb', _, _, _, h1, h2⟩ := pair_at h hy
  rw [hb] at hb'
  injection hb' with e
  injection e with e _
  subst e
  exact ⟨h1, h2⟩
theorem RowH.below {w w' : World} {A : Option Addr} {n : Nat} {xs : List (Int × Int)} (h : RowH w A n xs) (hb : Below w.heap.size w w') : RowH w' A n xs := by
  refine ⟨h.1, fun hn => ?_⟩
  obtain ⟨b, hA, hlt, hc⟩ := h.2 hn
  exact ⟨b, hA, Nat.lt_of_lt_of_le hlt hb.size, fun j x hx => ⟨(hb.cell (p := ⟨b, j * 2, none⟩) hlt).trans (hc j x hx).1, (hb.cell (p := ⟨b, j * 2 + 1, none⟩) hlt).trans (hc j x hx).2⟩⟩
theorem rowH_made {w : World} {b n : Nat} {xs : List (Int × Int)} (hl : xs.length = n) (h : w.heap[b]? = some (.cells (cellsG xs).toArray 38 (0, 0))) : RowH w (some ⟨b, 0, none⟩) n xs := by
  refine ⟨hl, fun hn => ⟨b, rfl, (Array.getElem?_eq_some_iff.1 h).1, fun j x hx => ?_⟩⟩
  obtain ⟨e0, e1⟩ := cellsG_get xs hx
  constructor
  · rw [cell_of_row w b _ _ _ (0, 0) h, ← e0]; simp
  · rw [cell_of_row w b _ _ _ (0, 0) h, ← e1]; simp
theorem hit_cells : Tryz.prog.cellsOf 38 = 2 := by kernel_rfl
set_option maxHeartbeats 2000000 in
theorem hsame_any (xs : List (Int × Int)) (A D : Option Addr) (n c d : Nat) (W : World) (ha : RowH W A n xs) (hb : RowH W D n xs) (hn : n ≤ 1000000) :
    Calls Tryz.prog 11 #[.slice A n c, .slice D n d] W fun e w' => e = .returned (.bool true) ∧ ∃ q, w' = W.drewN q := by
  have HA := Lib.hid ha; clear ha
  have HB := Lib.hid hb; clear hb
  go_enter Tryz.func11, Tryz.ntmps11
  go_wp2
  go_loopw [5] (fun i wr => ∃ k q : Nat, k ≤ n ∧ i = .int .i64 k ∧ wr = W.drewN q) (fun i _ => n - (intOf i).toNat)
  case atStart => exact ⟨0, 0, Nat.zero_le _, rfl, rfl⟩
  case round =>
    obtain ⟨k, q, hk, rfl, rfl⟩ := hrel
    by_cases hlt : k < n
    · obtain ⟨b, rfl, _, hc⟩ := HA.out.2 (by omega)
      obtain ⟨b', rfl, _, hc'⟩ := HB.out.2 (by omega)
      obtain ⟨x, hx⟩ : ∃ x, xs[k]? = some x := ⟨_, List.getElem?_eq_getElem (by rw [HA.out.1]; exact hlt)⟩
      obtain ⟨c0, c1⟩ := hc k x hx
      obtain ⟨e0, e1⟩ := hc' k x hx
      clear hc hc' hx
      have hcl := hit_cells
      go_wp2
      go_quiet (fail)
      go_wp2
      refine ⟨⟨k + 1, q + nq, by omega, by go_num, rfl⟩, by simp [intOf]; omega⟩
    · go_wp2
      go_ret
      exact ⟨rfl, _, rfl⟩
end Go.Proofs.YtaapbmdojkjphaaGreat
namespace Go.Proofs.YtaapbmdojkjphaaGreat
set_option linter.unusedVariables false
def succL (p : List InstL) (rs : List Int) (i k : Nat) : List (Nat × Nat) :=
  match p[i]? with
  | none => []
  | some v => if v.op = 1 then (match rs[k]? with | some r => if hasL v.set r = true then [(v.x.toNat, k + 1)] else [] | none => [])
    else if openA rs.length k v.op = true then (outs v).map (fun j => (j, k)) else []
theorem openA_one {m k : Nat} : openA m k 1 = false := by simp [openA]
theorem mem_succL {p : List InstL} {rs : List Int} {i k j k' : Nat} : (j, k') ∈ succL p rs i k ↔ (EdgeE p rs.length k i j ∧ k' = k) ∨ (∃ r, rs[k]? = some r ∧ EdgeC p r i j ∧ k' = k + 1) := by
  unfold succL
  constructor
  · intro h
    cases hv : p[i]? with
    | none => rw [hv] at h; simp at h
    | some v =>
      rw [hv] at h
      simp only at h
      by_cases h1 : v.op = 1
      · rw [if_pos h1] at h
        cases hr : rs[k]? with
        | none => rw [hr] at h; simp at h
        | some r =>
          rw [hr] at h
          simp only at h
          by_cases h2 : hasL v.set r = true
          · rw [if_pos h2] at h
            simp at h
            exact .inr ⟨r, rfl, ⟨v, hv, by unfold outs; rw [if_neg (by omega), if_neg (by omega)]; simp [h.1], h1, h2⟩, h.2⟩
          · rw [if_neg h2] at h; simp at h
      · rw [if_neg h1] at h
        by_cases h2 : openA rs.length k v.op = true
        · rw [if_pos h2] at h
          obtain ⟨j', hj, e⟩ := List.mem_map.1 h
          injection e with e1 e2
          subst e1; subst e2
          exact .inl ⟨⟨v, hv, hj, h2⟩, rfl⟩
        · rw [if_neg h2] at h; simp at h
  · rintro (⟨⟨v, hv, hj, ho⟩, rfl⟩ | ⟨r, hr, ⟨v, hv, hj, h1, h2⟩, rfl⟩)
    · rw [hv]
      simp only
      rw [if_neg (fun e => by rw [e, openA_one] at ho; cases ho), if_pos ho]
      exact List.mem_map.2 ⟨j, hj, rfl⟩
    · rw [hv]
      simp only
      rw [if_pos h1, hr]
      simp only
      rw [if_pos h2]
      unfold outs at hj
      rw [if_neg (by omega), if_neg (by omega)] at hj
      simp at hj
      simp [hj]
end Go.Proofs.YtaapbmdojkjphaaGreat
namespace Go.Proofs.YtaapbmdojkjphaaGreat
open Go Go.RowKit
set_option linter.unusedVariables false
set_option maxRecDepth 20000
def reachN (p : List InstL) (rs : List Int) : Nat → List (Nat × Nat) → List (Nat × Nat)
  | 0, S => S
  | n + 1, S => reachN p rs n (S ++ (S.flatMap fun x => succL p rs x.1 x.2).filter fun y => !S.contains y)
theorem rch_succ {p : List InstL} {rs : List Int} {a i k j k' : Nat} (h : Rch p rs 0 a i k) (hs : (j, k') ∈ succL p rs i k) : Rch p rs 0 a j k' := by
  rcases mem_succL.1 hs with ⟨h1, rfl⟩ | ⟨r, h1, h2, rfl⟩
  · exact .eps h h1
  · exact .chr h h1 h2
theorem reachN_sound {p : List InstL} {rs : List Int} {a : Nat} : ∀ (n : Nat) (S : List (Nat × Nat)), (∀ x ∈ S, Rch p rs 0 a x.1 x.2) → ∀ x ∈ reachN p rs n S, Rch p rs 0 a x.1 x.2
  | 0, S, h, x, hx => h x hx
  | n + 1, S, h, x, hx => by
    refine reachN_sound n _ (fun y hy => ?_) x hx
    rcases List.mem_append.1 hy with hy | hy
    · exact h y hy
    · obtain ⟨z, hz, hyz⟩ := List.mem_flatMap.1 (List.mem_filter.1 hy).1
      exact rch_succ (h z hz) hyz
theorem closed_all {p : List InstL} {rs : List Int} {a : Nat} {S : List (Nat × Nat)} (h0 : (0, a) ∈ S) (hc : ∀ x ∈ S, ∀ y ∈ succL p rs x.1 x.2, y ∈ S) {j b : Nat} (h : Rch p rs 0 a j b) : (j, b) ∈ S := by
  induction h with
  | refl => exact h0
  | eps _ e ih => exact hc _ ih _ (mem_succL.2 (.inl ⟨e, rfl⟩))
  | chr _ hr e ih => exact hc _ ih _ (mem_succL.2 (.inr ⟨_, hr, e, rfl⟩))
def endsB (p : List InstL) (i : Nat) : Bool := match p[i]? with | some v => v.op == 0 | none => false
theorem endsB_iff {p : List InstL} {i : Nat} : endsB p i = true ↔ IsEnd p i := by
  unfold endsB IsEnd
  cases h : p[i]? with
  | none => simp
  | some v => simp
def longB (p : List InstL) (rs : List Int) (n a : Nat) (o : Option Nat) : Bool :=
  let S := reachN p rs n [(0, a)]
  S.all (fun x => (succL p rs x.1 x.2).all fun y => S.contains y) && S.contains (0, a) && match o with
    | none => S.all fun x => !endsB p x.1
    | some e => (S.any fun x => endsB p x.1 && x.2 == e) && S.all fun x => !endsB p x.1 || decide (x.2 ≤ e)
theorem longB_long {p : List InstL} {rs : List Int} {n a : Nat} {o : Option Nat} (h : longB p rs n a o = true) : Long p rs a o := by
  unfold longB at h
  simp only [Bool.and_eq_true] at h
  obtain ⟨⟨hc, h0⟩, ho⟩ := h
  have h0 : (0, a) ∈ reachN p rs n [(0, a)] := by simpa using h0
  have hcl : ∀ {j b}, Rch p rs 0 a j b → (j, b) ∈ reachN p rs n [(0, a)] := closed_all h0 fun x hx y hy => by
    have := List.all_eq_true.1 (List.all_eq_true.1 hc x hx) y hy
    simpa using this
  have hsd := reachN_sound (p := p) (rs := rs) (a := a) n [(0, a)] fun x hx => by
    rw [List.mem_singleton] at hx; subst hx; exact .refl
  cases o with
  | none =>
    rintro b ⟨i, hi, he⟩
    have := List.all_eq_true.1 ho _ (hcl hi)
    rw [endsB_iff.2 he] at this
    cases this
  | some e =>
    simp only [Bool.and_eq_true] at ho
    obtain ⟨⟨i, k⟩, hx, hk⟩ := List.any_eq_true.1 ho.1
    simp only [Bool.and_eq_true, beq_iff_eq] at hk
    obtain ⟨hk, rfl⟩ := hk
    refine ⟨⟨i, hsd _ hx, endsB_iff.1 hk⟩, ?_⟩
    rintro b ⟨i', hi, he⟩
    have := List.all_eq_true.1 ho.2 _ (hcl hi)
    rw [endsB_iff.2 he] at this
    simpa using this
end Go.Proofs.YtaapbmdojkjphaaGreat
namespace Go.Proofs.YtaapbmdojkjphaaGreat
open Go Go.RowKit
set_option linter.unusedVariables false
set_option maxRecDepth 20000
def plusT : Wood := .cons 6 [] 1 (-1) (leaf 1 [(98, 98)]) .nil
theorem plus_parse : parseT ⟨#[98, 43]⟩ = some plusT := by kernel_rfl
theorem plus_tok : TreeOk plusT := ⟨.inr (.inr (.inr (.inr (.inr (.inr rfl))))), by decide, ⟨.inr (.inl rfl), by decide, trivial, trivial⟩, trivial⟩
theorem plus_len : LenOk plusT := ⟨by decide, fun h => by decide, fun h => ⟨by decide, by decide, .inl rfl⟩, ⟨by decide, fun h => absurd h (by decide), fun h => absurd h (by decide), trivial, trivial⟩, trivial⟩
theorem plus_cnt : cntW plusT = 4 := by decide
def plusP : List InstL := [⟨1, [(98, 98)], 1, 0⟩, ⟨2, [], 2, 4⟩, ⟨1, [(98, 98)], 3, 0⟩, ⟨2, [], 2, 4⟩, ⟨0, [], 0, 0⟩]
theorem plus_code : starCode (rowCode (fun _ => charF [(98, 98)]) 1) 1 0 ++ [⟨0, [], 0, 0⟩] = plusP := by kernel_rfl
theorem plus_tree {B g : Nat} {w0 : World} (hBw : B ≤ w0.heap.size) {x : NV} (h : NodesIn (fun b => b < B) w0 [x] plusT) : TreeX B g w0 x.val (starCode (rowCode (fun _ => charF [(98, 98)]) 1) 1) := by
  obtain ⟨op, s', mn', mx', k, A, D, ns, cs, nk, ck, e, hx, hr, hk⟩ := h.one
  rw [hx]
  unfold plusT at e
  injection e with e1 e2 e3 e4 e5 _
  subst e1; subst e2; subst e3; subst e4; subst e5
  have hnk : nk = 1 := hk.1.symm
  subst hnk
  have hrow : RowX B g w0 (.slice D 1 ck) (rowCode (fun _ => charF [(98, 98)]) 1) := row_addsX hk (by omega) hBw (fun _ => charF [(98, 98)]) fun j hj v hv => by
    obtain rfl : j = 0 := by omega
    exact kid_charX hBw (by decide) hv
  have hfl : ∀ q, (rowCode (fun _ => charF [(98, 98)]) 1 q).length = 1 := fun q => rfl
  refine tree_repX hBw fun w P q pc xs hb h hq => ?_
  exact often_starX h (op := 6) (c := 1) 1 (by omega) _ hfl (by omega) (by simp [starCode, rowCode, loopCode, charF] at hq; omega) fun w1 P1 q1 pc1 xs1 hb1 h1 hq1 => hrow w1 P1 q1 pc1 xs1 (hb.trans hb1) h1 hq1
theorem plus_compile {F : Nat → Prop} {w1 : World} {x : NV} (h : NodesIn F w1 [x] plusT) : ∀ w, Below w1.heap.size w1 w → Calls Tryz.prog 20 #[.agg #[.int .i64 x.op, .slice x.A x.ns x.cs, .int .i64 x.mn, .int .i64 x.mx, .slice x.D x.nk x.ck]] w fun e w' => ∃ P pc l, e = .returned (.tuple #[.slice P 5 pc, .int .i64 0]) ∧ InsF (fun b => w.heap.size ≤ b) w' P 5 l ∧ codes l = plusP ∧ Below w.heap.size w w' := fun w hb => by
  have h2 : NodesIn (fun b => b < w.heap.size) w [x] plusT := h.move hb.size fun b _ hlt => ⟨Nat.lt_of_lt_of_le hlt hb.size, hb.block b hlt⟩
  have hL := len_anyP _ _ (Nat.le_refl _) _ h2.one plus_tok plus_len
  rw [plus_cnt, show min 4 bigN = 4 from by decide] at hL
  have := compile_X (c := 4) (f := starCode (rowCode (fun _ => charF [(98, 98)]) 1) 1) rfl (by omega) (by decide) hL fun g => plus_tree (Nat.le_refl _) h2
  rw [plus_code] at this
  exact this
theorem plus_all : AllR plusP [97, 98, 98, 97] 0 none [(1, 3)] := by
  have l0 : Long plusP [97, 98, 98, 97] 0 none := longB_long (n := 20) (by kernel_rfl)
  have l1 : Long plusP [97, 98, 98, 97] 1 (some 3) := longB_long (n := 20) (by kernel_rfl)
  have l3 : Long plusP [97, 98, 98, 97] 3 none := longB_long (n := 20) (by kernel_rfl)
  have l4 : Long plusP [97, 98, 98, 97] 4 none := longB_long (n := 20) (by kernel_rfl)
  exact .skip (by decide) (.inl l0) (.take (by decide) l1 (by decide) (.skip (by decide) (.inl l3) (.skip (by decide) (.inl l4) (.stop (by decide)))))
end Go.Proofs.YtaapbmdojkjphaaGreat
namespace Go.Proofs.YtaapbmdojkjphaaGreat
open Go Go.RowKit
set_option linter.unusedVariables false
set_option maxRecDepth 20000
theorem rightB_code (n : Nat) (l : List IV) : rightB n l = ((codes l).all (okB n) && decide (0 < n)) := by
  unfold rightB codes
  rw [List.all_map]
  rfl
theorem right_plain {rs : List Int} {l : List IV} (h : codes l = plainP rs) : rightB (rs.length + 1) l = true := by
  rw [rightB_code, h, Bool.and_eq_true, List.all_eq_true, decide_eq_true_eq]
  refine ⟨fun v hv => ?_, by omega⟩
  obtain ⟨i, hi⟩ := List.getElem?_of_mem hv
  rcases plainP_at hi with ⟨c, hc, rfl⟩ | ⟨_, rfl⟩
  · have h1 := (List.getElem?_eq_some_iff.1 hc).1
    have e : inB (rs.length + 1) ((i : Int) + 1) = true := by
      unfold inB
      rw [Bool.and_eq_true, decide_eq_true_eq, decide_eq_true_eq]
      omega
    unfold okB
    rw [if_neg (show ¬ ((1 : Int) = 0) by decide), if_neg (show ¬ ((1 : Int) = 2) by decide), if_pos (.inl rfl)]
    exact e
  · rfl
theorem hit_all {rs : List Int} {T : List Int} (hP : Points rs) (hT : T = putAll rs) : hitI T (0, rs.length) = (0, (T.length : Int)) := by
  have h0 := at_points hP (k := 0) (Nat.zero_le _)
  have h1 := at_points hP (k := rs.length) (Nat.le_refl _)
  rw [← hT] at h0 h1
  unfold hitI atF
  rw [List.getD, List.getD, h0, h1, List.take_length, ← hT]
  rfl
theorem all_quote {F : Nat → Prop} {P : Option Addr} {pc : Nat} {l : List IV} {rs os : List Int} {t : ByteArray} {w : World} (hi : InsF F w P (rs.length + 1) l) (hc : codes l = plainP rs) (hrl : rs.length ≤ 200) (hos : Points os) (ht : nums t = putAll os) (hts : t.size ≤ 1000) :
    Calls Tryz.prog 26 #[.slice P (rs.length + 1) pc, .string t] w fun e w' => ∃ Q qc hs, e = .returned (.slice Q hs.length qc) ∧ AllR (plainP rs) os 0 none hs ∧ RowH w' Q hs.length (hs.map (hitI (nums t))) ∧ Below w.heap.size w w' := by
  refine (all_match P (rs.length + 1) pc l t w hi (right_plain hc) (by omega) hts).mono ?_
  rintro e w' ⟨Q, q, qc, hs, rfl, hA, ho, hb⟩
  have e1 : (l.map fun v => v.i) = plainP rs := hc
  rw [e1, ht, rs_points hos] at hA
  have hR := rowH_own ho
  have hq : q = hs.length := by have := hR.1; rw [List.length_map] at this; exact this.symm
  subst hq
  exact ⟨Q, qc, hs, rfl, hA, hR, hb⟩
theorem comp_quote {F : Nat → Prop} {w1 : World} {x : NV} {q : ByteArray} {rs : List Int} (hP : Points rs) (h0 : rs ≠ []) (hrl : rs.length ≤ 200) (hq : nums q = putAll (quoteL rs)) (hqs : q.size ≤ 200) (hN : NodesIn F w1 [x] (finN .nil (leafs rs))) : ∀ w2, Below w1.heap.size w1 w2 →
    Calls Tryz.prog 20 #[.agg #[.int .i64 x.op, .slice x.A x.ns x.cs, .int .i64 x.mn, .int .i64 x.mx, .slice x.D x.nk x.ck]] w2 fun e w' => ∃ P pc l, e = .returned (.tuple #[.slice P (rs.length + 1) pc, .int .i64 0]) ∧ InsF (fun b => w2.heap.size ≤ b) w' P (rs.length + 1) l ∧ codes l = plainP rs ∧ Below w2.heap.size w2 w' := by
  obtain ⟨ho, hl, _⟩ := parseT_q hqs (parse_quote hP hq)
  exact plain_compile h0 hrl hN ho hl
theorem all_plus {F : Nat → Prop} {P : Option Addr} {pc : Nat} {l : List IV} {w : World} (hi : InsF F w P 5 l) (hc : codes l = plusP) : Calls Tryz.prog 26 #[.slice P 5 pc, .string ⟨#[97, 98, 98, 97]⟩] w fun e w' => ∃ Q qc, e = .returned (.slice Q 1 qc) ∧ RowH w' Q 1 [(1, 3)] ∧ Below w.heap.size w w' := by
  refine (all_match P 5 pc l ⟨#[97, 98, 98, 97]⟩ w hi (by rw [rightB_code, hc]; rfl) (by decide) (by decide)).mono ?_
  rintro e w' ⟨Q, q, qc, hs, rfl, hA, ho, hb⟩
  have e1 : (l.map fun v => v.i) = plusP := hc
  have hpt : Points [97, 98, 98, 97] := by intro c hc; simp only [List.mem_cons, List.not_mem_nil, or_false] at hc; rcases hc with rfl | rfl | rfl | rfl <;> decide
  rw [e1, show nums ⟨#[97, 98, 98, 97]⟩ = putAll [97, 98, 98, 97] from rfl, rs_points hpt] at hA
  obtain rfl := hA.uniq plus_all
  have hR := rowH_own ho
  have hh : [(1, 3)].map (hitI (nums ⟨#[97, 98, 98, 97]⟩)) = [(1, 3)] := by kernel_rfl
  rw [hh] at hR
  obtain rfl : q = 1 := hR.1.symm
  exact ⟨Q, qc, rfl, hR, hb⟩
end Go.Proofs.YtaapbmdojkjphaaGreat
