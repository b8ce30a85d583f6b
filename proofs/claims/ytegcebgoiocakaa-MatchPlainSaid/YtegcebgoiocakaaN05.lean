/- The document's longest match, first match, all matches. -/
import Derived.Test.YtegcebgoiocakaaM06
import Derived.Test.YtegcebgoiocakaaN01
import Derived.Test.YtegcebgoiocakaaN02
import Derived.Test.YtegcebgoiocakaaN03
import Derived.Test.YtegcebgoiocakaaN04
import Derived.Laws.ResultCell
namespace Go.Proofs.Ytegcebgoiocakaa
open Go Go.RowKit
set_option linter.unusedVariables false
set_option maxRecDepth 20000

/-- The greatest place that is one. -/
def LastIs (out : List Bool) (v : Int) : Prop := (v = -1 ∧ ∀ k, k < out.length → out[k]? ≠ some true) ∨ ∃ k : Nat, v = (k : Int) ∧ k < out.length ∧ out[k]? = some true ∧ ∀ j, k < j → j < out.length → out[j]? ≠ some true
theorem rlast_any (b n c : Nat) (out : List Bool) (w : World) (h : w.heap[b]? = some (.cells (out.map Value.bool).toArray 4 (0, 0))) (hl : out.length = n) (hn : n ≤ 100000) :
    Calls Try.prog 30 #[.slice (some ⟨b, 0, none⟩) n c] w fun e w' => ∃ v, e = .returned (.int .i64 v) ∧ LastIs out v ∧ Below w.heap.size w w' := by
  have HH := Lib.hid (And.intro h hl)
  clear h hl
  go_enter Try.func30, Try.ntmps30
  go_wp2_with fail
  go_loopw [3] (fun v3 wr => ∃ k : Nat, v3 = .int .i64 ((k : Int) - 1) ∧ k ≤ n ∧ Hid ((∀ j, k ≤ j → j < n → out[j]? ≠ some true) ∧ wr = w)) (fun v3 _ => (intOf v3 + 1).toNat)
  case atStart => exact ⟨n, by first | rfl | (congr 1; omega), Nat.le_refl _, Lib.hid ⟨fun j h1 h2 => by omega, rfl⟩⟩
  case round =>
    obtain ⟨k, rfl, hk, H⟩ := hrel
    obtain ⟨hno, hww⟩ := H.out
    subst hww
    rcases k with _ | k
    · have hm : ((0 : Nat) : Int) - 1 = -1 := by omega
      rw [hm]
      go_wp2
      go_ret
      exact ⟨_, rfl, .inl ⟨rfl, fun k hk' => (H.out.1 k (Nat.zero_le _) (by have := HH.out.2; omega))⟩, Below.refl _ _⟩
    · have hm : ((k + 1 : Nat) : Int) - 1 = (k : Int) := by omega
      rw [hm]
      obtain ⟨bv, hb⟩ : ∃ bv, out[k]? = some bv := ⟨_, List.getElem?_eq_getElem (by have := HH.out.2; omega)⟩
      have ck : wr.cell? ⟨b, k, none⟩ = some (.bool bv) := by
        rw [cell_of_row _ b k _ _ (0, 0) HH.out.1]
        simp [hb]
      have HB := Lib.hid hb
      clear hb hno
      have h1 : (0 : Int) ≤ (k : Int) := by omega
      have h2 : (k : Int) < (n : Int) := by omega
      have hn1 : (k : Int) ≤ 100000 := by omega
      cases bv with
      | true =>
        go_wp2
        go_ret
        exact ⟨_, rfl, .inr ⟨k, rfl, by have := HH.out.2; omega, HB.out, fun j h3 h4 => H.out.1 j (by omega) (by have := HH.out.2; omega)⟩, Below.refl _ _⟩
      | false =>
        go_wp2
        refine ⟨⟨k, rfl, by omega, Lib.hid ⟨fun j h3 h4 => ?_, trivial⟩⟩, by simp [intOf]⟩
        rcases Nat.eq_or_lt_of_le h3 with rfl | h5
        · rw [HB.out]; simp
        · exact H.out.1 j h5 h4
/-- The longest by the ends of a run. -/
theorem long_of_last {p : List InstL} {rs : List Int} {i : Nat} {out : List Bool} {v : Int} (hi : i ≤ rs.length) (hl : out.length = rs.length + 1) (ho : ∀ k, k ≤ rs.length → (out[k]? = some true ↔ Hits p rs i k)) (h : LastIs out v) : (v = -1 ∧ Long p rs i none) ∨ ∃ k : Nat, v = (k : Int) ∧ k ≤ rs.length ∧ Long p rs i (some k) := by
  rcases h with ⟨h1, h2⟩ | ⟨k, h1, h2, h3, h4⟩
  · refine .inl ⟨h1, fun b hb => ?_⟩
    have hbl := hb.lt hi
    exact h2 b (by omega) ((ho b hbl).2 hb)
  · refine .inr ⟨k, h1, by omega, (ho k (by omega)).1 h3, fun b hb => ?_⟩
    have hbl := hb.lt hi
    rcases Nat.lt_or_ge k b with h5 | h5
    · exact absurd ((ho b hbl).2 hb) (h4 b h5 (by omega))
    · exact h5
theorem atRow {T : List Int} {W w : World} {Q : Option Addr} {m qc : Nat} (h : w.ownsRow W.heap.size 3 1 (.slice Q m qc) m ((iN (atT T)).map (.int .i64))) : ∃ bq, Q = some ⟨bq, 0, none⟩ ∧ m = (rsT T).length + 1 ∧ bq < w.heap.size ∧ ∀ j, j ≤ (rsT T).length → w.cell? ⟨bq, j, none⟩ = some (.int .i64 (atF T j : Int)) := by
  have hl := h.1
  have hal := atT_len (T := T)
  simp [iN] at hl
  rcases h.2 with ⟨_, h0⟩ | ⟨b, cap, cur, ev, hB, hb, hnc, hcm, hcs, ht⟩
  · omega
  · injection ev with e1 _ e3
    refine ⟨b, e1, by omega, (Array.getElem?_eq_some_iff.1 hb).1, fun j hj => ?_⟩
    rw [cell_of_row w b j cur _ (0, 0) hb, show some (Value.int .i64 (atF T j : Int)) = ((iN (atT T)).map (Value.int .i64))[j]? by unfold iN; rw [List.getElem?_map, List.getElem?_map, atF_at hj]; rfl, ← ht, List.getElem?_take_of_lt (by omega), Array.getElem?_toList]
def LongE (p : List InstL) (T : List Int) (a : Int) (w : World) (e : Ending) (w' : World) : Prop := ∃ v ok, e = .returned (.tuple #[.int .i64 v, .bool ok]) ∧ LongV p T a v ok ∧ Below w.heap.size w w'
set_option maxHeartbeats 8000000 in
theorem rlong_any {F : Nat → Prop} (A : Option Addr) (n c : Nat) (l : List IV) (T : ByteArray) (at_ : Int) (w : World) (hi0 : InsF F w A n l) (hr : rightB n l = true) (hset : ∀ v ∈ l, v.n ≤ 1000000) (hmn : (T.size + 1) * n ≤ 50000) (hT : T.size ≤ 1000) :
    Calls Try.prog 15 #[.slice A n c, .string T, .int .i64 at_] w (LongE (l.map fun v => v.i) (nums T) at_ w) := by
  have hnl := nums_length T
  have HO := Lib.hid (rof_any T w hT)
  have hrl := rsT_le (T := nums T)
  have hRun := fun (w2 : World) (hb : Below w.heap.size w w2) (P : Option Addr) (pc i : Nat) (hrs : RowI .i64 w2 P (rsT (nums T)).length (rsT (nums T))) (hi : i ≤ (rsT (nums T)).length) =>
    rrun_any A n c l P (rsT (nums T)).length pc (rsT (nums T)) i w2 ((hi0.mono (F' := fun b => b < w.heap.size) fun b _ h => h).belowB hb) hr hrs hset (Nat.le_trans (Nat.mul_le_mul_right n (by omega)) hmn) (by omega) hi
  have HRun := Lib.hid hRun
  have HN := Lib.hid (And.intro hnl hrl)
  clear hi0 hr hset hnl hrl hRun hmn
  go_enter Try.func15, Try.ntmps15
  go_wp2_with (go_at_call 13; (with_reducible refine HO.out.mono ?_); rintro e w1 ⟨P, k, pc, Q, m, qc, rfl, hTV, hb⟩; have H1 := Lib.hid (And.intro hTV hb); clear hTV hb)
  obtain ⟨W, hW⟩ : ∃ W, W = w1.alloc (.cells #[.slice P k pc, .slice Q m qc] 30) := ⟨_, rfl⟩
  rw [← hW]
  have hbW : Below w1.heap.size w1 W := by rw [hW]; exact (Below.refl _ _).alloc (Nat.le_refl _) _
  obtain ⟨bq, hQ, hm, hbq, hAt⟩ := atRow H1.out.1.2
  obtain ⟨hRsI, _⟩ := ownI_row H1.out.1.1
  have hkl : k = (rsT (nums T)).length := by have := H1.out.1.1.1; rw [List.length_map] at this; omega
  have hbx : W.heap[w1.heap.size]? = some (.cells #[.slice P k pc, .slice Q m qc] 30 (0, 0)) := by rw [hW]; exact hp_new rfl
  obtain ⟨x0, x1, _, _⟩ := box_two' hbx
  have hbT : Below w.heap.size w W := H1.out.2.trans (hbW.mono H1.out.2.size)
  have hRW : RowI .i64 W P (rsT (nums T)).length (rsT (nums T)) := by
    have := hRsI.below hbW (Nat.le_refl _)
    rwa [hkl] at this
  subst hQ; subst hkl; subst hm
  have hsz : w1.heap.size < W.heap.size := by rw [hW]; simp
  have HW := Lib.hid (And.intro hbT (And.intro hRW (And.intro (fun j hj => (hbW.cell (p := ⟨bq, j, none⟩) hbq).trans (hAt j hj)) (And.intro hsz (And.intro (hbx) (Nat.lt_of_lt_of_le hbq hbW.size))))))
  clear hbW hbq hAt hRsI hbx hbT hRW hsz hW
  go_loopw [9] (fun v9 wr => ∃ i : Nat, v9 = .int .i64 (i : Int) ∧ i ≤ (rsT (nums T)).length + 1 ∧ Hid ((∀ j, j < i → (atF (nums T) j : Int) ≠ at_) ∧ wr = W)) (fun v9 _ => (rsT (nums T)).length + 1 - (intOf v9).toNat)
  case atStart => exact ⟨0, rfl, Nat.zero_le _, Lib.hid ⟨fun j hj => absurd hj (Nat.not_lt_zero _), rfl⟩⟩
  case round =>
    obtain ⟨i, rfl, hi, H⟩ := hrel
    obtain ⟨hno, hww⟩ := H.out
    subst hww
    by_cases hlt : i < (rsT (nums T)).length + 1
    · have hiI : (i : Int) < ((rsT (nums T)).length : Int) + 1 := by omega
      have hi0 : (0 : Int) ≤ (i : Int) := by omega
      have cAt := HW.out.2.2.1 i (by omega)
      obtain ⟨av, hav⟩ : ∃ av : Int, av = (atF (nums T) i : Int) := ⟨_, rfl⟩
      rw [← hav] at cAt
      have hi1 : (i : Int) ≤ 1000 := by have := HN.out; omega
      by_cases hat : av = at_
      · subst hat
        have HRu := Lib.hid (HRun.out wr HW.out.1 P pc i HW.out.2.1 (by omega))
        have HAv := Lib.hid hav
        clear hav hno
        go_wp2_with (first
          | (go_at_call 31; (with_reducible refine HRu.out.mono ?_); rintro e w2 ⟨RP, rpc, out, rfl, ⟨rb, rfl, hrow⟩, hol, hoh, hb2⟩; have HR2 := Lib.hid (And.intro hol (And.intro hoh hb2)); have HLa := Lib.hid (rlast_any rb ((rsT (nums T)).length + 1) rpc out w2 hrow hol (by have := HN.out; omega)); clear hrow hol hoh hb2)
          | (go_at_call 30; (with_reducible refine HLa.out.mono ?_); rintro e w3 ⟨v, rfl, hv, hb3⟩
             have hb13 : Below wr.heap.size wr w3 := HR2.out.2.2.trans (hb3.mono HR2.out.2.2.size)
             have z1 : w3.cell? ⟨w1.heap.size, 1, none⟩ = some (.slice (some ⟨bq, 0, none⟩) ((rsT (nums T)).length + 1) qc) := (hb13.cell (p := ⟨w1.heap.size, 1, none⟩) HW.out.2.2.2.1).trans x1
             have HL3 := Lib.hid hb13
             rcases long_of_last (show i ≤ (rsT (nums T)).length by omega) HR2.out.1 HR2.out.2.1 hv with ⟨rfl, hlg⟩ | ⟨kk, rfl, hkk, hlg⟩ <;> (first
               | (have HLg := Lib.hid (show LongV (l.map fun v => v.i) (nums T) av 0 false from .inl ⟨i, none, by omega, HAv.out, hlg, rfl, rfl⟩)
                  clear hlg hv hb3 hb13)
               | (have ck := (hb13.cell (p := ⟨bq, kk, none⟩) HW.out.2.2.2.2.2).trans (HW.out.2.2.1 kk hkk)
                  have HLg := Lib.hid (show LongV (l.map fun v => v.i) (nums T) av (atF (nums T) kk : Int) true from .inl ⟨i, some kk, by omega, HAv.out, hlg, rfl, rfl⟩)
                  have k0 : (0 : Int) ≤ (kk : Int) := by omega
                  have k1 : (kk : Int) < ((rsT (nums T)).length : Int) + 1 := by omega
                  clear hlg hv hb3 hb13 hkk))))
        all_goals
          go_ret2
          exact ⟨_, _, rfl, HLg.out, HW.out.1.trans (HL3.out.mono HW.out.1.size)⟩
      · have HNe := Lib.hid (fun j (hj : j < i + 1) => show (atF (nums T) j : Int) ≠ at_ from by
          rcases Nat.eq_or_lt_of_le (Nat.le_of_lt_succ hj) with rfl | h
          · rw [← hav]; exact hat
          · exact hno j h)
        clear hno hav
        go_wp2
        exact ⟨⟨i + 1, rfl, by omega, Lib.hid ⟨HNe.out, trivial⟩⟩, by simp [intOf]; omega⟩
    · have hiI : ¬ (i : Int) < ((rsT (nums T)).length : Int) + 1 := by omega
      have HNo := Lib.hid (show LongV (l.map fun v => v.i) (nums T) at_ 0 false from .inr ⟨fun ⟨j, h1, h2⟩ => hno j (by omega) h2.symm, rfl, rfl⟩)
      clear hno
      go_wp2
      go_ret2
      exact ⟨_, _, rfl, HNo.out, HW.out.1⟩
end Go.Proofs.Ytegcebgoiocakaa
/- The document's first match. -/
namespace Go.Proofs.Ytegcebgoiocakaa
open Go Go.RowKit
set_option linter.unusedVariables false
set_option maxRecDepth 20000

def FirstE (p : List InstL) (T : List Int) (a : Int) (w : World) (e : Ending) (w' : World) : Prop := ∃ x y ok, e = .returned (.tuple #[.agg #[.int .i64 x, .int .i64 y], .bool ok]) ∧ FirstV p T a (x, y) ok ∧ Below w.heap.size w w'
theorem longV_at {p : List InstL} {T : List Int} {i : Nat} {v : Int} {ok : Bool} (hi : i ≤ (rsT T).length) (h : LongV p T (atF T i : Int) v ok) : (v = 0 ∧ ok = false ∧ Long p (rsT T) i none) ∨ ∃ e, v = (atF T e : Int) ∧ ok = true ∧ Long p (rsT T) i (some e) := by
  rcases h with ⟨j, o, h1, h2, h3, h4, h5⟩ | ⟨h1, _⟩
  · obtain rfl := atF_inj hi h1 (by omega)
    cases o with
    | none => exact .inl ⟨h4, h5, h3⟩
    | some e => exact .inr ⟨e, h4, h5, h3⟩
  · exact absurd ⟨i, hi, rfl⟩ h1
theorem firstV_none {p : List InstL} {T : List Int} {a : Int} (h : ∀ j, j < (rsT T).length + 1 → a ≤ (atF T j : Int) → Long p (rsT T) j none) : FirstV p T a (0, 0) false := by
  by_cases hl : (T.length : Int) < a
  · exact ⟨none, .inr ⟨hl, rfl⟩, rfl, rfl⟩
  · obtain ⟨k, hk⟩ := placeFrom_some (T := T) (a := a) (by omega)
    refine ⟨none, .inl ⟨k, hk, fun f e h1 h2 => ?_⟩, rfl, rfl⟩
    have := atF_le (T := T) h2 h1
    have := hk.2.2
    exact h f (by omega) (by omega) e
theorem firstV_some {p : List InstL} {T : List Int} {a : Int} {i e : Nat} (hi : i ≤ (rsT T).length) (ha : a ≤ (atF T i : Int)) (hL : Long p (rsT T) i (some e)) (h : ∀ j, j < i → a ≤ (atF T j : Int) → Long p (rsT T) j none) : FirstV p T a ((atF T i : Int), (atF T e : Int)) true := by
  have hmx := atF_max (T := T) hi
  obtain ⟨k, hk⟩ := placeFrom_some (T := T) (a := a) (by omega)
  have hki : k ≤ i := by
    rcases Nat.lt_or_ge i k with h1 | h1
    · have := hk.2.1 i h1; omega
    · exact h1
  refine ⟨some (i, e), .inl ⟨k, hk, hki, hi, hL, fun f e' h1 h2 => ?_⟩, rfl, rfl⟩
  have := atF_le (T := T) (show f ≤ (rsT T).length by omega) h1
  have := hk.2.2
  exact h f h2 (by omega) e'
set_option maxHeartbeats 8000000 in
theorem rfirst_any {F : Nat → Prop} (A : Option Addr) (n c : Nat) (l : List IV) (T : ByteArray) (at_ : Int) (w : World) (hi0 : InsF F w A n l) (hr : rightB n l = true) (hset : ∀ v ∈ l, v.n ≤ 1000000) (hmn : (T.size + 1) * n ≤ 50000) (hT : T.size ≤ 1000) :
    Calls Try.prog 17 #[.slice A n c, .string T, .int .i64 at_] w (FirstE (l.map fun v => v.i) (nums T) at_ w) := by
  have hnl := nums_length T
  have hb0 : Below w.heap.size w (w.alloc (.cells #[.int .i64 0, .int .i64 0] 35)) := (Below.refl _ _).alloc (Nat.le_refl _) _
  have HO := Lib.hid (rof_any T (w.alloc (.cells #[.int .i64 0, .int .i64 0] 35)) hT)
  have hrl := rsT_le (T := nums T)
  have HLo := Lib.hid fun (w2 : World) (hb : Below w.heap.size w w2) (a : Int) => rlong_any A n c l T a w2 ((hi0.mono (F' := fun b => b < w.heap.size) fun b _ h => h).belowB hb) hr hset hmn hT
  have HN := Lib.hid (And.intro hnl (And.intro hrl hb0))
  clear hi0 hr hset hnl hrl hmn hb0
  go_enter Try.func17, Try.ntmps17
  go_wp2_with (go_at_call 13; (with_reducible refine HO.out.mono ?_); rintro e w1 ⟨P, k, pc, Q, m, qc, rfl, hTV, hb⟩; have H1 := Lib.hid (And.intro hTV hb); clear hTV hb)
  obtain ⟨W, hW⟩ : ∃ W, W = w1.alloc (.cells #[.slice P k pc, .slice Q m qc] 30) := ⟨_, rfl⟩
  rw [← hW]
  have hbW : Below w1.heap.size w1 W := by rw [hW]; exact (Below.refl _ _).alloc (Nat.le_refl _) _
  obtain ⟨bq, hQ, hm, hbq, hAt⟩ := atRow H1.out.1.2
  have hbx : W.heap[w1.heap.size]? = some (.cells #[.slice P k pc, .slice Q m qc] 30 (0, 0)) := by rw [hW]; exact hp_new rfl
  have hs1 : w.heap.size + 1 ≤ w1.heap.size := by have := H1.out.2.size; simpa using this
  have hbT : Below w.heap.size w W := (HN.out.2.2.trans (H1.out.2.mono (by simp))).trans (hbW.mono (by omega))
  have hh0 : W.heap[w.heap.size]? = some (.cells #[.int .i64 0, .int .i64 0] 35 (0, 0)) := (hbW.block _ (by omega)).trans (hit_box H1.out.2)
  subst hQ; subst hm
  have hsz : w1.heap.size < W.heap.size := by rw [hW]; simp
  have HW := Lib.hid (And.intro hbT (And.intro hbx (And.intro (fun j hj => (hbW.cell (p := ⟨bq, j, none⟩) hbq).trans (hAt j hj)) (And.intro hh0 (And.intro hsz (Nat.lt_of_lt_of_le hbq hbW.size))))))
  clear hbW hbq hAt hbx hbT hsz hW hh0 hs1
  go_loopw [9] (fun v9 wr => ∃ i : Nat, v9 = .int .i64 (i : Int) ∧ i ≤ (rsT (nums T)).length + 1 ∧ Hid ((∀ j, j < i → at_ ≤ (atF (nums T) j : Int) → Long (l.map fun v => v.i) (rsT (nums T)) j none) ∧ Below W.heap.size W wr)) (fun v9 _ => (rsT (nums T)).length + 1 - (intOf v9).toNat)
  case atStart => exact ⟨0, rfl, Nat.zero_le _, Lib.hid ⟨fun j hj => absurd hj (Nat.not_lt_zero _), Below.refl _ _⟩⟩
  case round =>
    obtain ⟨i, rfl, hi, H⟩ := hrel
    obtain ⟨hno, hbr⟩ := H.out
    have hbx := (hbr.block _ HW.out.2.2.2.2.1).trans HW.out.2.1
    obtain ⟨x0, x1, _, _⟩ := box_two' hbx
    have HBR := Lib.hid (HW.out.1.trans (hbr.mono HW.out.1.size))
    by_cases hlt : i < (rsT (nums T)).length + 1
    · have hiI : (i : Int) < ((rsT (nums T)).length : Int) + 1 := by omega
      have hi0 : (0 : Int) ≤ (i : Int) := by omega
      have cAt := (hbr.cell (p := ⟨bq, i, none⟩) HW.out.2.2.2.2.2).trans (HW.out.2.2.1 i (by omega))
      have hi1 : (i : Int) ≤ 1000 := by have := HN.out; omega
      by_cases hat : (atF (nums T) i : Int) < at_
      · have HNe := Lib.hid (fun j (hj : j < i + 1) (ha : at_ ≤ (atF (nums T) j : Int)) => show Long (l.map fun v => v.i) (rsT (nums T)) j none from by
          rcases Nat.eq_or_lt_of_le (Nat.le_of_lt_succ hj) with rfl | h
          · omega
          · exact hno j h ha)
        clear hno
        go_wp2
        exact ⟨⟨i + 1, rfl, by omega, Lib.hid ⟨HNe.out, H.out.2⟩⟩, by simp [intOf]; omega⟩
      · have HLn := Lib.hid (HLo.out wr HBR.out (atF (nums T) i : Int))
        have hat2 : at_ ≤ (atF (nums T) i : Int) := by omega
        have HAt := Lib.hid hat2
        clear hno hbr hat2
        go_wp2_with (first
          | (go_at_call 15; (with_reducible refine HLn.out.mono ?_); rintro e w3 ⟨v, ok, rfl, hv, hb3⟩
             have hb13 : Below W.heap.size W w3 := H.out.2.trans (hb3.mono H.out.2.size)
             have hh := (hb13.block w.heap.size (Array.getElem?_eq_some_iff.1 HW.out.2.2.2.1).1).trans HW.out.2.2.2.1
             obtain ⟨z0, z1, zf0, zf1⟩ := box_two hh
             have g1 := (hb13.cell (p := ⟨w1.heap.size, 1, none⟩) HW.out.2.2.2.2.1).trans (cell_of_row W w1.heap.size 1 _ _ (0, 0) HW.out.2.1)
             have gA := (hb13.cell (p := ⟨bq, i, none⟩) HW.out.2.2.2.2.2).trans (HW.out.2.2.1 i (by omega))
             simp only [List.getElem?_toArray, List.getElem?_cons_succ, List.getElem?_cons_zero] at g1
             have HB3 := Lib.hid (And.intro hb13 hh)
             rcases longV_at (show i ≤ (rsT (nums T)).length by omega) hv with ⟨rfl, rfl, hlg⟩ | ⟨ee, rfl, rfl, hlg⟩ <;> (have HLg := Lib.hid hlg; clear hlg hv hb3 hb13 hh)))
        · exact ⟨⟨i + 1, rfl, by omega, Lib.hid ⟨fun j hj ha => by
            rcases Nat.eq_or_lt_of_le (Nat.le_of_lt_succ hj) with rfl | h
            · exact HLg.out
            · exact H.out.1 j h ha, HB3.out.1⟩⟩, by simp [intOf]; omega⟩
        · have hset := box_put (x' := .int .i64 (atF (nums T) i : Int)) (y' := .int .i64 (atF (nums T) ee : Int)) HB3.out.2
          have hbf := ((HW.out.1.trans (HB3.out.1.mono HW.out.1.size)).setCell (p := ⟨w.heap.size, 0, none⟩) (Nat.le_refl _) (.int .i64 (atF (nums T) i : Int))).setCell (p := ⟨w.heap.size, 1, none⟩) (Nat.le_refl _) (.int .i64 (atF (nums T) ee : Int))
          obtain ⟨y0, y1, _, _⟩ := box_two hset
          generalize (w3.setCell ⟨w.heap.size, 0, none⟩ (.int .i64 (atF (nums T) i : Int))).setCell ⟨w.heap.size, 1, none⟩ (.int .i64 (atF (nums T) ee : Int)) = wf at hset y0 y1 hbf ⊢
          clear z0 z1 zf0 zf1 hset
          refine bodyPost_ret (v := .tuple #[.agg #[.int .i64 (atF (nums T) i : Int), .int .i64 (atF (nums T) ee : Int)], .bool true]) ?_ rfl ⟨_, _, _, rfl, firstV_some (by omega) HAt.out HLg.out H.out.1, hbf⟩
          rw [results_cell_tmp rfl]; go_simp
    · have hiI : ¬ (i : Int) < ((rsT (nums T)).length : Int) + 1 := by omega
      have HNo := Lib.hid (show FirstV (l.map fun v => v.i) (nums T) at_ (0, 0) false from firstV_none fun j hj ha => hno j (by omega) ha)
      have hh := (hbr.block w.heap.size (Array.getElem?_eq_some_iff.1 HW.out.2.2.2.1).1).trans HW.out.2.2.2.1
      obtain ⟨z0, z1, zf0, zf1⟩ := box_two hh
      have HHH := Lib.hid hh
      clear hno hbr hh
      go_wp2
      have hset := box_put (x' := .int .i64 0) (y' := .int .i64 0) HHH.out
      have hbf := (HBR.out.setCell (p := ⟨w.heap.size, 0, none⟩) (Nat.le_refl _) (.int .i64 0)).setCell (p := ⟨w.heap.size, 1, none⟩) (Nat.le_refl _) (.int .i64 0)
      obtain ⟨y0, y1, _, _⟩ := box_two hset
      generalize (wr.setCell ⟨w.heap.size, 0, none⟩ (.int .i64 0)).setCell ⟨w.heap.size, 1, none⟩ (.int .i64 0) = wf at hset y0 y1 hbf ⊢
      clear z0 z1 zf0 zf1 hset
      refine bodyPost_ret (v := .tuple #[.agg #[.int .i64 0, .int .i64 0], .bool false]) ?_ rfl ⟨_, _, _, rfl, HNo.out, hbf⟩
      rw [results_cell_tmp rfl]; go_simp
end Go.Proofs.Ytegcebgoiocakaa
/- All matches: what a round does. -/
namespace Go.Proofs.Ytegcebgoiocakaa
open Go Go.RowKit
set_option linter.unusedVariables false

/-- A hit as it is told. -/
def hitI (T : List Int) (h : Nat × Nat) : Int × Int := ((atF T h.1 : Nat), (atF T h.2 : Nat))
/-- Where the loop stands. -/
structure AInv (p : List InstL) (T : List Int) (at_ : Nat) (behind : Int) (hs : List (Nat × Nat)) (k : Nat) (b : Option Nat) : Prop where
  k1 : k ≤ (rsT T).length + 1
  lo : ∀ j, j < k → atF T j < at_
  hi : k ≤ (rsT T).length → at_ ≤ atF T k
  ov : k = (rsT T).length + 1 → at_ = T.length + 1
  bh : behind = endI T b
  bl : ∀ x, b = some x → x ≤ (rsT T).length
  all : ∀ l, AllR p (rsT T) k b l → AllR p (rsT T) 0 none (hs ++ l)
theorem AInv.begin {p : List InstL} {T : List Int} : AInv p T 0 (-1) [] 0 none :=
  ⟨Nat.zero_le _, fun j h => by omega, fun _ => Nat.zero_le _, fun h => absurd h (by omega), rfl, (fun x h => nomatch h), fun l h => h⟩
section
variable {p : List InstL} {T : List Int} {at_ : Nat} {behind : Int} {hs : List (Nat × Nat)} {k : Nat} {b : Option Nat} {xs : List Int}
theorem endI_none {o : Option Nat} : endI T o = -1 ↔ o = none := by
  cases o with
  | none => simp [endI]
  | some x => simp [endI]
/-- Past the end. -/
theorem AInv.over (h : AInv p T at_ behind hs k b) (ha : T.length < at_) : AllR p (rsT T) 0 none hs := by
  have hk : (rsT T).length < k := by
    rcases Nat.lt_or_ge (rsT T).length k with h1 | h1
    · exact h1
    · have := h.hi h1
      have := atF_max (T := T) h1
      omega
  have := h.all [] (.stop hk)
  rwa [List.append_nil] at this
theorem AInv.kl (h : AInv p T at_ behind hs k b) (ha : at_ ≤ T.length) : k ≤ (rsT T).length := by
  rcases Nat.lt_or_ge (rsT T).length k with h1 | h1
  · have := h.ov (by have := h.k1; omega); omega
  · exact h1
/-- What a round knows of a place. -/
theorem AInv.place (h : AInv p T at_ behind hs k b) (ha : at_ ≤ T.length) {j : Nat} (hj : j ≤ (rsT T).length) (he : atF T j = at_) : j = k := by
  have hk := h.kl ha
  have h1 := h.hi hk
  rcases Nat.lt_trichotomy j k with h2 | h2 | h2
  · have := h.lo j h2; omega
  · exact h2
  · have := atF_lt (T := T) hj h2; omega
/-- One further. -/
theorem AInv.skip (h : AInv p T at_ behind hs k b) (ha : at_ ≤ T.length) {tv : Int} (hto : xs[at_]? = some tv)
    (hx : (∃ j o, atF T j = at_ ∧ j ≤ (rsT T).length ∧ Long p (rsT T) j o ∧ xs[at_]? = some (endI T o)) ∨ ((¬ ∃ j, j ≤ (rsT T).length ∧ atF T j = at_) ∧ xs[at_]? = some (-1)))
    (hc : tv = -1 ∨ tv = (at_ : Int) ∧ (at_ : Int) = behind) : ∃ k' , AInv p T (at_ + 1) behind hs k' b := by
  have hk := h.kl ha
  have hi := h.hi hk
  rcases hx with ⟨j, o, he, hj, hL, hx⟩ | ⟨hno, hx⟩
  · obtain rfl := h.place ha hj he
    rw [hto] at hx; injection hx with hx
    refine ⟨j + 1, by omega, fun i hi' => ?_, fun hj1 => ?_, fun hj1 => ?_, h.bh, h.bl, fun l hl => h.all l (.skip hj ?_ hl)⟩
    · rcases Nat.lt_or_ge i j with h1 | h1
      · have := h.lo i h1; omega
      · obtain rfl : i = j := by omega
        omega
    · have := atF_lt (T := T) hj1 (Nat.lt_succ_self j); omega
    · obtain rfl : j = (rsT T).length := by omega
      have := atF_last (T := T); omega
    · rcases hc with hc | ⟨hc1, hc2⟩
      · rw [hc] at hx
        rw [endI_none.1 hx.symm] at hL
        exact .inl hL
      · cases o with
        | none => rw [hc1] at hx; simp [endI] at hx
        | some e =>
          have hel : e ≤ (rsT T).length := hL.1.lt hj
          rw [hc1] at hx
          simp only [endI] at hx
          have h1 : atF T e = atF T j := by omega
          have e1 : e = j := by
            rcases Nat.lt_trichotomy e j with h2 | h2 | h2
            · have := atF_lt (T := T) hj h2; omega
            · exact h2
            · have := atF_lt (T := T) hel h2; omega
          subst e1
          refine .inr ⟨hL, ?_⟩
          have hb := h.bh
          cases b with
          | none => rw [hb] at hc2; simp [endI] at hc2
          | some x =>
            have hxl := h.bl x rfl
            rw [hb] at hc2
            simp only [endI] at hc2
            have h1 : atF T x = atF T e := by omega
            congr 1
            rcases Nat.lt_trichotomy x e with h2 | h2 | h2
            · have := atF_lt (T := T) hj h2; omega
            · exact h2
            · have := atF_lt (T := T) hxl h2; omega
  · refine ⟨k, h.k1, fun i hi' => by have := h.lo i hi'; omega, fun _ => ?_, fun h1 => by omega, h.bh, h.bl, h.all⟩
    rcases Nat.lt_or_ge at_ (atF T k) with h1 | h1
    · omega
    · exact absurd ⟨k, hk, by omega⟩ hno
/-- A hit. -/
theorem AInv.take (h : AInv p T at_ behind hs k b) (ha : at_ ≤ T.length) {tv : Int} (hto : xs[at_]? = some tv)
    (hx : (∃ j o, atF T j = at_ ∧ j ≤ (rsT T).length ∧ Long p (rsT T) j o ∧ xs[at_]? = some (endI T o)) ∨ ((¬ ∃ j, j ≤ (rsT T).length ∧ atF T j = at_) ∧ xs[at_]? = some (-1)))
    (hc : tv ≠ -1) (hc2 : ¬ (tv = (at_ : Int) ∧ (at_ : Int) = behind)) : ∃ e z : Nat, tv = (z : Int) ∧ at_ ≤ z ∧ z ≤ T.length ∧ ((at_ : Int), (z : Int)) = hitI T (k, e) ∧ AInv p T z tv (hs ++ [(k, e)]) e (some e) := by
  have hk := h.kl ha
  have hi := h.hi hk
  rcases hx with ⟨j, o, he, hj, hL, hx⟩ | ⟨hno, hx⟩
  · obtain rfl := h.place ha hj he
    rw [hto] at hx; injection hx with hx
    cases o with
    | none => exact absurd hx hc
    | some e =>
      have hel : e ≤ (rsT T).length := hL.1.lt hj
      have hje := hL.1.le
      have hle := atF_le (T := T) hel hje
      have hmx := atF_max (T := T) hel
      simp only [endI] at hx
      refine ⟨e, atF T e, hx, by omega, hmx, by unfold hitI; simp only; rw [he], by omega, fun i hi' => atF_lt hel hi', fun _ => Nat.le_refl _, fun h1 => by omega, by rw [hx]; rfl, fun x hx' => by injection hx' with hx'; omega, fun l hl => ?_⟩
      rw [List.append_assoc]
      refine h.all _ (.take hj hL (fun ⟨h1, h2⟩ => hc2 ?_) hl)
      subst h1
      rw [h.bh, h2]
      simp only [endI]
      exact ⟨by omega, by omega⟩
  · rw [hto] at hx; injection hx with hx; exact absurd hx hc
end
end Go.Proofs.Ytegcebgoiocakaa
/- The document's matches, one behind the other: what a round does. -/
namespace Go.Proofs.Ytegcebgoiocakaa
open Go Go.RowKit
set_option linter.unusedVariables false

theorem AllR.skips {p : List InstL} {rs : List Int} {b : Option Nat} {l : List (Nat × Nat)} : ∀ (n k f : Nat), f = k + n → f ≤ rs.length + 1 → (∀ j, k ≤ j → j < f → Long p rs j none) → AllR p rs f b l → AllR p rs k b l
  | 0, k, f, hf, _, _, h => by obtain rfl : f = k := by omega
                               exact h
  | n + 1, k, f, hf, hl, hn, h => .skip (by omega) (.inl (hn k (Nat.le_refl _) (by omega))) (AllR.skips n (k + 1) f (by omega) hl (fun j h1 h2 => hn j (by omega) h2) h)
structure RInv (p : List InstL) (T : List Int) (k : Nat) (b : Option Nat) (hs : List (Nat × Nat)) : Prop where
  kl : k ≤ (rsT T).length
  bl : b = hs.getLast?.map Prod.snd
  bk : ∀ x, b = some x → x ≤ k
  cnt : hs.length ≤ 2 * atF T k + 1 ∧ (b ≠ some k → hs.length ≤ 2 * atF T k)
  all : ∀ l, AllR p (rsT T) k b l → AllR p (rsT T) 0 none (hs ++ l)
section
variable {p : List InstL} {T : List Int} {k f e : Nat} {b : Option Nat} {hs : List (Nat × Nat)}
theorem RInv.begin : RInv p T 0 none [] := ⟨Nat.zero_le _, rfl, (fun x h => nomatch h), ⟨by simp, fun _ => by simp⟩, fun l h => h⟩
theorem firstV_at {hit : Int × Int} {ok : Bool} (hk : k ≤ (rsT T).length) (h : FirstV p T (atF T k : Int) hit ok) : (hit = (0, 0) ∧ ok = false ∧ ∀ j, k ≤ j → j < (rsT T).length + 1 → Long p (rsT T) j none) ∨ ∃ f e, hit = ((atF T f : Int), (atF T e : Int)) ∧ ok = true ∧ k ≤ f ∧ f ≤ (rsT T).length ∧ f ≤ e ∧ e ≤ (rsT T).length ∧ Long p (rsT T) f (some e) ∧ ∀ j, k ≤ j → j < f → Long p (rsT T) j none := by
  obtain ⟨o, h1, h2, h3⟩ := h
  have hp : PlaceFrom T (atF T k : Int) k := ⟨hk, fun j hj => by have := atF_lt (T := T) hk hj; omega, Int.le_refl _⟩
  rcases h1 with ⟨k', hk', hf⟩ | ⟨hl, _⟩
  · obtain rfl := hp.uniq hk'
    cases o with
    | none => exact .inl ⟨h2, h3, fun j h4 h5 b => hf j b h4 (by omega)⟩
    | some q =>
      obtain ⟨f, e⟩ := q
      obtain ⟨g1, g2, g3, g4⟩ := hf
      exact .inr ⟨f, e, h2, h3, g1, g2, g3.1.le, g3.1.lt g2, g3, fun j h4 h5 b => g4 j b h4 h5⟩
  · have := atF_max (T := T) hk; omega
theorem RInv.over (h : RInv p T k b hs) (hn : ∀ j, k ≤ j → j < (rsT T).length + 1 → Long p (rsT T) j none) : AllR p (rsT T) 0 none hs := by
  have hk := h.kl
  have := h.all [] (AllR.skips ((rsT T).length + 1 - k) k ((rsT T).length + 1) (by omega) (Nat.le_refl _) hn (.stop (by omega)))
  rwa [List.append_nil] at this
theorem RInv.push (h : RInv p T k b hs) (h1 : k ≤ f) (h2 : f ≤ (rsT T).length) (h3 : f ≤ e) (h4 : e ≤ (rsT T).length) (hL : Long p (rsT T) f (some e)) (hn : ∀ j, k ≤ j → j < f → Long p (rsT T) j none) (hc : ¬ (e = f ∧ b = some f)) : RInv p T e (some e) (hs ++ [(f, e)]) := by
  refine ⟨h4, by simp, fun x hx => by injection hx with hx; omega, ⟨?_, fun hx => absurd rfl hx⟩, fun l hl => ?_⟩
  · rw [List.length_append, List.length_singleton]
    have hke := atF_le (T := T) h4 (Nat.le_trans h1 h3)
    by_cases hb : b = some k
    · rcases Nat.eq_or_lt_of_le (Nat.le_trans h1 h3) with h5 | h5
      · exact absurd ⟨by omega, by rw [hb]; congr 1; omega⟩ hc
      · have := atF_lt (T := T) h4 h5
        have := h.cnt.1
        omega
    · have := h.cnt.2 hb; omega
  · rw [List.append_assoc]
    exact h.all _ (AllR.skips (f - k) k f (by omega) (by omega) hn (.take h2 hL hc hl))
theorem RInv.next (h : RInv p T k b hs) (h1 : k ≤ f) (h2 : f + 1 ≤ (rsT T).length) (hL : Long p (rsT T) f (some f)) (hn : ∀ j, k ≤ j → j < f → Long p (rsT T) j none) (hb : b = some f) : RInv p T (f + 1) b hs := by
  have hkf := atF_lt (T := T) h2 (Nat.lt_succ_of_le h1)
  refine ⟨h2, h.bl, fun x hx => by have := h.bk x hx; omega, ⟨by have := h.cnt.1; omega, fun _ => by have := h.cnt.1; omega⟩, fun l hl => h.all _ (AllR.skips (f - k) k f (by omega) (by omega) hn (.skip (by omega) (.inr ⟨hL, hb⟩) hl))⟩
theorem RInv.last (h : RInv p T k b hs) (h1 : k ≤ f) (h2 : f = (rsT T).length) (hL : Long p (rsT T) f (some f)) (hn : ∀ j, k ≤ j → j < f → Long p (rsT T) j none) (hb : b = some f) : AllR p (rsT T) 0 none hs := by
  have := h.all [] (AllR.skips (f - k) k f (by omega) (by omega) hn (.skip (by omega) (.inr ⟨hL, hb⟩) (.stop (by omega))))
  rwa [List.append_nil] at this
end
end Go.Proofs.Ytegcebgoiocakaa
/- All matches: the walk. -/
namespace Go.Proofs.Ytegcebgoiocakaa
open Go Go.RowKit
set_option linter.unusedVariables false
set_option maxRecDepth 20000

theorem info_hit : (Try.prog.info? 35).map (fun i => (i.zero, i.size, i.bytes)) = some (some (.agg #[.int .i64 0, .int .i64 0]), 2, 16) := by kernel_rfl
theorem nilP (w : World) (B : Nat) (e : TypeId) : w.ownsRow B e 2 (.slice none 0 0) 0 (cellsG []) := World.ownsRow_nil _ _ _ _
theorem ite01 (p : Prop) [Decidable p] : (if p then 0 else 1) ≤ 1 := by split <;> omega
theorem less01 {A B x : Nat} {p : Prop} [Decidable p] (h : A + 1 < B) : (A + if p then 0 else 1) < B + x := Nat.lt_of_le_of_lt (Nat.add_le_add_left (ite01 p) _) (Nat.lt_of_lt_of_le h (Nat.le_add_right _ _))
theorem less10 {A B : Nat} {p q : Prop} [Decidable p] [Decidable q] (hp : p) (hq : ¬ q) (h : A ≤ B) : (A + if p then 0 else 1) < (B + if q then 0 else 1) := by rw [if_pos hp, if_neg hq]; omega
/-- Of a program that isn't right nothing is told. -/
theorem all_wrong (A : Option Addr) (n c : Nat) (l : List IV) (T : ByteArray) (w : World) (h : InsAt w A n l) (hr : rightB n l = false) (hn : n ≤ 1000000) :
    Calls Try.prog 19 #[.slice A n c, .string T] w fun e w' => e = .returned (.slice none 0 0) ∧ Below w.heap.size w w' := by
  have HR := Lib.hid (right_any A n c l w h hn)
  rw [hr] at HR
  go_enter Try.func19, Try.ntmps19
  go_wp2_with (go_at_call 27; (with_reducible refine HR.out.mono ?_); rintro e w2 ⟨rfl, hb⟩; have HB := Lib.hid hb; clear hb)
  go_ret
  exact ⟨rfl, HB.out⟩
set_option maxHeartbeats 4000000 in
theorem all_match {F : Nat → Prop} (A : Option Addr) (n c : Nat) (l : List IV) (T : ByteArray) (w : World) (hi0 : InsF F w A n l) (hr : rightB n l = true) (hn : n ≤ 1000) (hT : T.size ≤ 1000) :
    Calls Try.prog 19 #[.slice A n c, .string T] w fun e w' => ∃ P q pc hs, e = .returned (.slice P q pc) ∧ AllR (l.map fun v => v.i) (rsT (nums T)) 0 none hs ∧ w'.ownsRow w.heap.size 35 2 (.slice P q pc) q (cellsG (hs.map (hitI (nums T)))) ∧ Below w.heap.size w w' := by
  have hnl := nums_length T
  have HR := Lib.hid (right_any A n c l w hi0.insAt (by omega))
  rw [hr] at HR
  have HE := Lib.hid fun w2 (hb : Below w.heap.size w w2) => ends_any A n c l T w2 ((hi0.mono (F' := fun b => b < w.heap.size) fun b _ h => h).belowB hb) hr hn hT
  have HN := Lib.hid hnl
  clear hi0 hr hnl
  go_enter Try.func19, Try.ntmps19
  go_wp2_with (first
    | (go_at_call 27; (with_reducible refine HR.out.mono ?_); rintro e w2 ⟨rfl, hb⟩; have HB := Lib.hid hb; have HE2 := Lib.hid (HE.out w2 hb); clear hb)
    | (go_at_call 32; (with_reducible refine HE2.out.mono ?_); rintro e w3 ⟨ra, xs, rfl, hxl, hra, hrow, hx, hb⟩; have HX := Lib.hid (And.intro hxl (And.intro hrow (And.intro hx (And.intro (HB.out.trans (hb.mono HB.out.size)) hra)))); clear hxl hra hrow hx hb))
  go_loopw [5, 7, 8] (fun v5 v7 v8 wr => ∃ (P : Option Addr) (q pc at_ : Nat) (behind : Int), v5 = .slice P q pc ∧ v7 = .int .i64 behind ∧ v8 = .int .i64 (at_ : Int) ∧ at_ ≤ T.size + 1 ∧ Hid (∃ hs k b, AInv (l.map fun v => v.i) (nums T) at_ behind hs k b ∧ hs.length = q ∧ (q ≤ 2 * at_ + 1 ∧ (behind ≠ (at_ : Int) → q ≤ 2 * at_)) ∧ wr.ownsRow w.heap.size 35 2 (.slice P q pc) q (cellsG (hs.map (hitI (nums T)))) ∧ Below w.heap.size w wr ∧ wr.heap[ra]? = some (.cells (xs.map (Value.int .i64)).toArray 3 (0, 0)))) (fun _ v7 v8 _ => 2 * (T.size + 1 - (intOf v8).toNat) + (if intOf v7 = intOf v8 then 0 else 1))
  case atStart =>
    exact ⟨none, 0, 0, 0, -1, rfl, rfl, rfl, Nat.zero_le _, Lib.hid ⟨[], 0, none, AInv.begin, rfl, ⟨by omega, fun _ => by omega⟩, nilP _ _ _, HX.out.2.2.2.1, HX.out.2.1⟩⟩
  case round =>
    obtain ⟨P, q, pc, at_, behind, rfl, rfl, rfl, hat, H⟩ := hrel
    have hT1 : (T.size : Int) ≤ 1000 := by omega
    by_cases hle : at_ ≤ T.size
    · obtain ⟨tv, hto⟩ : ∃ tv, xs[at_]? = some tv := ⟨_, List.getElem?_eq_getElem (by rw [HX.out.1]; omega)⟩
      have hxa := HX.out.2.2.1 at_ hle
      have cE : wr.cell? ⟨ra, at_, none⟩ = some (.int .i64 tv) := by
        obtain ⟨_, _, _, _, _, _, _, _, hrow⟩ := H.out
        rw [cell_of_row wr ra at_ _ _ (0, 0) hrow]
        simp [hto]
      have HTO := Lib.hid (And.intro hto hxa)
      clear hto hxa
      have h1 : (at_ : Int) ≤ (T.size : Int) := by omega
      have h2 : (0 : Int) ≤ (at_ : Int) := by omega
      have h3 : (at_ : Int) < (T.size : Int) + 1 := by omega
      have hskip : (tv = -1 ∨ tv = (at_ : Int) ∧ (at_ : Int) = behind) → ∃ (P' : Option Addr) (q' pc' at' : Nat) (behind' : Int), (Value.slice P q pc = .slice P' q' pc' ∧ Value.int .i64 behind = .int .i64 behind' ∧ Value.int .i64 ((at_ : Int) + 1) = .int .i64 (at' : Int) ∧ at' ≤ T.size + 1 ∧ Hid (∃ hs k b, AInv (l.map fun v => v.i) (nums T) at' behind' hs k b ∧ hs.length = q' ∧ (q' ≤ 2 * at' + 1 ∧ (behind' ≠ (at' : Int) → q' ≤ 2 * at')) ∧ wr.ownsRow w.heap.size 35 2 (.slice P' q' pc') q' (cellsG (hs.map (hitI (nums T)))) ∧ Below w.heap.size w wr ∧ wr.heap[ra]? = some (.cells (xs.map (Value.int .i64)).toArray 3 (0, 0)))) := by
        intro hc
        obtain ⟨hs, k, b, hA, hl, hq, ho, hb, hrow⟩ := H.out
        obtain ⟨k', hA'⟩ := hA.skip (by have := HN.out; omega) HTO.out.1 HTO.out.2 hc
        exact ⟨P, q, pc, at_ + 1, behind, rfl, rfl, rfl, by omega, Lib.hid ⟨hs, k', b, hA', hl, ⟨by omega, fun _ => by omega⟩, ho, hb, hrow⟩⟩
      have HSK := Lib.hid hskip
      clear hskip
      by_cases hn1 : tv = -1
      · subst hn1
        go_wp2
        refine ⟨HSK.out (.inl rfl), by simp only [intOf]; exact less01 (by omega)⟩
      · by_cases hn2 : tv = (at_ : Int)
        · by_cases hn3 : (at_ : Int) = behind
          · have HC := Lib.hid (And.intro hn2 hn3)
            subst hn2
            subst hn3
            go_wp2
            refine ⟨HSK.out (.inr HC.out), by simp only [intOf]; exact less01 (by omega)⟩
          · subst hn2
            have hd4 : ((at_ : Int) == behind) = false := beq_eq_false_iff_ne.2 hn3
            have hd5 : decide ((at_ : Int) = behind) = false := decide_eq_false hn3
            have hn4 : ¬ ((at_ : Int) = (at_ : Int) ∧ (at_ : Int) = behind) := fun h => hn3 h.2
            have HC := Lib.hid (And.intro hn1 (And.intro hn4 hn3))
            obtain ⟨hs, k, b, hA, hl, hq, ho, hb, hrow⟩ := H.out
            obtain ⟨e, z, hz1, hz2, hz3, hz4, hA'⟩ := hA.take (by have := HN.out; omega) HTO.out.1 HTO.out.2 hn1 hn4
            have hbs := hb.size
            obtain ⟨P', pc', w4, happ, ho4, hb4, hk4⟩ := pushP 40 35 Try.underlying40 info_hit (w := wr.alloc (.cells #[.int .i64 (at_ : Int), .int .i64 (at_ : Int)] 35)) (B := w.heap.size) (row_keep ho fun i hi _ => Below.heap_alloc wr _ i hi) [((at_ : Int), (at_ : Int))] (d := wr.heap.size) (hp_new rfl) (by omega) (by simp) (by simp; omega)
            have hrow4 : w4.heap[ra]? = some (.cells (xs.map (Value.int .i64)).toArray 3 (0, 0)) := by
              have hral : ra < wr.heap.size := (Array.getElem?_eq_some_iff.1 hrow).1
              rw [hk4 ra (by simp; omega) (fun ev => row_ne_blk ho hrow (by decide) ev)]
              exact (Below.heap_alloc wr _ ra hral).trans hrow
            have hb5 : Below w.heap.size w w4 := (hb.alloc hb.size _).trans hb4
            have HAPP := Lib.hid happ
            have HNX := Lib.hid (And.intro hz1 (And.intro hz2 (And.intro hz3 (And.intro hz4 (And.intro hA' (And.intro ho4 (And.intro hb5 (And.intro hrow4 (And.intro hl hq)))))))))
            clear happ ho4 hb4 hk4 hrow4 hb5 hbs hA hl hq ho hb hrow hA' hz1 hz2 hz3 hz4 hn4
            go_wp2_with (at_builtin; refine wpList_append_run rfl (.tmp 38) (.tmp 42) 40 rfl rfl _ _ _ _ rfl rfl HAPP.out ?_)
            obtain ⟨hz1, hz2, hz3, hz4, hA', ho4, hb5, hrow4, hl, hq⟩ := HNX.out
            have hc := HC.out
            have hnl := HN.out
            refine ⟨⟨P', q + 1, pc', z, (at_ : Int), rfl, rfl, by rw [hz1], by omega, Lib.hid ⟨hs ++ [(k, e)], e, some e, hA', by simp [hl], ⟨?_, ?_⟩, ?_, hb5, hrow4⟩⟩, ?_⟩
            · by_cases hze : z = at_
              · have := hq.2 (fun h => hc.2.1 ⟨by omega, h.symm⟩); omega
              · omega
            · intro h; exact absurd hz1 h
            · rw [List.map_append, List.map_singleton, ← hz4, ← hz1]; exact ho4
            · simp only [intOf]
              by_cases hze : z = at_
              · exact less10 trivial (fun h => hc.2.1 ⟨by omega, h.symm⟩) (by omega)
              · exact less01 (by omega)
        · have hn4 : ¬ (tv = (at_ : Int) ∧ (at_ : Int) = behind) := fun h => hn2 h.1
          have HC := Lib.hid (And.intro hn1 (And.intro hn4 hn2))
          obtain ⟨hs, k, b, hA, hl, hq, ho, hb, hrow⟩ := H.out
          obtain ⟨e, z, hz1, hz2, hz3, hz4, hA'⟩ := hA.take (by have := HN.out; omega) HTO.out.1 HTO.out.2 hn1 hn4
          have hbs := hb.size
          obtain ⟨P', pc', w4, happ, ho4, hb4, hk4⟩ := pushP 40 35 Try.underlying40 info_hit (w := wr.alloc (.cells #[.int .i64 (at_ : Int), .int .i64 tv] 35)) (B := w.heap.size) (row_keep ho fun i hi _ => Below.heap_alloc wr _ i hi) [((at_ : Int), tv)] (d := wr.heap.size) (hp_new rfl) (by omega) (by simp) (by simp; omega)
          have hrow4 : w4.heap[ra]? = some (.cells (xs.map (Value.int .i64)).toArray 3 (0, 0)) := by
            have hral : ra < wr.heap.size := (Array.getElem?_eq_some_iff.1 hrow).1
            rw [hk4 ra (by simp; omega) (fun ev => row_ne_blk ho hrow (by decide) ev)]
            exact (Below.heap_alloc wr _ ra hral).trans hrow
          have hb5 : Below w.heap.size w w4 := (hb.alloc hb.size _).trans hb4
          have HAPP := Lib.hid happ
          have HNX := Lib.hid (And.intro hz1 (And.intro hz2 (And.intro hz3 (And.intro hz4 (And.intro hA' (And.intro ho4 (And.intro hb5 (And.intro hrow4 (And.intro hl hq)))))))))
          clear happ ho4 hb4 hk4 hrow4 hb5 hbs hA hl hq ho hb hrow hA' hz1 hz2 hz3 hz4 hn4
          go_wp2_with (at_builtin; refine wpList_append_run rfl (.tmp 38) (.tmp 42) 40 rfl rfl _ _ _ _ rfl rfl HAPP.out ?_)
          obtain ⟨hz1, hz2, hz3, hz4, hA', ho4, hb5, hrow4, hl, hq⟩ := HNX.out
          have hc := HC.out
          have hnl := HN.out
          refine ⟨⟨P', q + 1, pc', z, tv, rfl, rfl, by rw [hz1], by omega, Lib.hid ⟨hs ++ [(k, e)], e, some e, hA', by simp [hl], ⟨?_, ?_⟩, ?_, hb5, hrow4⟩⟩, ?_⟩
          · by_cases hze : z = at_
            · have := hq.2 (fun h => hc.2.1 ⟨by omega, h.symm⟩); omega
            · omega
          · intro h; exact absurd hz1 h
          · rw [List.map_append, List.map_singleton, ← hz4, ← hz1]; exact ho4
          · simp only [intOf]
            by_cases hze : z = at_
            · exact less10 trivial (fun h => hc.2.1 ⟨by omega, h.symm⟩) (by omega)
            · exact less01 (by omega)
    · have h1 : ¬ (at_ : Int) ≤ (T.size : Int) := by omega
      go_wp2
      go_ret
      obtain ⟨hs, k, b, hA, hl, hq, ho, hb, hrow⟩ := H.out
      exact ⟨P, q, pc, rfl, hs, hA.over (by have := HN.out; omega), ho, hb⟩
end Go.Proofs.Ytegcebgoiocakaa
