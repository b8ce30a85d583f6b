/- Texts. -/
import Derived.Test.YtaapbmdojkjphaaGreatZ02
import Derived.BigRegion
import Derived.Lib.ItoaNum
namespace Go.Proofs.YtaapbmdojkjphaaGreat
open Go Go.RowKit
set_option linter.unusedVariables false
set_option maxRecDepth 20000
theorem info_intG : (Tryz.prog.info? 3).map (fun i => (i.zero, i.size, i.bytes)) = some (some (.int .i64 0), 1, 8) := by kernel_rfl
theorem pushI_at {W w : World} {P : Option Addr} {q pc : Nat} {xs : List Int} (hown : w.ownsRow W.heap.size 3 1 (.slice P q pc) q (xs.map (.int .i64))) (hq : q ≤ 100000) (hb : Below W.heap.size W w) (x : Int) :
    ∃ P' pc' w', (Builtin.append_ #[46, 46] 46 #[.slice P q pc, .slice (some ⟨w.heap.size, 0, none⟩) 1 1]).run Tryz.prog (w.alloc (.cells #[.int .i64 x] 3)) = .ok (.slice P' (q + 1) pc') w' ∧
      w'.ownsRow W.heap.size 3 1 (.slice P' (q + 1) pc') (q + 1) ((xs ++ [x]).map (.int .i64)) ∧ Below W.heap.size W w' ∧
      ∀ g, g < w.heap.size → (Value.slice P q pc).ownBlock ≠ some g → (Value.slice P' (q + 1) pc').ownBlock ≠ some g ∧ w'.heap[g]? = w.heap[g]? := by
  obtain ⟨i0, hi, hz0, hz1, hz2⟩ := info_parts info_intG
  have hb1 := hb.alloc hb.size (.cells #[.int .i64 x] 3)
  obtain ⟨V', w', h1, h2, h3, _, h4⟩ := run_append_own_at (P := Tryz.prog) (w.alloc (.cells #[.int .i64 x] 3)) W.heap.size 46 46 3 i0 (.int .i64 0) 1 8 Tryz.underlying46 hi hz0 hz1 hz2 rfl (by decide) _ q _ (own_alloc hown _) ⟨w.heap.size, 0, none⟩ 1 1 [.int .i64 x] rfl
    (by
      intro j u hu
      rcases j with _ | j
      · injection hu with hu
        subst hu
        rw [show (⟨w.heap.size, 0, none⟩ : Addr).add 0 = ⟨w.heap.size, 0, none⟩ by rfl, cell_of_row (w.alloc (.cells #[.int .i64 x] 3)) w.heap.size 0 #[.int .i64 x] 3 (0, 0) (heap_alloc_new w _)]
        rfl
      · simp at hu) (by simp [Value.oneCell']) (by unfold maxLen; omega) (by omega) hb1.size
  have hb' : Below W.heap.size W w' := hb1.grown h3 hb1.size (by intro k hk; exact (row_lt hown hk).1)
  have hz : (w.alloc (.cells #[.int .i64 x] 3)).heap.size = w.heap.size + 1 := by simp
  have key : ∀ g, g < w.heap.size → (Value.slice P q pc).ownBlock ≠ some g → V'.ownBlock ≠ some g ∧ w'.heap[g]? = w.heap[g]? := by
    intro g hg hne
    refine ⟨fun e => ?_, ?_⟩
    · rcases h4 with h4 | h4
      · exact hne (h4 ▸ e)
      · rw [h4] at e
        injection e with e
        omega
    · rw [h3.block g (by omega) fun e => hne e.symm]
      exact Below.heap_alloc w _ g hg
  rw [show xs.map (Value.int .i64) ++ [.int .i64 x] = (xs ++ [x]).map (.int .i64) by simp] at h2
  rcases h2.2 with ⟨rfl, h0⟩ | ⟨g, cap, cur, rfl, _⟩
  · omega
  · exact ⟨_, _, w', h1, h2, hb', key⟩
end Go.Proofs.YtaapbmdojkjphaaGreat
namespace Go.Proofs.YtaapbmdojkjphaaGreat
open Go Go.RowKit
set_option linter.unusedVariables false
def endL : Int → List (Int × Int) → Int
  | lo, [] => lo
  | _, p :: s => endL (p.2 + 2) s
theorem endL_snoc (p : Int × Int) : ∀ (s : List (Int × Int)) (lo : Int), endL lo (s ++ [p]) = p.2 + 2
  | [], _ => rfl
  | _ :: s, _ => endL_snoc p s _
theorem canonF_snoc (p : Int × Int) : ∀ (s : List (Int × Int)) (lo : Int), CanonF lo (s ++ [p]) ↔ CanonF lo s ∧ endL lo s ≤ p.1 ∧ p.1 ≤ p.2 ∧ p.2 ≤ 1114111
  | [], lo => by simp [CanonF, endL]
  | q :: s, lo => by
    have ih := canonF_snoc p s (q.2 + 2)
    show (_ ∧ _ ∧ _ ∧ CanonF (q.2 + 2) (s ++ [p])) ↔ (_ ∧ _ ∧ _ ∧ CanonF (q.2 + 2) s) ∧ endL (q.2 + 2) s ≤ p.1 ∧ _
    rw [ih]
    constructor
    · rintro ⟨h1, h2, h3, h4, h5⟩
      exact ⟨⟨h1, h2, h3, h4⟩, h5⟩
    · rintro ⟨⟨h1, h2, h3, h4⟩, h5⟩
      exact ⟨h1, h2, h3, h4, h5⟩
def clip1 (p : Int × Int) : Int × Int := (max p.1 0, min p.2 1114111)
def clipL (s : List (Int × Int)) : List (Int × Int) := (s.map clip1).filter fun p => decide (p.1 ≤ p.2)
theorem clipL_length (s : List (Int × Int)) : (clipL s).length ≤ s.length := by
  unfold clipL
  exact Nat.le_trans (List.length_filter_le _ _) (by rw [List.length_map]; exact Nat.le_refl _)
theorem clipL_mem {s : List (Int × Int)} {p : Int × Int} (h : p ∈ clipL s) : 0 ≤ p.1 ∧ p.1 ≤ p.2 ∧ p.2 ≤ 1114111 := by
  unfold clipL at h
  rw [List.mem_filter, List.mem_map] at h
  obtain ⟨⟨q, _, rfl⟩, h⟩ := h
  have h1 := of_decide_eq_true h
  unfold clip1 at h1 ⊢
  dsimp only at h1 ⊢
  omega
theorem clipL_snoc (s : List (Int × Int)) (p : Int × Int) : clipL (s ++ [p]) = clipL s ++ (if max p.1 0 ≤ min p.2 1114111 then [(max p.1 0, min p.2 1114111)] else []) := by
  unfold clipL
  rw [List.map_append, List.filter_append]
  congr 1
  by_cases h : max p.1 0 ≤ min p.2 1114111
  · rw [if_pos h]; simp [clip1, h]
  · rw [if_neg h]; simp [clip1, h]
theorem clipL_has (s : List (Int × Int)) (r : Int) : hasL (clipL s) r = hasL s r := by
  apply Bool.eq_iff_iff.2
  rw [hasL_iff, hasL_iff]
  constructor
  · rintro ⟨p, hp, h1, h2, h3, h4⟩
    unfold clipL at hp
    rw [List.mem_filter, List.mem_map] at hp
    obtain ⟨⟨q, hq, rfl⟩, _⟩ := hp
    unfold clip1 at h1 h2
    dsimp only at h1 h2
    exact ⟨q, hq, by omega, by omega, h3, h4⟩
  · rintro ⟨p, hp, h1, h2, h3, h4⟩
    refine ⟨clip1 p, ?_, ?_, ?_, h3, h4⟩
    · unfold clipL
      rw [List.mem_filter]
      refine ⟨List.mem_map.2 ⟨p, hp, rfl⟩, ?_⟩
      unfold clip1
      exact decide_eq_true (by dsimp only; omega)
    · unfold clip1; dsimp only; omega
    · unfold clip1; dsimp only; omega
theorem hasL_perm {a b : List (Int × Int)} (h : a.Perm b) (r : Int) : hasL a r = hasL b r := by
  apply Bool.eq_iff_iff.2
  rw [hasL_iff, hasL_iff]
  constructor
  · rintro ⟨p, hp, h1⟩; exact ⟨p, h.mem_iff.1 hp, h1⟩
  · rintro ⟨p, hp, h1⟩; exact ⟨p, h.mem_iff.2 hp, h1⟩
def Half (t : List (Int × Int)) (k : Nat) (u : List (Int × Int)) : Prop :=
  Canon u ∧ (∀ r, hasL u r = hasL (t.take k) r) ∧ (∀ q, u.getLast? = some q → ∀ j, k ≤ j → j < t.length → q.1 ≤ (t.getD j (0, 0)).1) ∧ u.length ≤ k
theorem half_zero (t : List (Int × Int)) : Half t 0 [] := ⟨trivial, fun r => rfl, (fun q h => by cases h), Nat.le_refl _⟩
section
variable {t u : List (Int × Int)} {k : Nat}
theorem take_snoc (hk : k < t.length) : t.take (k + 1) = t.take k ++ [t.getD k (0, 0)] := by
  rw [List.take_succ_eq_append_getElem hk]
  simp [List.getD, List.getElem?_eq_getElem hk]
theorem getD_in (j : Nat) (hj : j < t.length) : t.getD j (0, 0) = t[j] := by simp [List.getD, List.getElem?_eq_getElem hj]
theorem getD_le (hs : t.Pairwise fun a b => a.1 ≤ b.1) (j : Nat) (hkj : k ≤ j) (hj : j < t.length) : (t.getD k (0, 0)).1 ≤ (t.getD j (0, 0)).1 := by
  rcases Nat.lt_or_ge k j with h | h
  · rw [getD_in k (by omega), getD_in j hj]
    exact List.pairwise_iff_getElem.1 hs k j (by omega) hj h
  · have : k = j := by omega
    rw [this]
    exact Int.le_refl _
theorem half_push (h : Half t k u) (hk : k < t.length) (hs : t.Pairwise fun a b => a.1 ≤ b.1) (hw : ∀ p ∈ t, 0 ≤ p.1 ∧ p.1 ≤ p.2 ∧ p.2 ≤ 1114111) (hap : ∀ q, u.getLast? = some q → q.2 + 1 < (t.getD k (0, 0)).1) : Half t (k + 1) (u ++ [t.getD k (0, 0)]) := by
  obtain ⟨h1, h2, h3, h4⟩ := h
  have hm : t.getD k (0, 0) ∈ t := by rw [getD_in k hk]; exact List.getElem_mem _
  have hp := hw _ hm
  refine ⟨?_, fun r => ?_, fun q hq j hkj hj => ?_, by rw [List.length_append]; simp; omega⟩
  · refine (canonF_snoc _ u 0).2 ⟨h1, ?_, hp.2⟩
    rcases List.eq_nil_or_concat u with rfl | ⟨v, q, rfl⟩
    · exact hp.1
    · rw [List.concat_eq_append] at hap ⊢
      rw [endL_snoc]
      have := hap q (by simp)
      omega
  · rw [take_snoc hk, hasL_append, hasL_append, h2]
  · have : q = t.getD k (0, 0) := by simpa using hq.symm
    rw [this]
    exact getD_le hs j (by omega) hj
theorem half_join {v : List (Int × Int)} {q : Int × Int} (h : Half t k (v ++ [q])) (hk : k < t.length) (hw : ∀ p ∈ t, 0 ≤ p.1 ∧ p.1 ≤ p.2 ∧ p.2 ≤ 1114111) (ht : (t.getD k (0, 0)).1 ≤ q.2 + 1) : Half t (k + 1) (v ++ [(q.1, max q.2 (t.getD k (0, 0)).2)]) := by
  obtain ⟨h1, h2, h3, h4⟩ := h
  have hm : t.getD k (0, 0) ∈ t := by rw [getD_in k hk]; exact List.getElem_mem _
  have hp := hw _ hm
  have hq := h3 q (by simp) k (Nat.le_refl _) hk
  obtain ⟨c1, c2, c3, c4⟩ := (canonF_snoc q v 0).1 h1
  have hts : ∀ r, hasL (t.take (k + 1)) r = (hasL (t.take k) r || hasL [t.getD k (0, 0)] r) := fun r => by rw [take_snoc hk, hasL_append]
  obtain ⟨p, hpe⟩ : ∃ p, p = t.getD k (0, 0) := ⟨_, rfl⟩
  rw [← hpe] at hts hp hq ht ⊢
  clear hpe hm
  refine ⟨?_, fun r => ?_, fun q' hq' j hkj hj => ?_, by rw [List.length_append] at h4 ⊢; simp at h4 ⊢; omega⟩
  · refine (canonF_snoc _ v 0).2 ⟨c1, c2, ?_, ?_⟩ <;> dsimp only <;> omega
  · have e := h2 r
    rw [hts, ← e, hasL_append, hasL_append, Bool.or_assoc]
    congr 1
    rw [hasL_cons, hasL_cons, hasL_cons, hasL_nil, Bool.or_false, Bool.or_false, Bool.or_false, ← Bool.decide_or]
    apply decide_eq_decide.2
    dsimp only
    omega
  · have e : q' = (q.1, max q.2 p.2) := by simpa using hq'.symm
    rw [e]
    exact h3 q (by simp) j (by omega) hj
end
end Go.Proofs.YtaapbmdojkjphaaGreat
namespace Go.Proofs.YtaapbmdojkjphaaGreat
open Go Go.RowKit
set_option linter.unusedVariables false
set_option maxRecDepth 20000
def clampI (z : Int) : Int := if z < -2 then -2 else if 1114113 < z then 1114113 else z
def nearT (z : Int) : Nat → List Int
  | 0 => []
  | j + 1 => nearT z j ++ (if 0 ≤ clampI z + ((j : Int) - 1) ∧ clampI z + ((j : Int) - 1) ≤ 1114111 then [clampI z + ((j : Int) - 1)] else [])
def bothT (p : Int × Int) : Nat → List Int
  | 0 => []
  | 1 => nearT p.1 3
  | _ => nearT p.1 3 ++ nearT p.2 3
def endsL (s : List (Int × Int)) : List Int := [0, 1114111] ++ s.flatMap fun p => bothT p 2
theorem endsL_snoc (s : List (Int × Int)) (p : Int × Int) : endsL (s ++ [p]) = endsL s ++ bothT p 2 := by
  unfold endsL
  rw [List.flatMap_append, ← List.append_assoc]
  simp
theorem nearT_yes {z : Int} {j : Nat} (h : 0 ≤ clampI z + ((j : Int) - 1) ∧ clampI z + ((j : Int) - 1) ≤ 1114111) : nearT z (j + 1) = nearT z j ++ [clampI z + ((j : Int) - 1)] := by rw [nearT, if_pos h]
theorem nearT_no {z : Int} {j : Nat} (h : ¬ (0 ≤ clampI z + ((j : Int) - 1) ∧ clampI z + ((j : Int) - 1) ≤ 1114111)) : nearT z (j + 1) = nearT z j := by rw [nearT, if_neg h, List.append_nil]
set_option maxHeartbeats 4000000 in
theorem rends_eq (s : List (Int × Int)) (A : Option Addr) (n c : Nat) (W : World) (hr : RowG W A n s) (hn : n ≤ 1000) :
    Calls Tryz.prog 98 #[.slice A n c] W fun e w' => ∃ (P : Option Addr) (q pc : Nat), e = .returned (.slice P q pc) ∧ w'.ownsRow W.heap.size 3 1 (.slice P q pc) q ((endsL s).map (.int .i64)) ∧ Below W.heap.size W w' ∧ q ≤ 2 + 6 * n := by
  have HR := Lib.hid hr; clear hr
  go_enter Tryz.func98, Tryz.ntmps98
  go_wp2
  go_loopw [3, 4] (fun vo vi wr => ∃ (k q pc : Nat) (P : Option Addr) (xs : List Int), vo = .slice P q pc ∧ vi = .int .i64 (k : Int) ∧ k ≤ n ∧ q ≤ 2 + 6 * k ∧ Hid (wr.ownsRow W.heap.size 3 1 (.slice P q pc) q (xs.map (.int .i64)) ∧ Below W.heap.size W wr ∧ xs = endsL (s.take k))) (fun _ vi _ => n - (intOf vi).toNat)
  case atStart =>
    exact ⟨0, 2, 2, _, [0, 1114111], rfl, rfl, Nat.zero_le _, by omega, Lib.hid ⟨⟨rfl, .inr ⟨W.heap.size, 2, _, rfl, Nat.le_refl _, heap_alloc_new W _, Nat.le_refl _, by unfold maxLen; omega, rfl, rfl⟩⟩, (Below.refl _ _).alloc (Nat.le_refl _) _, rfl⟩⟩
  case round =>
    obtain ⟨k, q, pc, P, xs, rfl, rfl, hk, hq, HO⟩ := hrel
    by_cases hlt : k < n
    · obtain ⟨b, o, rfl, hbw, hc⟩ := HR.out.2 (by omega)
      obtain ⟨c0, c1⟩ := hc k hlt
      have d0 := (HO.out.2.1.cell (p := ⟨b, o + k * 2, none⟩) hbw).trans c0
      have d1 := (HO.out.2.1.cell (p := ⟨b, o + k * 2 + 1, none⟩) hbw).trans c1
      have hts := take_snoc (t := s) (k := k) (by have := HR.out.1; omega)
      obtain ⟨p, hp⟩ : ∃ p, p = s.getD k (0, 0) := ⟨_, rfl⟩
      rw [← hp] at d0 d1 hts
      obtain ⟨x, y⟩ := p
      have HTS := Lib.hid hts
      clear hts
      clear hc c0 c1 hp
      dsimp only at d0 d1
      go_wp2
      go_region
      obtain ⟨W1, hW1⟩ : ∃ W1, W1 = (wr.alloc (.cells #[.int .i64 x, .int .i64 y] 3)).drew := ⟨_, rfl⟩
      rw [← hW1]
      obtain ⟨g, hg⟩ : ∃ g, g = wr.heap.size := ⟨_, rfl⟩
      rw [← hg]
      have hb1 : Below wr.heap.size wr W1 := by rw [hW1]; exact ((Below.refl _ _).alloc (Nat.le_refl _) _).drew
      have hblk : W1.heap[g]? = some (.cells #[.int .i64 x, .int .i64 y] 3 (0, 0)) := by rw [hW1, hg]; exact heap_alloc_new wr _
      have hne : (Value.slice P q pc).ownBlock ≠ some g := fun e => by have := (row_lt HO.out.1 e).2; omega
      have HO1 := Lib.hid (And.intro (own_kept HO.out.1 hb1) (And.intro (HO.out.2.1.trans (Below.mono hb1 HO.out.2.1.size)) (And.intro hblk (And.intro hne HO.out.2.2))))
      clear hW1 hg hb1 hblk hne d0 d1
      go_wp2
      go_loopw [3, 6] (fun vo vt wt => ∃ (t q2 pc2 : Nat) (P2 : Option Addr) (xs2 : List Int), vo = .slice P2 q2 pc2 ∧ vt = .int .i64 (t : Int) ∧ t ≤ 2 ∧ q2 ≤ 2 + 6 * k + 3 * t ∧ Hid (wt.ownsRow W.heap.size 3 1 (.slice P2 q2 pc2) q2 (xs2.map (.int .i64)) ∧ Below W.heap.size W wt ∧ wt.heap[g]? = some (.cells #[.int .i64 x, .int .i64 y] 3 (0, 0)) ∧ (Value.slice P2 q2 pc2).ownBlock ≠ some g ∧ xs2 = endsL (s.take k) ++ bothT (x, y) t)) (fun _ vt _ => 2 - (intOf vt).toNat)
      case atStart => exact ⟨0, q, pc, P, xs, rfl, rfl, by omega, by omega, Lib.hid ⟨HO1.out.1, HO1.out.2.1, HO1.out.2.2.1, HO1.out.2.2.2.1, by rw [HO1.out.2.2.2.2, bothT, List.append_nil]⟩⟩
      case round =>
        obtain ⟨t, q2, pc2, P2, xs2, rfl, rfl, ht, hq2, H2⟩ := hrel
        by_cases htl : t < 2
        · obtain ⟨z, hz, hbz⟩ : ∃ z, (#[.int .i64 x, .int .i64 y] : Array Value)[t]? = some (.int .i64 z) ∧ bothT (x, y) (t + 1) = bothT (x, y) t ++ nearT z 3 := by
            rcases (show t = 0 ∨ t = 1 by omega) with rfl | rfl
            · exact ⟨x, rfl, rfl⟩
            · exact ⟨y, rfl, rfl⟩
          have HBZ := Lib.hid hbz
          clear hbz
          have HZ := Lib.hid hz
          clear hz
          have d3 : (t : Int) < 2 := by omega
          go_wp2
          go_loopw [3, 7] (fun vo vd wd => ∃ (j q3 pc3 : Nat) (P3 : Option Addr) (xs3 : List Int), vo = .slice P3 q3 pc3 ∧ vd = .int .i64 ((j : Int) - 1) ∧ j ≤ 3 ∧ q3 ≤ 2 + 6 * k + 3 * t + j ∧ Hid (wd.ownsRow W.heap.size 3 1 (.slice P3 q3 pc3) q3 (xs3.map (.int .i64)) ∧ Below W.heap.size W wd ∧ wd.heap[g]? = some (.cells #[.int .i64 x, .int .i64 y] 3 (0, 0)) ∧ (Value.slice P3 q3 pc3).ownBlock ≠ some g ∧ xs3 = xs2 ++ nearT z j)) (fun _ vd _ => 3 - (intOf vd + 1).toNat)
          case atStart => exact ⟨0, q2, pc2, P2, xs2, rfl, rfl, by omega, by omega, Lib.hid ⟨H2.out.1, H2.out.2.1, H2.out.2.2.1, H2.out.2.2.2.1, by rw [nearT, List.append_nil]⟩⟩
          case round =>
            obtain ⟨j, q3, pc3, P3, xs3, rfl, rfl, hj, hq3, H3⟩ := hrel
            obtain ⟨d, hd⟩ : ∃ d : Int, d = (j : Int) - 1 := ⟨_, rfl⟩
            rw [← hd]
            by_cases hjl : j < 3
            · have hd1 : d ≤ 1 := by omega
              have hd0 : -1 ≤ d := by omega
              have HD := Lib.hid hd
              clear hd
              have cz := (cell_of_row _ g t _ _ (0, 0) H3.out.2.2.1).trans HZ.out
              have w1 : ∀ v : Int, -10 ≤ v → v ≤ 10000000 → IntKind.i64.wrap v = v := fun v h1 h2 => by rw [IntKind.wrap_i64]; omega
              rcases (show z < -2 ∨ (-2 ≤ z ∧ z ≤ 1114113) ∨ 1114113 < z by omega) with hz | ⟨hz1, hz2⟩ | hz
              · have n1 : ¬ (0 ≤ -2 + d) := by omega
                clear w1
                go_wp2
                exact ⟨⟨j + 1, q3, pc3, P3, xs3, rfl, by congr 1; have := HD.out; omega, by omega, by omega, Lib.hid ⟨H3.out.1, H3.out.2.1, H3.out.2.2.1, H3.out.2.2.2.1, by rw [nearT_no (by unfold clampI; have := HD.out; (repeat' split) <;> omega)]; exact H3.out.2.2.2.2⟩⟩, by simp [intOf]; have := HD.out; omega⟩
              · have n1 : ¬ z < -2 := by omega
                have n2 : ¬ 1114113 < z := by omega
                by_cases hv0 : 0 ≤ z + d
                · by_cases hv1 : z + d ≤ 1114111
                  · obtain ⟨P4, pc4, w4, happ, ho4, hb4, hk4⟩ := pushI_at H3.out.1 (by omega) H3.out.2.1 (z + d)
                    have hgl := (Array.getElem?_eq_some_iff.1 H3.out.2.2.1).1
                    have H4 := Lib.hid (And.intro ho4 (And.intro hb4 (And.intro ((hk4 g hgl H3.out.2.2.2.1).2.trans H3.out.2.2.1) (And.intro (hk4 g hgl H3.out.2.2.2.1).1 (show xs3 ++ [z + d] = xs2 ++ nearT z (j + 1) by rw [nearT_yes (by unfold clampI; have := HD.out; (repeat' split) <;> omega), H3.out.2.2.2.2, List.append_assoc, show clampI z + ((j : Int) - 1) = z + d by unfold clampI; have := HD.out; (repeat' split) <;> omega])))))
                    have HA := Lib.hid happ
                    clear happ ho4 hb4 hk4 hgl w1
                    go_wp2_with (at_builtin; refine wpList_append_run rfl _ _ 46 rfl rfl _ _ _ _ rfl rfl HA.out ?_)
                    exact ⟨⟨j + 1, q3 + 1, pc4, P4, xs3 ++ [z + d], rfl, by congr 1; have := HD.out; omega, by omega, by omega, H4⟩, by simp [intOf]; have := HD.out; omega⟩
                  · clear w1
                    go_wp2
                    exact ⟨⟨j + 1, q3, pc3, P3, xs3, rfl, by congr 1; have := HD.out; omega, by omega, by omega, Lib.hid ⟨H3.out.1, H3.out.2.1, H3.out.2.2.1, H3.out.2.2.2.1, by rw [nearT_no (by unfold clampI; have := HD.out; (repeat' split) <;> omega)]; exact H3.out.2.2.2.2⟩⟩, by simp [intOf]; have := HD.out; omega⟩
                · clear w1
                  go_wp2
                  exact ⟨⟨j + 1, q3, pc3, P3, xs3, rfl, by congr 1; have := HD.out; omega, by omega, by omega, Lib.hid ⟨H3.out.1, H3.out.2.1, H3.out.2.2.1, H3.out.2.2.2.1, by rw [nearT_no (by unfold clampI; have := HD.out; (repeat' split) <;> omega)]; exact H3.out.2.2.2.2⟩⟩, by simp [intOf]; have := HD.out; omega⟩
              · have n1 : ¬ z < -2 := by omega
                have n2 : ¬ (1114113 + d ≤ 1114111) := by omega
                have n3 : 0 ≤ 1114113 + d := by omega
                clear w1
                go_wp2
                exact ⟨⟨j + 1, q3, pc3, P3, xs3, rfl, by congr 1; have := HD.out; omega, by omega, by omega, Lib.hid ⟨H3.out.1, H3.out.2.1, H3.out.2.2.1, H3.out.2.2.2.1, by rw [nearT_no (by unfold clampI; have := HD.out; (repeat' split) <;> omega)]; exact H3.out.2.2.2.2⟩⟩, by simp [intOf]; have := HD.out; omega⟩
            · have hj3 : j = 3 := by omega
              subst hj3
              have hd2 : d = 2 := by omega
              subst hd2
              go_wp2
              exact ⟨⟨t + 1, q3, pc3, P3, xs3, rfl, by go_num, by omega, by omega, Lib.hid ⟨H3.out.1, H3.out.2.1, H3.out.2.2.1, H3.out.2.2.2.1, by rw [HBZ.out, ← List.append_assoc, ← H2.out.2.2.2.2]; exact H3.out.2.2.2.2⟩⟩, by simp [intOf]; omega⟩
        · have ht2 : t = 2 := by omega
          subst ht2
          go_wp2
          exact ⟨⟨k + 1, q2, pc2, P2, xs2, rfl, by go_num, by omega, by omega, Lib.hid ⟨H2.out.1, H2.out.2.1, by rw [HTS.out, endsL_snoc]; exact H2.out.2.2.2.2⟩⟩, by simp [intOf]; omega⟩
    · go_wp2
      go_ret
      have hkn : k = n := by omega
      have hx := HO.out.2.2
      rw [List.take_of_length_le (by have := HR.out.1; omega)] at hx
      exact ⟨P, q, pc, rfl, hx ▸ HO.out.1, HO.out.2.1, by omega⟩
end Go.Proofs.YtaapbmdojkjphaaGreat
namespace Go.Proofs.YtaapbmdojkjphaaGreat
open Go Go.RowKit
set_option linter.unusedVariables false
set_option maxRecDepth 20000
theorem rowI_upto {k : IntKind} {w : World} {A : Option Addr} {n : Nat} {xs : List Int} (h : RowI k w A n xs) {m : Nat} (hm : m ≤ n) : RowI k w A m (xs.take m) := by
  refine ⟨by rw [List.length_take, h.1]; omega, fun h0 => ?_⟩
  obtain ⟨b, o, hA, hlt, hc⟩ := h.2 (by omega)
  refine ⟨b, o, hA, hlt, fun j hj => ?_⟩
  rw [hc j (by omega)]
  simp [List.getD, hj]
theorem rowI_from {k : IntKind} {w : World} {A : Option Addr} {n : Nat} {xs : List Int} (h : RowI k w A n xs) {m : Nat} (hm : m ≤ n) : RowI k w (Option.map (fun x => x.add m) A) (n - m) (xs.drop m) := by
  refine ⟨by rw [List.length_drop, h.1], fun h0 => ?_⟩
  obtain ⟨b, o, rfl, hlt, hc⟩ := h.2 (by omega)
  refine ⟨b, o + m, by simp [Addr.add], hlt, fun j hj => ?_⟩
  rw [show o + m + j = o + (m + j) by omega, hc (m + j) (by omega)]
  simp [List.getD]
theorem rowI_keep {k : IntKind} {w w' : World} {A : Option Addr} {n : Nat} {xs : List Int} (h : RowI k w A n xs) (hk : ∀ b o, A = some ⟨b, o, none⟩ → b < w.heap.size → w'.heap[b]? = w.heap[b]?) : RowI k w' A n xs := by
  refine ⟨h.1, fun h0 => ?_⟩
  obtain ⟨b, o, hA, hlt, hc⟩ := h.2 h0
  have hh := hk b o hA hlt
  have hlt' : b < w'.heap.size := (Array.getElem?_eq_some_iff.1 (hh.trans (Array.getElem?_eq_getElem hlt))).1
  refine ⟨b, o, hA, hlt', fun j hj => ?_⟩
  rw [← hc j hj]
  simp only [World.cell?, hh]
theorem appI_at {W w : World} {P : Option Addr} {q pc : Nat} {xs : List Int} (hown : w.ownsRow W.heap.size 3 1 (.slice P q pc) q (xs.map (.int .i64))) {A : Option Addr} {m c : Nat} {ys : List Int} (hr : RowI .i64 w A m ys) (hA : A = none → m = 0 ∧ c = 0) (hq : q ≤ 100000) (hm : m ≤ 100000) (hb : Below W.heap.size W w) :
    ∃ P' pc' w', (Builtin.append_ #[46, 46] 46 #[.slice P q pc, .slice A m c]).run Tryz.prog w = .ok (.slice P' (q + m) pc') w' ∧
      w'.ownsRow W.heap.size 3 1 (.slice P' (q + m) pc') (q + m) ((xs ++ ys).map (.int .i64)) ∧ Below W.heap.size W w' ∧
      ∀ g, g < w.heap.size → (Value.slice P q pc).ownBlock ≠ some g → (Value.slice P' (q + m) pc').ownBlock ≠ some g ∧ w'.heap[g]? = w.heap[g]? := by
  obtain ⟨i0, hi, hz0, hz1, hz2⟩ := info_parts info_intG
  rw [List.map_append]
  rcases A with _ | ad
  · obtain ⟨rfl, rfl⟩ := hA rfl
    have hy : ys = [] := List.eq_nil_of_length_eq_zero hr.1
    subst hy
    rw [List.map_nil, List.append_nil]
    exact ⟨P, pc, w, run_append_owned_none (P := Tryz.prog) w W.heap.size 46 46 3 i0 1 Tryz.underlying46 hi _ q _ hown, hown, hb, fun g _ hne => ⟨hne, rfl⟩⟩
  · have hcells : ∀ j u, (ys.map (Value.int .i64))[j]? = some u → w.cell? (ad.add j) = some u := by
      intro j u hu
      rw [List.getElem?_map] at hu
      obtain ⟨y, hy, rfl⟩ := Option.map_eq_some_iff.1 hu
      have hj : j < m := by have := (List.getElem?_eq_some_iff.1 hy).1; rw [hr.1] at this; exact this
      obtain ⟨b, o, hA, _, hc⟩ := hr.2 (by omega)
      injection hA with hA
      subst hA
      rw [show (⟨b, o, none⟩ : Addr).add j = ⟨b, o + j, none⟩ by unfold Addr.add; split <;> simp_all, hc j hj]
      simp [List.getD, hy]
    obtain ⟨V', w', h1, h2, h3, _, h4⟩ := run_append_own_at (P := Tryz.prog) w W.heap.size 46 46 3 i0 (.int .i64 0) 1 8 Tryz.underlying46 hi hz0 hz1 hz2 rfl (by decide) _ q _ hown ad m c (ys.map (.int .i64)) (by rw [List.length_map, hr.1, Nat.mul_one]) hcells
      (by intro u hu; obtain ⟨y, _, rfl⟩ := List.mem_map.1 hu; rfl) (by unfold maxLen; omega) (by omega) hb.size
    have hb' : Below W.heap.size W w' := hb.grown h3 hb.size (by intro k hk; exact (row_lt hown hk).1)
    have key : ∀ g, g < w.heap.size → (Value.slice P q pc).ownBlock ≠ some g → V'.ownBlock ≠ some g ∧ w'.heap[g]? = w.heap[g]? := by
      intro g hg hne
      refine ⟨fun e => ?_, h3.block g hg fun e => hne e.symm⟩
      rcases h4 with h4 | h4
      · exact hne (h4 ▸ e)
      · rw [h4] at e
        injection e with e
        omega
    rcases h2.2 with ⟨rfl, h0⟩ | ⟨g, cap, cur, rfl, _⟩
    · rw [h0] at h2 ⊢
      exact ⟨none, 0, w', h1, h2, hb', key⟩
    · exact ⟨_, _, w', h1, h2, hb', key⟩
theorem ownI_nil (w : World) (B : Nat) : w.ownsRow B 3 1 (.slice none 0 0) 0 (([] : List Int).map (.int .i64)) := World.ownsRow_nil _ _ _ _
theorem ownI_row {w : World} {B : Nat} {P : Option Addr} {q pc : Nat} {xs : List Int} (h : w.ownsRow B 3 1 (.slice P q pc) q (xs.map (.int .i64))) : RowI .i64 w P q xs ∧ q ≤ pc ∧ pc ≤ maxLen ∧ (P = none → q = 0 ∧ pc = 0) ∧ ∀ b o, P = some ⟨b, o, none⟩ → (Value.slice P q pc).ownBlock = some b := by
  obtain ⟨A, c, e, h1, h2, h3⟩ := row_of_own h
  injection e with e1 e2 e3
  subst e1; subst e3
  refine ⟨h1, h2, h3, fun hP => ?_, fun b o hP => ?_⟩
  · subst hP
    rcases h.2 with ⟨e, h0⟩ | ⟨g, cap, cur, e, _⟩
    · injection e with _ _ e3
      exact ⟨h0, e3⟩
    · injection e with e1 _ _
      cases e1
  · subst hP
    rcases h.2 with ⟨e, h0⟩ | ⟨g, cap, cur, e, _⟩
    · injection e with e1 _ _
      cases e1
    · injection e with e1 _ _
      injection e1 with e1
      injection e1 with e1 _ _
      subst e1
      rfl
theorem ownI_kept {w w' : World} {B : Nat} {v : Value} {n : Nat} {xs : List Value} (h : w.ownsRow B 3 1 v n xs) (hb : Below w.heap.size w w') : w'.ownsRow B 3 1 v n xs := own_kept h hb
end Go.Proofs.YtaapbmdojkjphaaGreat
namespace Go.Proofs.YtaapbmdojkjphaaGreat
open Go Go.RowKit
set_option linter.unusedVariables false
inductive Wood where
  | nil
  | cons (op : Int) (set : List (Int × Int)) (mn mx : Int) (kids next : Wood)
namespace Wood
def len : Wood → Nat
  | nil => 0
  | cons _ _ _ _ _ x => x.len + 1
def size : Wood → Nat
  | nil => 0
  | cons _ _ _ _ k x => 1 + k.size + x.size
def app : Wood → Wood → Wood
  | nil, b => b
  | cons o s a z k x, b => cons o s a z k (x.app b)
def nth : Wood → Nat → Wood
  | nil, _ => nil
  | cons o s a z k _, 0 => cons o s a z k nil
  | cons _ _ _ _ _ x, j + 1 => x.nth j
def take : Wood → Nat → Wood
  | nil, _ => nil
  | _, 0 => nil
  | cons o s a z k x, j + 1 => cons o s a z k (x.take j)
def same : Wood → Wood → Bool
  | nil, nil => true
  | cons o s a z k x, cons o' s' a' z' k' x' => (o == o' && (a == a' && (z == z' && (s == s' && (k.same k' && x.same x')))))
  | _, _ => false
def wide : Wood → Nat
  | nil => 0
  | cons _ s _ _ k x => max (max k.len s.length) (max k.wide x.wide)
theorem take_zero : ∀ (a : Wood), a.take 0 = nil
  | nil => rfl
  | cons .. => rfl
theorem len_app : ∀ a b : Wood, (a.app b).len = a.len + b.len
  | nil, b => by simp [app, len]
  | cons _ _ _ _ k x, b => by simp only [app, len]; rw [len_app x b]; omega
theorem app_nil : ∀ a : Wood, a.app nil = a
  | nil => rfl
  | cons _ _ _ _ k x => by simp only [app]; rw [app_nil x]
theorem app_assoc : ∀ a b c : Wood, (a.app b).app c = a.app (b.app c)
  | nil, _, _ => rfl
  | cons _ _ _ _ _ x, b, c => by simp only [app]; rw [app_assoc x b c]
theorem one_of_len : ∀ {a : Wood}, a.len = 1 → ∃ o s x z k, a = cons o s x z k nil
  | nil, h => by simp [len] at h
  | cons o s x z k nil, _ => ⟨o, s, x, z, k, rfl⟩
  | cons _ _ _ _ _ (cons ..), h => by simp [len] at h
end Wood
def strB (l : List UInt8) : ByteArray := ⟨l.toArray⟩
end Go.Proofs.YtaapbmdojkjphaaGreat
namespace Go.Proofs.YtaapbmdojkjphaaGreat
open Go Go.RowKit
set_option linter.unusedVariables false
set_option maxRecDepth 20000
def nodeV (op : Int) (A : Option Addr) (ns cs : Nat) (mn mx : Int) (D : Option Addr) (nk ck : Nat) : List Value :=
  [.int .i64 op, .slice A ns cs, .int .i64 mn, .int .i64 mx, .slice D nk ck]
def RowF (F : Nat → Prop) (w : World) (A : Option Addr) (n : Nat) (s : List (Int × Int)) : Prop := RowG w A n s ∧ ∀ b o, 0 < n → A = some ⟨b, o, none⟩ → F b
def RowCap (F : Nat → Prop) (w : World) (A : Option Addr) (n : Nat) (s : List (Int × Int)) (nk ck : Nat) : Prop := RowF F w A n s ∧ nk ≤ ck
def WoodAt (F : Nat → Prop) (w : World) : Wood → Nat → Nat → Prop
  | .nil, _, _ => True
  | .cons op s mn mx k x, b, o =>
    (∃ (A D : Option Addr) (ns cs nk ck : Nat), (∀ j v, (nodeV op A ns cs mn mx D nk ck)[j]? = some v → w.cell? ⟨b, o + j, none⟩ = some v) ∧ RowCap F w A ns s nk ck ∧ k.len = nk ∧ (0 < nk → ∃ b' o', D = some ⟨b', o', none⟩ ∧ F b' ∧ b' < w.heap.size ∧ WoodAt F w k b' o')) ∧ WoodAt F w x b (o + 5)
def KidsAt (F : Nat → Prop) (w : World) (D : Option Addr) (nk : Nat) (k : Wood) : Prop :=
  k.len = nk ∧ (0 < nk → ∃ b o, D = some ⟨b, o, none⟩ ∧ F b ∧ b < w.heap.size ∧ WoodAt F w k b o)
def NodeIn (F : Nat → Prop) (w : World) (v : Value) (T : Wood) : Prop :=
  ∃ (op : Int) (s : List (Int × Int)) (mn mx : Int) (k : Wood) (A D : Option Addr) (ns cs nk ck : Nat), T = .cons op s mn mx k .nil ∧ v = .agg #[.int .i64 op, .slice A ns cs, .int .i64 mn, .int .i64 mx, .slice D nk ck] ∧ RowCap F w A ns s nk ck ∧ KidsAt F w D nk k
section
variable {F F' : Nat → Prop} {w w' : World}
theorem RowF.keep {A : Option Addr} {n : Nat} {s : List (Int × Int)} (h : RowF F w A n s) (hs : w.heap.size ≤ w'.heap.size) (hk : ∀ b, F b → b < w.heap.size → w'.heap[b]? = w.heap[b]?) : RowF F w' A n s := by
  refine ⟨⟨h.1.1, fun hn => ?_⟩, h.2⟩
  obtain ⟨b, o, hA, hb, hc⟩ := h.1.2 hn
  have hh := hk b (h.2 b o hn hA) hb
  have hcell : ∀ j, w'.cell? ⟨b, j, none⟩ = w.cell? ⟨b, j, none⟩ := fun j => by simp only [World.cell?, hh]
  refine ⟨b, o, hA, by omega, fun j hj => ?_⟩
  rw [hcell, hcell]
  exact hc j hj
theorem RowF.mono {A : Option Addr} {n : Nat} {s : List (Int × Int)} (h : RowF F w A n s) (hf : ∀ b, F b → F' b) : RowF F' w A n s := ⟨h.1, fun b o hn hA => hf b (h.2 b o hn hA)⟩
theorem RowCap.keep {A : Option Addr} {n nk ck : Nat} {s : List (Int × Int)} (h : RowCap F w A n s nk ck) (hs : w.heap.size ≤ w'.heap.size) (hk : ∀ b, F b → b < w.heap.size → w'.heap[b]? = w.heap[b]?) : RowCap F w' A n s nk ck := ⟨h.1.keep hs hk, h.2⟩
theorem RowCap.mono {A : Option Addr} {n nk ck : Nat} {s : List (Int × Int)} (h : RowCap F w A n s nk ck) (hf : ∀ b, F b → F' b) : RowCap F' w A n s nk ck := ⟨h.1.mono hf, h.2⟩
theorem WoodAt.keep (hs : w.heap.size ≤ w'.heap.size) (hk : ∀ b, F b → b < w.heap.size → w'.heap[b]? = w.heap[b]?) : ∀ {T : Wood} {b o : Nat}, WoodAt F w T b o → (T.len = 0 ∨ (F b ∧ b < w.heap.size)) → WoodAt F w' T b o
  | .nil, _, _, _, _ => trivial
  | .cons op s mn mx k x, b, o, ⟨⟨A, D, ns, cs, nk, ck, h1, h2, h3, h4⟩, h5⟩, hb => by
    have hb : F b ∧ b < w.heap.size := by
      rcases hb with hb | hb
      · simp [Wood.len] at hb
      · exact hb
    have hh := hk b hb.1 hb.2
    have hcell : ∀ j, w'.cell? ⟨b, j, none⟩ = w.cell? ⟨b, j, none⟩ := fun j => by simp only [World.cell?, hh]
    refine ⟨⟨A, D, ns, cs, nk, ck, fun j v hv => by rw [hcell]; exact h1 j v hv, h2.keep hs hk, h3, fun hn => ?_⟩, WoodAt.keep hs hk h5 (.inr hb)⟩
    obtain ⟨b', o', hD, hF, hlt, hw⟩ := h4 hn
    exact ⟨b', o', hD, hF, by omega, WoodAt.keep hs hk hw (.inr ⟨hF, hlt⟩)⟩
theorem WoodAt.mono (hf : ∀ b, F b → F' b) : ∀ {T : Wood} {b o : Nat}, WoodAt F w T b o → WoodAt F' w T b o
  | .nil, _, _, _ => trivial
  | .cons op s mn mx k x, b, o, ⟨⟨A, D, ns, cs, nk, ck, h1, h2, h3, h4⟩, h5⟩ => by
    refine ⟨⟨A, D, ns, cs, nk, ck, h1, h2.mono hf, h3, fun hn => ?_⟩, WoodAt.mono hf h5⟩
    obtain ⟨b', o', hD, hF, hlt, hw⟩ := h4 hn
    exact ⟨b', o', hD, hf _ hF, hlt, WoodAt.mono hf hw⟩
theorem KidsAt.keep {D : Option Addr} {nk : Nat} {k : Wood} (h : KidsAt F w D nk k) (hs : w.heap.size ≤ w'.heap.size) (hk : ∀ b, F b → b < w.heap.size → w'.heap[b]? = w.heap[b]?) : KidsAt F w' D nk k := by
  refine ⟨h.1, fun hn => ?_⟩
  obtain ⟨b, o, hD, hF, hlt, hw⟩ := h.2 hn
  exact ⟨b, o, hD, hF, by omega, hw.keep hs hk (.inr ⟨hF, hlt⟩)⟩
theorem KidsAt.mono {D : Option Addr} {nk : Nat} {k : Wood} (h : KidsAt F w D nk k) (hf : ∀ b, F b → F' b) : KidsAt F' w D nk k := by
  refine ⟨h.1, fun hn => ?_⟩
  obtain ⟨b, o, hD, hF, hlt, hw⟩ := h.2 hn
  exact ⟨b, o, hD, hf _ hF, hlt, hw.mono hf⟩
theorem NodeIn.keep {v : Value} {T : Wood} (h : NodeIn F w v T) (hs : w.heap.size ≤ w'.heap.size) (hk : ∀ b, F b → b < w.heap.size → w'.heap[b]? = w.heap[b]?) : NodeIn F w' v T := by
  obtain ⟨op, s, mn, mx, k, A, D, ns, cs, nk, ck, h1, h2, h3, h4⟩ := h
  exact ⟨op, s, mn, mx, k, A, D, ns, cs, nk, ck, h1, h2, h3.keep hs hk, h4.keep hs hk⟩
theorem NodeIn.below {v : Value} {T : Wood} (h : NodeIn F w v T) (hb : Below w.heap.size w w') : NodeIn F w' v T := h.keep hb.size fun b _ hlt => hb.block b hlt
theorem NodeIn.mono {v : Value} {T : Wood} (h : NodeIn F w v T) (hf : ∀ b, F b → F' b) : NodeIn F' w v T := by
  obtain ⟨op, s, mn, mx, k, A, D, ns, cs, nk, ck, h1, h2, h3, h4⟩ := h
  exact ⟨op, s, mn, mx, k, A, D, ns, cs, nk, ck, h1, h2, h3.mono hf, h4.mono hf⟩
theorem WoodAt.nth : ∀ {T : Wood} {b o j : Nat}, WoodAt F w T b o → j < T.len → ∃ (op : Int) (s : List (Int × Int)) (mn mx : Int) (k : Wood) (A D : Option Addr) (ns cs nk ck : Nat), T.nth j = .cons op s mn mx k .nil ∧ (∀ i v, (nodeV op A ns cs mn mx D nk ck)[i]? = some v → w.cell? ⟨b, o + j * 5 + i, none⟩ = some v) ∧ RowCap F w A ns s nk ck ∧ KidsAt F w D nk k
  | .nil, _, _, _, _, h => by simp [Wood.len] at h
  | .cons op s mn mx k x, b, o, 0, ⟨⟨A, D, ns, cs, nk, ck, h1, h2, h3, h4⟩, h5⟩, _ => ⟨op, s, mn, mx, k, A, D, ns, cs, nk, ck, rfl, fun i v hv => by rw [Nat.zero_mul, Nat.add_zero]; exact h1 i v hv, h2, h3, h4⟩
  | .cons op s mn mx k x, b, o, j + 1, ⟨_, h5⟩, h => by
    obtain ⟨op', s', mn', mx', k', A, D, ns, cs, nk, ck, e, h1, h2, h3⟩ := WoodAt.nth (j := j) h5 (by simp only [Wood.len] at h; omega)
    refine ⟨op', s', mn', mx', k', A, D, ns, cs, nk, ck, e, fun i v hv => ?_, h2, h3⟩
    rw [show o + (j + 1) * 5 + i = o + 5 + j * 5 + i by omega]
    exact h1 i v hv
theorem node_cells {b o : Nat} {op mn mx : Int} {A D : Option Addr} {ns cs nk ck : Nat} (h : ∀ i v, (nodeV op A ns cs mn mx D nk ck)[i]? = some v → w.cell? ⟨b, o + i, none⟩ = some v) :
    w.cell? ⟨b, o, none⟩ = some (.int .i64 op) ∧ w.cell? ⟨b, o + 1, none⟩ = some (.slice A ns cs) ∧ w.cell? ⟨b, o + 2, none⟩ = some (.int .i64 mn) ∧ w.cell? ⟨b, o + 3, none⟩ = some (.int .i64 mx) ∧ w.cell? ⟨b, o + 4, none⟩ = some (.slice D nk ck) :=
  ⟨h 0 _ rfl, h 1 _ rfl, h 2 _ rfl, h 3 _ rfl, h 4 _ rfl⟩
end
theorem KidsAt.below {F : Nat → Prop} {w w' : World} {D : Option Addr} {nk : Nat} {k : Wood} (h : KidsAt F w D nk k) (hb : Below w.heap.size w w') : KidsAt F w' D nk k := h.keep hb.size fun b _ hlt => hb.block b hlt
theorem KidsAt.kid {F : Nat → Prop} {w : World} {D : Option Addr} {nk : Nat} {k : Wood} (h : KidsAt F w D nk k) {j : Nat} (hj : j < nk) : ∃ (b o : Nat) (op : Int) (s : List (Int × Int)) (mn mx : Int) (k' : Wood) (A' D' : Option Addr) (ns cs nk' ck' : Nat), D = some ⟨b, o, none⟩ ∧ b < w.heap.size ∧ k.nth j = .cons op s mn mx k' .nil ∧
    w.cell? ⟨b, o + j * 5, none⟩ = some (.int .i64 op) ∧ w.cell? ⟨b, o + j * 5 + 1, none⟩ = some (.slice A' ns cs) ∧ w.cell? ⟨b, o + j * 5 + 2, none⟩ = some (.int .i64 mn) ∧ w.cell? ⟨b, o + j * 5 + 3, none⟩ = some (.int .i64 mx) ∧ w.cell? ⟨b, o + j * 5 + 4, none⟩ = some (.slice D' nk' ck') ∧
    NodeIn F w (.agg #[.int .i64 op, .slice A' ns cs, .int .i64 mn, .int .i64 mx, .slice D' nk' ck']) (k.nth j) := by
  obtain ⟨b, o, hD, _, hlt, hw⟩ := h.2 (by omega)
  obtain ⟨op, s, mn, mx, k', A', D', ns, cs, nk', ck', e, hc, hr, hk⟩ := hw.nth (j := j) (by rw [h.1]; exact hj)
  obtain ⟨c0, c1, c2, c3, c4⟩ := node_cells hc
  exact ⟨b, o, op, s, mn, mx, k', A', D', ns, cs, nk', ck', hD, hlt, e, c0, c1, c2, c3, c4, op, s, mn, mx, k', A', D', ns, cs, nk', ck', e, rfl, hr, hk⟩
def heavy : Wood → Nat
  | .nil => 0
  | .cons _ s _ _ k x => 1 + s.length + heavy k + heavy x
theorem heavy_nth : ∀ (a : Wood) (j : Nat), j < a.len → heavy (a.nth j) ≤ heavy a
  | .nil, _, h => by simp [Wood.len] at h
  | .cons .., 0, _ => by simp only [Wood.nth, heavy]; omega
  | .cons _ _ _ _ _ x, j + 1, h => by
    have := heavy_nth x j (by simp only [Wood.len] at h; omega)
    simp only [Wood.nth, heavy]; omega
end Go.Proofs.YtaapbmdojkjphaaGreat
