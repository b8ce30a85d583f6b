/- Places by index and by octet. -/
import Derived.Test.YtegcebgoiocakaaM06
import Derived.Test.YtegcebgoiocakaaM07
import Derived.Test.YtegcebgoiocakaaM09
import Derived.Test.YtegcebgoiocakaaM10
import Derived.Test.YtegcebgoiocakaaM11
import Derived.Laws.ResultCell
import Derived.Deep.DeepCutAuto
import Derived.Deep.CutBlock
import Derived.RangeFuncNested
import Derived.RangeFuncBound
import Derived.RangeFuncCalls
import Derived.RangeFuncLeaves
import Derived.Shelf.Abstract
import Derived.Shelf.RegionOpen
import Derived.WalkKit
import Derived.OwnWalkIn
import Derived.TacticsInMore
import Derived.LoopNIn
import Derived.LoopIn
namespace Go.Proofs.Ytegcebgoiocakaa
set_option linter.unusedVariables false

/-- The k-th place. -/
def atF (T : List Int) (k : Nat) : Nat := (atT T).getD k 0
def phi (T : List Int) (x : Nat × Nat) : Nat × Nat := (x.1, atF T x.2)
section
variable {T : List Int}
theorem atF_at {k : Nat} (hk : k ≤ (rsT T).length) : (atT T)[k]? = some (atF T k) := by
  obtain ⟨a, ha⟩ := atT_at hk
  unfold atF
  rw [List.getD, ha]; rfl
theorem atF_of {k a : Nat} (h : (atT T)[k]? = some a) : atF T k = a ∧ k ≤ (rsT T).length := by
  have hk := (List.getElem?_eq_some_iff.1 h).1
  rw [atT_len] at hk
  exact ⟨by unfold atF; rw [List.getD, h]; rfl, by omega⟩
theorem atF_zero : atF T 0 = 0 := rfl
theorem atF_last : atF T (rsT T).length = T.length := (atF_of atT_last).1
theorem atF_lt {i j : Nat} (hj : j ≤ (rsT T).length) (h : i < j) : atF T i < atF T j := atT_lt h (atF_at (by omega)) (atF_at hj)
theorem atF_le {i j : Nat} (hj : j ≤ (rsT T).length) (h : i ≤ j) : atF T i ≤ atF T j := by
  rcases Nat.eq_or_lt_of_le h with rfl | h
  · exact Nat.le_refl _
  · exact Nat.le_of_lt (atF_lt hj h)
theorem atF_le_iff {i j : Nat} (hi : i ≤ (rsT T).length) (hj : j ≤ (rsT T).length) : atF T i ≤ atF T j ↔ i ≤ j := by
  constructor
  · intro h
    rcases Nat.lt_or_ge j i with h1 | h1
    · have := atF_lt hi h1; omega
    · exact h1
  · exact atF_le hj
theorem atF_max {i : Nat} (hi : i ≤ (rsT T).length) : atF T i ≤ T.length := by rw [← atF_last]; exact atF_le (Nat.le_refl _) hi
theorem atF_next {k : Nat} (hk : k < (rsT T).length) : atF T k < T.length ∧ atF T (k + 1) = atF T k + szT T (atF T k) ∧ (rsT T)[k]? = some (cpT T (atF T k)) := by
  obtain ⟨h1, h2, h3⟩ := atT_next hk (atF_at (by omega))
  exact ⟨h1, (atF_of h2).1, h3⟩
theorem atF_zero_iff {k : Nat} (hk : k ≤ (rsT T).length) : atF T k = 0 ↔ k = 0 := by
  constructor
  · intro h
    rcases Nat.eq_zero_or_pos k with h0 | h0
    · exact h0
    · have := atF_lt hk h0; rw [atF_zero] at this; omega
  · rintro rfl; rfl
theorem atF_end_iff {k : Nat} (hk : k ≤ (rsT T).length) : atF T k = T.length ↔ k = (rsT T).length := atT_end hk (atF_at hk)
theorem openA_at {k : Nat} (hk : k ≤ (rsT T).length) (op : Int) : openA T.length (atF T k) op = openA (rsT T).length k op := by
  unfold openA
  rw [decide_eq_decide.2 (atF_zero_iff hk), decide_eq_decide.2 (atF_end_iff hk)]
theorem we_at {p : List InstL} {W : List (List (Nat × Nat))} {k : Nat} (hk : k ≤ (rsT T).length) : WE p W T.length (atF T k) = WE p W (rsT T).length k := by
  funext i j
  apply propext
  unfold WE
  simp only [openA_at hk]
theorem phi_fst (T : List Int) (xs : List (Nat × Nat)) : (xs.map (phi T)).map Prod.fst = xs.map Prod.fst := by rw [List.map_map]; rfl
end
theorem Steps.unmap {E : Nat → Nat → Prop} {T : List Int} {t h' : List (Nat × Nat)} (s : Steps E t h') : ∀ todo, t = todo.map (phi T) → ∃ h, h' = h.map (phi T) ∧ Steps E todo h := by
  induction s with
  | nil =>
    intro todo h
    rw [List.map_eq_nil_iff.1 h.symm]
    exact ⟨[], rfl, .nil⟩
  | @snoc t0 h0 h1 i f s m ih =>
    intro todo ht
    obtain ⟨l1, l2, rfl, e1, e2⟩ := List.map_eq_append_iff.1 ht.symm
    obtain ⟨x, rfl, e3⟩ := List.map_eq_singleton_iff.1 e2
    obtain ⟨h, rfl, hs⟩ := ih l1 e1.symm
    obtain ⟨new, rfl, m1, m2, m3, m4⟩ := m
    injection e3 with e3 e4
    subst e3; subst e4
    have eh : h.map (phi T) ++ new.map (fun j => (j, atF T x.2)) = (h ++ new.map fun j => (j, x.2)).map (phi T) := by
      rw [List.map_append, List.map_map]; rfl
    refine ⟨h ++ new.map fun j => (j, x.2), eh, .snoc hs ⟨new, rfl, m1, ?_, ?_, ?_⟩⟩
    · rw [eh, phi_fst] at m2; exact m2
    · rw [eh, phi_fst] at m3; exact m3
    · rw [eh, phi_fst] at m4; exact m4
theorem Met.unmap {E : Nat → Nat → Prop} {T : List Int} {h h' : List (Nat × Nat)} {i k : Nat} (m : Met E (h.map (phi T)) h' i (atF T k)) : ∃ h2, h' = h2.map (phi T) ∧ Met E h h2 i k := by
  obtain ⟨new, rfl, m1, m2, m3, m4⟩ := m
  have eh : h.map (phi T) ++ new.map (fun j => (j, atF T k)) = (h ++ new.map fun j => (j, k)).map (phi T) := by
    rw [List.map_append, List.map_map]; rfl
  refine ⟨h ++ new.map fun j => (j, k), eh, new, rfl, m1, ?_, ?_, ?_⟩
  · rw [eh, phi_fst] at m2; exact m2
  · rw [eh, phi_fst] at m3; exact m3
  · rw [eh, phi_fst] at m4; exact m4
theorem meets_map {p : List InstL} {W : List (List (Nat × Nat))} {r : Int} (T : List Int) (last : List (Nat × Nat)) : meets p W r (last.map (phi T)) = (meets p W r last).map (phi T) := by
  unfold meets
  rw [List.flatMap_map, List.map_flatMap]
  congr 1
  funext s
  rw [List.map_map]
  rfl
theorem filter_map {T : List Int} {b : Nat} (hb : b ≤ (rsT T).length) (xs : List (Nat × Nat)) (hx : ∀ x ∈ xs, x.2 ≤ (rsT T).length) : (xs.map (phi T)).filter (fun y => decide (y.2 ≤ atF T b)) = (xs.filter fun y => decide (y.2 ≤ b)).map (phi T) := by
  rw [List.filter_map]
  congr 1
  apply List.filter_congr
  intro x hxm
  show decide (atF T x.2 ≤ atF T b) = decide (x.2 ≤ b)
  exact decide_eq_decide.2 (atF_le_iff (hx x hxm) hb)
end Go.Proofs.Ytegcebgoiocakaa
/- A step onward, by places' numbers. -/
namespace Go.Proofs.Ytegcebgoiocakaa
open Go Go.RowKit
set_option linter.unusedVariables false
set_option maxRecDepth 20000

theorem step_next {B g mb : Nat} {e : WEnv} {w : World} {k : Nat} {here : List (Nat × Nat)} {last : SRow} {met : List Int} (hS : WalkS B g mb e w (atF (nums e.T) k) (here.map (phi (nums e.T))) last met) (hnd : (here.map Prod.fst).Nodup) (hin : ∀ x ∈ here, x.1 < e.n) (hmet : ∀ x ∈ met, x ≤ (atF (nums e.T) k : Int)) (hk : k < (rsT (nums e.T)).length) {z : Nat} (hz : z = szT (nums e.T) (atF (nums e.T) k)) :
    Calls Try.prog 49 #[.pointer (some ⟨g, 0, none⟩), .int .i64 ((atF (nums e.T) k : Int) + (z : Int))] w fun en w' => en = .returned (.tuple #[]) ∧ ∃ here' last' met', WalkM True B g mb e w' (atF (nums e.T) (k + 1)) (here'.map (phi (nums e.T))) last' met' ∧ Tch B g mb w w' ∧ (∀ x ∈ met', x ≤ (atF (nums e.T) (k + 1) : Int)) ∧ Steps (WE e.p e.W (rsT (nums e.T)).length (k + 1)) (meets e.p e.W (cpT (nums e.T) (atF (nums e.T) k)) here) here' := by
  have hTl := nums_length e.T
  have hnx := atF_next hk
  have hnlt := atF_lt (T := nums e.T) (show k + 1 ≤ (rsT (nums e.T)).length by omega) (Nat.lt_succ_self k)
  have hmx := atF_max (T := nums e.T) (show k + 1 ≤ (rsT (nums e.T)).length by omega)
  rw [hTl] at hmx
  have hp := szT_pos hnx.1
  have he := szT_eq hnx.1
  have hd : atF (nums e.T) (k + 1) - atF (nums e.T) k = szT (nums e.T) (atF (nums e.T) k) := by omega
  have hr : cpT (nums e.T) (atF (nums e.T) k) = (getI (((nums e.T).drop (atF (nums e.T) k)).take (atF (nums e.T) (k + 1) - atF (nums e.T) k))).1 := by
    rw [hd, getI_take (by omega) (.inr (.inr he.symm)) (by omega)]
    rfl
  have h := step_any (full := True) hS (by rw [phi_fst]; exact hnd) (fun x hx => by obtain ⟨y, hy, rfl⟩ := List.mem_map.1 hx; exact hin y hy) (atF (nums e.T) (k + 1)) (atF (nums e.T) k) (atF (nums e.T) (k + 1)) (Nat.min_eq_left (by omega)) (Nat.max_eq_right (by omega)) hmx (fun _ x hx => by have := hmet x hx; omega) _ hr
  rw [show ((atF (nums e.T) (k + 1) : Nat) : Int) = (atF (nums e.T) k : Int) + (z : Int) by rw [hz]; have := hnx.2.1; omega] at h
  refine h.mono ?_
  rintro en w' ⟨rfl, h4, last4, met4, hM, hT, hI, hs⟩
  have hs := hs trivial
  rw [← hTl, we_at (by omega), meets_map] at hs
  obtain ⟨here4, rfl, hs4⟩ := hs.unmap _ rfl
  refine ⟨rfl, here4, last4, met4, hM, hT, fun x hx => ?_, hs4⟩
  rcases hI x hx with h1 | h1
  · have := hmet x h1; omega
  · omega
end Go.Proofs.Ytegcebgoiocakaa
/- The walk onward: the first match from places on. -/
namespace Go.Proofs.Ytegcebgoiocakaa
open Go Go.RowKit
set_option linter.unusedVariables false
set_option maxRecDepth 20000

/-- A best match, in octets; noughts, if there is none. -/
def hitF (T : List Int) : Option (Nat × Nat) → Int × Int
  | none => (0, 0)
  | some (b, e) => (atF T b, atF T e)
/-- The walk's memory, and the best match so far. -/
def FMem (B g mb : Nat) (e : WEnv) (w0 w : World) (k : Nat) (here : List (Nat × Nat)) (best : Option (Nat × Nat)) : Prop :=
  (∃ last met, WalkM True B g mb e w (atF (nums e.T) k) (here.map (phi (nums e.T))) last met ∧ ∀ x ∈ met, x ≤ (atF (nums e.T) k : Int)) ∧
  w.heap[e.skip]? = some (.cells #[.int .i64 (hitF (nums e.T) best).1, .int .i64 (hitF (nums e.T) best).2] 35 (0, 0)) ∧ Below w0.heap.size w0 w
/-- The same behind the place, when some may have been left. -/
def FEnd (B g mb : Nat) (e : WEnv) (w0 w : World) (k : Nat) (here : List (Nat × Nat)) (best : Option (Nat × Nat)) : Prop :=
  (∃ last met, WalkS B g mb e w (atF (nums e.T) k) (here.map (phi (nums e.T))) last met ∧ (∀ x ∈ here, x.1 < e.n) ∧ ∀ x ∈ met, x ≤ (atF (nums e.T) k : Int)) ∧
  w.heap[e.skip]? = some (.cells #[.int .i64 (hitF (nums e.T) best).1, .int .i64 (hitF (nums e.T) best).2] 35 (0, 0)) ∧ Below w0.heap.size w0 w
theorem FMem.end_ {B g mb : Nat} {e : WEnv} {w0 w : World} {k : Nat} {here : List (Nat × Nat)} {best : Option (Nat × Nat)} (h : FMem B g mb e w0 w k here best) : FEnd B g mb e w0 w k here best := by
  obtain ⟨⟨last, met, hM, hm⟩, h2, h3⟩ := h
  exact ⟨⟨last, met, hM.s, fun x hx => hM.inn (phi (nums e.T) x) (List.mem_map.2 ⟨x, hx, rfl⟩), hm⟩, h2, h3⟩
/-- None that is worse than the best one is here. -/
def BestIn (best : Option (Nat × Nat)) (here : List (Nat × Nat)) : Prop := ∀ b e, best = some (b, e) → ∀ j f, (j, f) ∈ here → f ≤ b
/-- What a place is come to with. -/
def FHead (p : List InstL) (W : List (List (Nat × Nat))) (rs : List Int) (lo hi k : Nat) (here : List (Nat × Nat)) (best : Option (Nat × Nat)) : Prop :=
  ∃ todo, Steps (WE p W rs.length k) todo here ∧ ((k = lo ∧ todo = [] ∧ best = none) ∨ ∃ k' here' r, k = k' + 1 ∧ lo ≤ k ∧ rs[k']? = some r ∧ Fwd p rs lo hi k' (k' + 1) here' best ∧ BestIn best here' ∧ todo = meets p W r here')
theorem FHead.mid {p : List InstL} {W : List (List (Nat × Nat))} {rs : List Int} {lo hi k : Nat} {here here2 : List (Nat × Nat)} {best : Option (Nat × Nat)} (hW : Onward p W) (hlo : lo ≤ hi) (h : FHead p W rs lo hi k here best)
    (hx : if k ≤ hi ∧ best = none then Met (WE p W rs.length k) here here2 0 k else here2 = here) : Fwd p rs lo hi k k here2 best ∧ BestIn best here2 := by
  obtain ⟨todo, hs, ⟨rfl, rfl, rfl⟩ | ⟨k', here', r, rfl, hlk, hr, hF, hB, rfl⟩⟩ := h
  · rw [if_pos ⟨hlo, rfl⟩] at hx
    exact ⟨Fwd.begin hW hlo (by have := Steps.snoc hs hx; simpa using this), fun b e h => by cases h⟩
  · refine hF.step hW hr hB rfl ?_
    by_cases hc : k' + 1 ≤ hi ∧ best = none
    · rw [if_pos hc] at hx
      rw [if_pos ⟨hc.1, hc.2, hlk⟩]
      exact Steps.snoc hs hx
    · rw [if_neg hc] at hx
      rw [if_neg (fun h => hc ⟨h.1, h.2.1⟩), List.append_nil, hx]
      exact hs
theorem Fwd.here_le {p : List InstL} {rs : List Int} {lo hi k K : Nat} {here : List (Nat × Nat)} {best : Option (Nat × Nat)} (h : Fwd p rs lo hi k K here best) (hh : hi ≤ rs.length) : ∀ x ∈ here, x.2 ≤ rs.length := fun x hx => by have := (h.sound x.1 x.2 hx).2.1; omega
theorem WaysF.mono {F F' : Nat → Prop} {w : World} {A : Option Addr} {n : Nat} {W : List (List (Nat × Nat))} (h : WaysF F w A n W) (hf : ∀ b, F b → b < w.heap.size → F' b) : WaysF F' w A n W := by
  refine ⟨h.1, fun hn => ?_⟩
  obtain ⟨b, o, hA, hF, hlt, hc⟩ := h.2 hn
  refine ⟨b, o, hA, hf b hF hlt, hlt, fun j ws hj => ?_⟩
  obtain ⟨Aj, nj, cj, h1, h2, h3⟩ := hc j ws hj
  refine ⟨Aj, nj, cj, h1, h2, fun h0 => ?_⟩
  obtain ⟨b', o', k1, k2, k3, k4⟩ := h3 h0
  exact ⟨b', o', k1, hf b' k2 k3, k3, k4⟩
theorem FMem.keep {B g mb : Nat} {e : WEnv} {w0 w w' : World} {k : Nat} {here here' : List (Nat × Nat)} {best : Option (Nat × Nat)} (h : FMem B g mb e w0 w k here best) (hB : e.skip < B) (h0 : w0.heap.size ≤ B) (hm : ∃ last met, WalkM True B g mb e w' (atF (nums e.T) k) (here'.map (phi (nums e.T))) last met ∧ ∀ x ∈ met, x ≤ (atF (nums e.T) k : Int)) (hT : Below B w w') : FMem B g mb e w0 w' k here' best :=
  ⟨hm, (hT.block e.skip hB).trans h.2.1, h.2.2.trans (hT.mono h0)⟩
set_option maxHeartbeats 8000000 in
theorem first_any {F : Nat → Prop} (A : Option Addr) (n c : Nat) (l : List IV) (T : ByteArray) (w : World) (hi0 : InsF F w A n l) (hr : rightB n l = true) (hn : n ≤ 1000) (hT : T.size ≤ 1000) (lo hi : Nat) (hlo : lo ≤ hi) (hhi : hi ≤ (rsT (nums T)).length) :
    Calls Try.prog 29 #[.slice A n c, .string T, .int .i64 (atF (nums T) lo : Int), .int .i64 (atF (nums T) hi : Int)] w fun en w' => ∃ o, en = .returned (.tuple #[.agg #[.int .i64 (hitF (nums T) o).1, .int .i64 (hitF (nums T) o).2], .bool o.isSome]) ∧ FirstIs (l.map fun v => v.i) (rsT (nums T)) lo hi o ∧ Below w.heap.size w w' := by
  have hnl := nums_length T
  obtain ⟨hok, hn0, hp⟩ : (∀ v ∈ l, okB n v.i = true) ∧ 0 < n ∧ Within (l.map fun v => v.i) := by
    unfold rightB at hr
    rw [Bool.and_eq_true, List.all_eq_true, decide_eq_true_eq] at hr
    refine ⟨hr.1, hr.2, by rw [List.length_map, hi0.1]; exact hr.2, fun i v hv j hj => ?_⟩
    rw [List.getElem?_map] at hv
    obtain ⟨u, hu, rfl⟩ := Option.map_eq_some_iff.1 hv
    rw [List.length_map, hi0.1]
    rcases okB_cases (hr.1 u (List.mem_of_getElem? hu)) with h0 | ⟨h0, x, y, hx, hy, hxn, hyn⟩ | ⟨h0, x, hx, hxn⟩
    · unfold outs at hj; rw [if_pos h0] at hj; simp at hj
    · unfold outs at hj; rw [if_neg (by omega), if_pos h0, hx, hy] at hj; simp at hj; omega
    · unfold outs at hj; rw [if_neg (by omega), if_neg (by omega), hx] at hj; simp at hj; omega
  have hb0 : Below w.heap.size w (w.alloc (.cells #[.int .i64 0, .int .i64 0] 35)) := (Below.refl _ _).alloc (Nat.le_refl _) _
  have hbox := heap_alloc_new w (.cells #[.int .i64 0, .int .i64 0] 35)
  have hiF : InsF (fun b => b < w.heap.size) (w.alloc (.cells #[.int .i64 0, .int .i64 0] 35)) A n l := (hi0.mono fun b _ h => h).belowB hb0
  have HO := Lib.hid (onward_any A n c l _ hiF hp hok hn)
  have HH := Lib.hid (And.intro hiF (And.intro hp (And.intro hok (And.intro hb0 (And.intro hbox hnl)))))
  clear hi0 hr hb0 hbox hiF hok hp hnl
  go_enter Try.func29, Try.ntmps29
  go_wp2_with fail
  (with_reducible refine HO.out.mono ?_)
  rintro en w1 ⟨gw, rfl, hways, hb1⟩
  have hsz1 : (w.alloc (.cells #[.int .i64 0, .int .i64 0] 35)).heap.size = w.heap.size + 1 := by simp
  have hs1 := hb1.size
  rw [hsz1] at hs1 hb1 hways
  have hwi : WaysIn (l.map fun v => v.i) (buildW false n (edgesL (l.map fun v => v.i))) := by
    have := (onward_build (l.map fun v => v.i)).waysIn HH.out.2.1
    rwa [List.length_map, HH.out.1.1] at this
  have hon : Onward (l.map fun v => v.i) (buildW false n (edgesL (l.map fun v => v.i))) := by
    have := onward_build (l.map fun v => v.i)
    rwa [List.length_map, HH.out.1.1] at this
  obtain ⟨e, e1, e2, e3, e4, e5, e6, e7, e8, e9, e10⟩ : ∃ e : WEnv, e.A = A ∧ e.n = n ∧ e.c = c ∧ e.l = l ∧ e.T = T ∧ e.WA = some ⟨gw, 0, none⟩ ∧ e.wc = n ∧ e.W = buildW false n (edgesL (l.map fun v => v.i)) ∧ e.mc = n ∧ e.skip = w.heap.size :=
    ⟨⟨A, n, c, l, T, some ⟨gw, 0, none⟩, n, buildW false n (edgesL (l.map fun v => v.i)), n, w.heap.size⟩, rfl, rfl, rfl, rfl, rfl, rfl, rfl, rfl, rfl, rfl⟩
  have hi1 : InsF (Fs w1.heap.size w.heap.size) w1 A n l := ((HH.out.1.belowB (hb1.mono (Nat.le_succ _))).mono fun b h _ => ⟨by omega, by omega⟩)
  have hw1 : WaysF (Fs w1.heap.size w.heap.size) w1 (some ⟨gw, 0, none⟩) n (buildW false n (edgesL (l.map fun v => v.i))) := hways.mono fun b h1 h2 => ⟨h2, by omega⟩
  have hbx1 : w1.heap[w.heap.size]? = some (.cells #[.int .i64 0, .int .i64 0] 35 (0, 0)) := (hb1.block _ (Nat.lt_succ_self _)).trans HH.out.2.2.2.2.1
  have hb01 : Below w.heap.size w w1 := HH.out.2.2.2.1.trans (hb1.mono (Nat.le_succ _))
  subst e1; subst e2; subst e3; subst e4; subst e5
  rw [← e8] at hwi hon hw1
  rw [← e10] at hi1 hw1 hbx1
  rw [← e6] at hw1
  have HNw := Lib.hid (newWalk_any e w1 (atF (nums e.T) lo) hi1 hw1 hwi ⟨hn, hT, hn0⟩ e9)
  rw [e6, e7] at HNw
  have HE := Lib.hid (And.intro hon (And.intro hbx1 (And.intro hb01 (And.intro hs1 (And.intro HH.out.2.2.2.2.2 e10)))))
  have hsk : w.heap.size = e.skip := e10.symm
  clear hways hb1 hwi hon hi1 hw1 hbx1 hb01 hs1 hsz1 e6 e7 e8 e9 e10 HO HH
  go_wp2_with fail
  (with_reducible refine HNw.out.mono ?_)
  rintro en w2 ⟨g, mb, rfl, hC, hb2⟩
  have HC := Lib.hid (And.intro hC hb2)
  have hHead : FMem w1.heap.size g mb e w w2 lo [] none ∧ FHead e.p e.W (rsT (nums e.T)) lo hi lo [] none := by
    refine ⟨⟨⟨⟨none, 0, 0, []⟩, _, ⟨⟨_, _, _, hC⟩, fun i h => by simp at h, fun _ i h => ?_, List.Pairwise.nil, fun x hx => by simp at hx⟩, fun x hx => ?_⟩, (hb2.block _ (by have := HE.out.2.2.2.1; omega)).trans HE.out.2.1, HE.out.2.2.1.trans (hb2.mono (by have := HE.out.2.2.2.1; omega))⟩, ⟨[], .nil, .inl ⟨rfl, rfl, rfl⟩⟩⟩
    · have := List.eq_of_mem_replicate (List.mem_of_getElem? h)
      omega
    · rw [List.eq_of_mem_replicate hx]; omega
  have HHead := Lib.hid hHead
  clear hC hb2 hHead HNw
  go_wp2_with fail
  go_loopw [9] (fun v9 wr => ∃ (k : Nat) (here : List (Nat × Nat)) (best : Option (Nat × Nat)), v9 = .bool best.isSome ∧ k ≤ (rsT (nums e.T)).length ∧ Hid (lo ≤ k ∧ FMem w1.heap.size g mb e w wr k here best ∧ FHead e.p e.W (rsT (nums e.T)) lo hi k here best)) (fun _ wr => e.T.size - (match wr.cell? ⟨g, 3, none⟩ with | some (.int _ a) => a.toNat | _ => 0))
  case atStart => exact ⟨lo, [], none, rfl, by omega, Lib.hid ⟨Nat.le_refl _, HHead.out⟩⟩
  case round =>
    obtain ⟨k, here, best, rfl, hk, H1⟩ := hrel
    obtain ⟨last, met, hM, hmet⟩ := H1.out.2.1.1
    have c3 : wr.cell? ⟨g, 3, none⟩ = some (.int .i64 (atF (nums e.T) k : Int)) := by
      obtain ⟨_, _, _, hq⟩ := hM.s
      exact hq.cells.2.2.2.1
    have hlh := atF_le_iff hk hhi
    have HM := Lib.hid (And.intro hM hmet)
    have HC3 := Lib.hid c3
    clear hM hmet
    -- FIRST
    go_upto_region 2 with fail
    obtain ⟨mb0, hmb0⟩ : ∃ b : Bool, b = (decide (k ≤ hi) && best.isNone) := ⟨_, rfl⟩
    obtain ⟨wd, hwd⟩ : ∃ wd, wd = wr := ⟨_, rfl⟩
    go_cut [29] (fun s29 wx => s29 = .bool mb0 ∧ wd = wx)
    case first =>
      subst hwd
      by_cases hkh : k ≤ hi
      · have hle : (atF (nums e.T) k : Int) ≤ (atF (nums e.T) hi : Int) := by have := hlh.2 hkh; omega
        have hb : mb0 = best.isNone := by rw [hmb0, decide_eq_true hkh]; rfl
        clear hmb0 hkh
        cases best with
        | none =>
          go_wp2_with fail
          go_meet
          exact ⟨by rw [hb]; rfl, rfl⟩
        | some be =>
          go_wp2_with fail
          go_meet
          exact ⟨by rw [hb]; rfl, rfl⟩
      · have hle : ¬ (atF (nums e.T) k : Int) ≤ (atF (nums e.T) hi : Int) := by have := fun h => hkh (hlh.1 h); omega
        have hb : mb0 = false := by rw [hmb0, decide_eq_false hkh]; rfl
        clear hmb0 hkh
        go_wp2_with fail
        go_meet
        exact ⟨by rw [hb], rfl⟩
    case rest =>
      obtain ⟨rfl, rfl⟩ := hcut
      subst hwd
      have HMB := Lib.hid hmb0
      clear hmb0 hlh
      go_upto_if 29 with (fail)
      go_cut [] (fun wx => ∃ here2, Hid (FMem w1.heap.size g mb e w wx k here2 best ∧ Fwd e.p (rsT (nums e.T)) lo hi k k here2 best ∧ BestIn best here2))
      case first =>
        have hB : e.skip < w1.heap.size := by have := HE.out.2.2.2.1; omega
        have h0 : w.heap.size ≤ w1.heap.size := by omega
        cases mb0 with
        | true =>
          have hc : k ≤ hi ∧ best = none := by
            have := HMB.out.symm
            rw [Bool.and_eq_true, decide_eq_true_eq] at this
            exact ⟨this.1, by cases best with | none => rfl | some _ => cases this.2⟩
          have hmt := meet_any HM.out.1 0 (atF (nums e.T) k) hn0
          rw [show ((0 : Nat) : Int) = (0 : Int) from rfl] at hmt
          have HMt := Lib.hid hmt
          clear hmt
          have HC2 := Lib.hid (And.intro hc (And.intro hB h0))
          clear hc hB h0
          go_wp2_with (go_at_call 45; (with_reducible refine HMt.out.mono ?_); rintro en w8 ⟨rfl, h3, met3, hM8, hT8, hI8, hS8⟩; have H8 := Lib.hid (And.intro hM8 (And.intro hT8 (And.intro hI8 hS8))); clear hM8 hT8 hI8 hS8)
          go_meet
          have hS8 := H8.out.2.2.2 trivial
          rw [← HE.out.2.2.2.2.1, we_at hk] at hS8
          obtain ⟨here2, rfl, hmet2⟩ := hS8.unmap
          refine ⟨here2, Lib.hid ⟨H1.out.2.1.keep HC2.out.2.1 HC2.out.2.2 ⟨_, met3, H8.out.1, fun x hx => ?_⟩ H8.out.2.1.1, H1.out.2.2.mid HE.out.1 hlo ?_⟩⟩
          · rcases H8.out.2.2.1 x hx with h | h
            · exact HM.out.2 x h
            · omega
          · rw [if_pos HC2.out.1]; exact hmet2
        | false =>
          have hc : ¬ (k ≤ hi ∧ best = none) := fun ⟨h1, h2⟩ => by
            have := HMB.out
            rw [decide_eq_true h1, h2] at this
            cases this
          have HC2 := Lib.hid hc
          clear hc
          go_wp2
          go_meet
          exact ⟨here, Lib.hid ⟨H1.out.2.1, H1.out.2.2.mid HE.out.1 hlo (by rw [if_neg HC2.out])⟩⟩
      case rest =>
        obtain ⟨here2, H2⟩ := hcut
        have H1a := Lib.hid H1.out.1
        clear H1 HM c3 HMB
        obtain ⟨last2, met2, hM2, hmet2⟩ := H2.out.1.1
        have hlen : (here2.map (phi (nums e.T))).length ≤ 100000 := by have := here_len hM2.nodup hM2.inn; omega
        have HBest := Lib.hid (bestM_any hM2.s hM2.inn hlen)
        have HM2 := Lib.hid (And.intro hM2 (And.intro hmet2 hlen))
        clear hM2 hmet2 hlen
        go_wp2_with fail
        (with_reducible refine HBest.out.mono ?_)
        rintro en w4 ⟨f, ok, rfl, hbo, hb4⟩
        have HB4 := Lib.hid (And.intro hbo hb4)
        clear hbo hb4
        go_upto_if 43 with (fail)
        go_cut [9] (fun s9 wx => ∃ (here3 : List (Nat × Nat)) (best3 : Option (Nat × Nat)), s9 = .bool best3.isSome ∧ Hid (FEnd w1.heap.size g mb e w wx k here3 best3 ∧ Fwd e.p (rsT (nums e.T)) lo hi k (k + 1) here3 best3 ∧ BestIn best3 here3))
        case first =>
          have hB : e.skip < w1.heap.size := by have := HE.out.2.2.2.1; omega
          have h0 : w.heap.size ≤ w1.heap.size := by omega
          have hb4 : Below w1.heap.size wc w4 := HB4.out.2.mono (by obtain ⟨_, _, _, hq⟩ := HM2.out.1.s; have := hq.lt; have := hq.hB; omega)
          have hM4 := HM2.out.1.below HB4.out.2
          have hF4 : FMem w1.heap.size g mb e w w4 k here2 best := H2.out.1.keep hB h0 ⟨_, _, hM4, HM2.out.2.1⟩ hb4
          rcases HB4.out.1 with ⟨rfl, rfl, hno⟩ | ⟨rfl, A, j, b, Z, rfl, hsp, hA, hj⟩
          · have HF := Lib.hid (And.intro hF4 hno)
            clear hF4 hno hM4 hb4 hB h0
            go_wp2
            go_meet
            refine ⟨here2, best, rfl, Lib.hid ⟨HF.out.1.end_, H2.out.2.1.none_ fun j f hm hend => ?_, H2.out.2.2⟩⟩
            have h1 := HF.out.2 (phi (nums e.T) (j, f)) (List.mem_map.2 ⟨(j, f), hm, rfl⟩)
            obtain ⟨v, hv, hv0⟩ := hend
            unfold WEnv.p at hv
            rw [List.getElem?_map] at hv
            obtain ⟨u, hu, rfl⟩ := Option.map_eq_some_iff.1 hv
            have h2 : isEndB e.l (j, atF (nums e.T) f) = false := h1
            unfold isEndB at h2
            simp only [hu] at h2
            rw [hv0] at h2
            exact absurd h2 (by decide)
          · have hbx := hF4.2.1
            have x0 := cell_of_row w4 e.skip 0 _ _ (0, 0) hbx
            have x1 := cell_of_row w4 e.skip 1 _ _ (0, 0) hbx
            have y0 : w4.frozen? ⟨e.skip, 0, none⟩ = false := by simp [World.frozen?, hbx]
            have y1 : w4.frozen? ⟨e.skip, 1, none⟩ = false := by simp [World.frozen?, hbx]
            have g3 : w4.cell? ⟨g, 3, none⟩ = some (.int .i64 (atF (nums e.T) k : Int)) := by
              obtain ⟨_, _, _, hq⟩ := hM4.s
              exact hq.cells.2.2.2.1
            have HS := Lib.hid (And.intro hF4 (And.intro hM4 (And.intro hsp (And.intro hA (And.intro hj (And.intro hbx (And.intro hB h0)))))))
            clear hF4 hM4 hsp hA hj hb4 hbx hB h0
            have hoth : ∀ q, q ≠ e.skip → ((w4.setCell ⟨e.skip, 0, none⟩ (.int .i64 (b : Int))).setCell ⟨e.skip, 1, none⟩ (.int .i64 (atF (nums e.T) k : Int))).heap[q]? = w4.heap[q]? := fun q hq => (Below.heap_setCell _ _ _ _ hq).trans (Below.heap_setCell _ _ _ _ hq)
            have hset : ((w4.setCell ⟨e.skip, 0, none⟩ (.int .i64 (b : Int))).setCell ⟨e.skip, 1, none⟩ (.int .i64 (atF (nums e.T) k : Int))).heap[e.skip]? = some (.cells #[.int .i64 (b : Int), .int .i64 (atF (nums e.T) k : Int)] 35 (0, 0)) := by
              rw [heap_setCell_same _ e.skip 1 _ _ _ (heap_setCell_same w4 e.skip 0 _ _ _ HS.out.2.2.2.2.2.1)]; rfl
            have hsz5 : ((w4.setCell ⟨e.skip, 0, none⟩ (.int .i64 (b : Int))).setCell ⟨e.skip, 1, none⟩ (.int .i64 (atF (nums e.T) k : Int))).heap.size = w4.heap.size := by simp
            have hb5 : Below w.heap.size w ((w4.setCell ⟨e.skip, 0, none⟩ (.int .i64 (b : Int))).setCell ⟨e.skip, 1, none⟩ (.int .i64 (atF (nums e.T) k : Int))) := ((HS.out.1.2.2.setCell (p := ⟨e.skip, 0, none⟩) (by show w.heap.size ≤ e.skip; omega) _).setCell (p := ⟨e.skip, 1, none⟩) (by show w.heap.size ≤ e.skip; omega) _)
            have hS5 : WalkS w1.heap.size g mb e ((w4.setCell ⟨e.skip, 0, none⟩ (.int .i64 (b : Int))).setCell ⟨e.skip, 1, none⟩ (.int .i64 (atF (nums e.T) k : Int))) (atF (nums e.T) k) (here2.map (phi (nums e.T))) last2 met2 := by
              obtain ⟨_, _, _, hq⟩ := HS.out.2.1.s
              exact ⟨_, _, _, hq.skip HS.out.2.2.2.2.2.2.1 (by omega) fun q _ hq => hoth q hq⟩
            have hle2 := H2.out.2.1.here_le hhi
            have hsrt : (here2.map (phi (nums e.T))).Pairwise fun x y => x.2 ≤ y.2 := by
              rw [List.pairwise_map]
              refine List.Pairwise.imp_of_mem ?_ H2.out.2.1.sorted
              intro x y _ hy h
              exact atF_le (hle2 y hy) h
            have HLv := Lib.hid (leave_any hS5 HM2.out.2.2 hsrt b)
            have H5 := Lib.hid (And.intro hset (And.intro hb5 hle2))
            clear hoth hset hsz5 hb5 hS5 hsrt hle2
            go_wp2_with (go_at_call 48; (with_reducible refine HLv.out.mono ?_); rintro en w6 ⟨rfl, hS6, hT6⟩; have H6 := Lib.hid (And.intro hS6 hT6); clear hS6 hT6)
            go_meet
            obtain ⟨l1, l2, e1, e2, e3⟩ := List.map_eq_append_iff.1 HS.out.2.2.1
            obtain ⟨z, l3, rfl, e4, e5⟩ := List.map_eq_cons_iff.1 e3
            obtain ⟨j2, bi⟩ := z
            injection e4 with e4 e6
            have e4 : j2 = j := e4
            have e6 : atF (nums e.T) bi = b := e6
            subst e4
            have hbi : bi ≤ (rsT (nums e.T)).length := H5.out.2.2 (j2, bi) (by rw [e1]; simp)
            have hfil := filter_map hbi here2 H5.out.2.2
            rw [e6] at hfil
            have hendj : IsEnd e.p j2 := by
              have h2 := HS.out.2.2.2.2.1
              unfold isEndB at h2
              simp only at h2
              cases hu : e.l[j2]? with
              | none => rw [hu] at h2; cases h2
              | some u =>
                rw [hu] at h2
                exact ⟨u.i, by unfold WEnv.p; rw [List.getElem?_map, hu]; rfl, by simpa using h2⟩
            have hbs : e.skip < w1.heap.size := HS.out.2.2.2.2.2.2.1
            refine ⟨here2.filter fun x => decide (x.2 ≤ bi), some (bi, k), rfl, Lib.hid ⟨⟨⟨last2, met2, ?_, fun x hx => HS.out.2.1.inn (phi (nums e.T) x) (List.mem_map.2 ⟨x, (List.mem_filter.1 hx).1, rfl⟩), HM2.out.2.1⟩, ?_, ?_⟩, H2.out.2.1.some_ H2.out.2.2 e1 (fun i f hm hend => ?_) hendj, fun b' e' h' j' f' hm' => ?_⟩⟩
            · rw [← hfil]; exact H6.out.1
            · rw [(H6.out.2.1.block e.skip hbs).trans H5.out.1]
              simp only [hitF, e6]
            · exact H5.out.2.1.trans (H6.out.2.1.mono HS.out.2.2.2.2.2.2.2)
            · have h1 := HS.out.2.2.2.1 (phi (nums e.T) (i, f)) (by rw [← e2]; exact List.mem_map.2 ⟨(i, f), hm, rfl⟩)
              obtain ⟨v, hv, hv0⟩ := hend
              unfold WEnv.p at hv
              rw [List.getElem?_map] at hv
              obtain ⟨u, hu, rfl⟩ := Option.map_eq_some_iff.1 hv
              have h2 : isEndB e.l (i, atF (nums e.T) f) = false := h1
              unfold isEndB at h2
              simp only [hu] at h2
              rw [hv0] at h2
              exact absurd h2 (by decide)
            · injection h' with h'
              injection h' with h' _
              have := (List.mem_filter.1 hm').2
              simp at this
              omega
        case rest =>
          obtain ⟨here3, best3, rfl, H3⟩ := hcut
          clear H2 HM2 HBest HB4
          obtain ⟨last3, met3, ⟨H6, hn6, hc6, hC6⟩, hin3, hmet3⟩ := H3.out.1.1
          have d3 := hC6.cells.2.2.2.1
          have d4 := hC6.cells.2.2.2.2.1
          have hl6 := own_len hC6.row
          rw [List.length_map] at hl6
          have hn6e : hn6 = 0 ↔ here3 = [] := by rw [← hl6]; exact List.length_eq_zero_iff
          have HC6 := Lib.hid (And.intro hC6 (And.intro hin3 (And.intro hmet3 hn6e)))
          have hlh := atF_le_iff hhi hk
          obtain ⟨ov, hov⟩ : ∃ ov : Bool, ov = (decide (hn6 = 0) && (best3.isSome || decide (hi ≤ k))) := ⟨_, rfl⟩
          clear hC6 hin3 hmet3 hl6 hn6e
          obtain ⟨wz, hwz⟩ : ∃ wz, wz = wc := ⟨_, rfl⟩
          go_upto_region 8 with fail
          go_cut [13] (fun s13 wx => s13 = .bool ov ∧ wz = wx)
          case first =>
            subst hwz
            by_cases hn0' : hn6 = 0
            · have hz : ((hn6 : Int) == 0) = true := by rw [hn0']; rfl
              rw [decide_eq_true hn0', Bool.true_and] at hov
              cases best3 with
              | some be =>
                have HOV := Lib.hid hov
                clear hov hn0'
                go_wp2_with fail
                go_meet
                exact ⟨by rw [HOV.out]; rfl, rfl⟩
              | none =>
                by_cases hkh : hi ≤ k
                · have hle : (atF (nums e.T) k : Int) ≥ (atF (nums e.T) hi : Int) := by have := hlh.2 hkh; omega
                  rw [decide_eq_true hkh] at hov
                  have HOV := Lib.hid hov
                  clear hov hn0' hkh
                  go_wp2_with fail
                  go_meet
                  exact ⟨by rw [HOV.out]; rfl, rfl⟩
                · have hle : ¬ (atF (nums e.T) k : Int) ≥ (atF (nums e.T) hi : Int) := by have := fun h => hkh (hlh.1 h); omega
                  rw [decide_eq_false hkh] at hov
                  have HOV := Lib.hid hov
                  clear hov hn0' hkh
                  go_wp2_with fail
                  go_meet
                  exact ⟨by rw [HOV.out]; rfl, rfl⟩
            · have hz : ((hn6 : Int) == 0) = false := by simp; omega
              rw [decide_eq_false hn0', Bool.false_and] at hov
              have HOV := Lib.hid hov
              clear hov hn0'
              go_wp2_with fail
              go_meet
              exact ⟨by rw [HOV.out], rfl⟩
          case rest =>
            obtain ⟨rfl, rfl⟩ := hcut
            subst hwz
            have HOV := Lib.hid hov
            clear hov hlh
            have hTl : (nums e.T).length = e.T.size := HE.out.2.2.2.2.1
            have hend := atF_end_iff (T := nums e.T) hk
            rw [hTl] at hend
            have hat := atF_max (T := nums e.T) hk
            rw [hTl] at hat
            have hbx := H3.out.1.2.1
            obtain ⟨p1, hp1⟩ : ∃ p1, p1 = (hitF (nums e.T) best3).1 := ⟨_, rfl⟩
            obtain ⟨p2, hp2⟩ : ∃ p2, p2 = (hitF (nums e.T) best3).2 := ⟨_, rfl⟩
            rw [← hp1, ← hp2] at hbx
            have x0 := cell_of_row wz e.skip 0 _ _ (0, 0) hbx
            have x1 := cell_of_row wz e.skip 1 _ _ (0, 0) hbx
            have y0 : wz.frozen? ⟨e.skip, 0, none⟩ = false := by simp [World.frozen?, hbx]
            have y1 : wz.frozen? ⟨e.skip, 1, none⟩ = false := by simp [World.frozen?, hbx]
            have HP := Lib.hid (And.intro hp1 (And.intro hp2 hbx))
            clear hp1 hp2 hbx
            obtain ⟨fin, hfin⟩ : ∃ fin : Bool, fin = (ov || decide (k = (rsT (nums e.T)).length)) := ⟨_, rfl⟩
            obtain ⟨wy, hwy⟩ : ∃ wy, wy = wz := ⟨_, rfl⟩
            go_upto_region 9 with fail
            go_cut [79] (fun s79 wx => s79 = .bool fin ∧ wy = wx)
            case first =>
              subst hwy
              clear x0 x1 y0 y1 d4
              cases ov with
              | true =>
                have HF := Lib.hid hfin
                clear hfin hend hat hTl
                go_wp2_with fail
                go_meet
                exact ⟨by rw [HF.out]; rfl, rfl⟩
              | false =>
                by_cases hkm : k = (rsT (nums e.T)).length
                · rw [hend.2 hkm] at d3
                  rw [decide_eq_true hkm] at hfin
                  have HF := Lib.hid hfin
                  clear hfin hend hat hTl hkm
                  go_wp2_with fail
                  go_meet
                  exact ⟨by rw [HF.out]; rfl, rfl⟩
                · have hz : ((atF (nums e.T) k : Int) == (e.T.size : Int)) = false := by simp; omega
                  rw [decide_eq_false hkm] at hfin
                  have HF := Lib.hid hfin
                  clear hfin hend hat hTl hkm
                  go_wp2_with fail
                  go_meet
                  exact ⟨by rw [HF.out]; rfl, rfl⟩
            case rest =>
              obtain ⟨rfl, rfl⟩ := hcut
              subst hwy
              have HFin := Lib.hid hfin.symm
              clear hfin
              cases fin with
              | true =>
                clear hend hat hTl d3 d4
                go_upto_region 10 with fail
                repeat (first | (go_big_may; go_says fail) | go_values | go_skip | go_guarded | go_step | go_upon)
                have hset : ((wy.setCell ⟨e.skip, 0, none⟩ (.int .i64 p1)).setCell ⟨e.skip, 1, none⟩ (.int .i64 p2)).heap[e.skip]? = some (.cells #[.int .i64 p1, .int .i64 p2] 35 (0, 0)) := by
                  rw [heap_setCell_same _ e.skip 1 _ _ _ (heap_setCell_same wy e.skip 0 _ _ _ HP.out.2.2)]; rfl
                have z0 := cell_of_row _ e.skip 0 _ _ (0, 0) hset
                have z1 := cell_of_row _ e.skip 1 _ _ (0, 0) hset
                have hbf : Below w.heap.size w ((wy.setCell ⟨e.skip, 0, none⟩ (.int .i64 p1)).setCell ⟨e.skip, 1, none⟩ (.int .i64 p2)) := ((H3.out.1.2.2.setCell (p := ⟨e.skip, 0, none⟩) (by show w.heap.size ≤ e.skip; omega) _).setCell (p := ⟨e.skip, 1, none⟩) (by show w.heap.size ≤ e.skip; omega) _)
                generalize (wy.setCell ⟨e.skip, 0, none⟩ (.int .i64 p1)).setCell ⟨e.skip, 1, none⟩ (.int .i64 p2) = wf at hset z0 z1 hbf ⊢
                clear x0 x1 y0 y1 hset
                refine bodyPost_ret (v := .tuple #[.agg #[.int .i64 p1, .int .i64 p2], .bool best3.isSome]) ?_ rfl ?_
                · rw [results_cell_tmp rfl]; go_simp
                · refine ⟨best3, ?_, H3.out.2.1.over hhi (by
                    have h1 := HFin.out
                    rcases Bool.or_eq_true_iff.1 h1 with h1 | h1
                    · rw [HOV.out] at h1
                      rw [Bool.and_eq_true, decide_eq_true_eq] at h1
                      refine .inr ⟨HC6.out.2.2.2.1 h1.1, ?_⟩
                      rcases Bool.or_eq_true_iff.1 h1.2 with h2 | h2
                      · exact .inl fun h => by rw [h] at h2; cases h2
                      · exact .inr (by simpa using h2)
                    · exact .inl (by simpa using h1)), hbf⟩
                  rw [HP.out.1, HP.out.2.1]
              | false =>
                have hkm : ¬ k = (rsT (nums e.T)).length := fun h => by
                  have := HFin.out
                  rw [decide_eq_true h, Bool.or_true] at this
                  cases this
                have hlt : k < (rsT (nums e.T)).length := by omega
                have hnx := atF_next hlt
                have hnlt := atF_lt (T := nums e.T) (show k + 1 ≤ (rsT (nums e.T)).length by omega) (Nat.lt_succ_self k)
                have hmx := atF_max (T := nums e.T) (show k + 1 ≤ (rsT (nums e.T)).length by omega)
                rw [hTl] at hnx hmx
                have hwr : True := trivial
                have hz : ((atF (nums e.T) k : Int) == (e.T.size : Int)) = false := by simp; omega
                have HSz := Lib.hid fun w => msize_any e.T (atF (nums e.T) k) w hnx.1 (by omega)
                obtain ⟨z, hzz⟩ : ∃ z, z = szT (nums e.T) (atF (nums e.T) k) := ⟨_, rfl⟩
                rw [← hzz] at HSz
                have hcast : ((atF (nums e.T) (k + 1) : Nat) : Int) = (atF (nums e.T) k : Int) + (z : Int) := by have := hnx.2.1; omega
                have hzl : (z : Int) ≤ 4 := by have := szT_pos (T := nums e.T) (a := atF (nums e.T) k) (by omega); omega
                have hal : (atF (nums e.T) k : Int) ≤ 1000 := by omega
                have hgl := HC6.out.1.lt.1
                have HSt := Lib.hid fun (w' : World) (hb : Below wy.heap.size wy w') => step_next ⟨H6, hn6, hc6, HC6.out.1.below hb⟩ H3.out.2.1.nodup HC6.out.2.1 HC6.out.2.2.1 hlt hzz
                have HN := Lib.hid (And.intro hlt (And.intro hnx (And.intro hnlt (And.intro hmx (And.intro hTl hcast)))))
                have k3 : ∀ w', Below wy.heap.size wy w' → w'.cell? ⟨g, 3, none⟩ = some (.int .i64 (atF (nums e.T) k : Int)) := fun w' hb => (hb.cell (p := ⟨g, 3, none⟩) hgl).trans d3
                have d3' : wy.drew.cell? ⟨g, 3, none⟩ = some (.int .i64 (atF (nums e.T) k : Int)) := d3
                have K3 := Lib.hid k3
                clear hkm hend hat hTl d4 hlt hnx hnlt hmx hzz hcast hgl k3
                have hwrap : IntKind.i64.wrap ((atF (nums e.T) k : Int) + (z : Int)) = (atF (nums e.T) k : Int) + (z : Int) := by rw [IntKind.wrap_i64]; omega
                clear x0 x1 y0 y1 hz hwr
                go_upto_region 11 with fail
                go_region_with (first
                  | (go_at_call 25; (with_reducible refine (HSz.out _).mono ?_); rintro en w5 ⟨rfl, hb5⟩; have hb6 : Below wy.heap.size wy w5 := (Below.refl wy.heap.size wy).drew.trans hb5; have q3 := K3.out w5 hb6; have HB5 := Lib.hid hb6; clear hb5 hb6)
                  | (go_at_call 49; (with_reducible refine (HSt.out _ HB5.out).mono ?_); rintro en w8 ⟨rfl, here4, last4, met4, hM8, hT8, hI8, hS8⟩; have H8 := Lib.hid (And.intro hM8 (And.intro hT8 (And.intro hI8 hS8))); clear hM8 hT8 hI8 hS8))
                all_goals
                  go_roundw
                  case rel =>
                    (repeat apply Exists.intro)
                    exact ⟨⟨k + 1, here4, best3, rfl, HN.out.1, Lib.hid ⟨by have := H1a.out; omega, ⟨⟨last4, met4, H8.out.1, H8.out.2.2.1⟩, ((HB5.out.block e.skip (by have := HC6.out.1.lt; have := HC6.out.1.hB; have := HE.out.2.2.2.1; omega)).trans H3.out.1.2.1) |> fun h => (H8.out.2.1.1.block e.skip (by have := HE.out.2.2.2.1; omega)).trans h, (H3.out.1.2.2.trans (HB5.out.mono (by have := HC6.out.1.lt; have := HC6.out.1.hB; have := HE.out.2.2.2.1; omega))).trans (H8.out.2.1.1.mono (by have := HE.out.2.2.2.1; omega))⟩, ⟨_, H8.out.2.2.2, .inr ⟨k, here3, _, rfl, by have := H1a.out; omega, HN.out.2.1.2.2, H3.out.2.1, H3.out.2.2, rfl⟩⟩⟩⟩, rfl⟩
                  case measure =>
                    have h1 := HC3.out
                    have h2 : w8.cell? ⟨g, 3, none⟩ = some (.int .i64 (atF (nums e.T) (k + 1) : Int)) := by
                      obtain ⟨_, _, _, hq⟩ := H8.out.1.s
                      exact hq.cells.2.2.2.1
                    rw [h1, h2]
                    simp
                    have := HN.out
                    omega
end Go.Proofs.Ytegcebgoiocakaa
/- slices.Backward of a row of places. -/
namespace Go.Proofs.Ytegcebgoiocakaa
open Go Go.RowKit Go.Shelf
set_option linter.unusedVariables false
set_option maxRecDepth 100000
attribute [local go_sem] Oper.semAt_some

/-- What a round may be handed: a number, and a place up to M. -/
abbrev PlX (M : Nat) := { x : Nat × Nat // x.2 ≤ M }
def encP {M : Nat} (x : PlX M) : Array Value := #[.int .i64 (x.1.1 : Int), .int .i64 (x.1.2 : Int)]
/-- A row's elements, the last one first. -/
def backL {M : Nat} (zs : List Nat) (hM : ∀ j : Nat, zs[j]?.getD 0 ≤ M) (k : Nat) : List (PlX M) := (List.range k).map fun j => ⟨(zs.length - 1 - j, zs[zs.length - 1 - j]?.getD 0), hM _⟩
theorem backL_succ {M : Nat} (zs : List Nat) (hM : ∀ j : Nat, zs[j]?.getD 0 ≤ M) (k : Nat) : backL zs hM (k + 1) = backL zs hM k ++ [⟨(zs.length - 1 - k, zs[zs.length - 1 - k]?.getD 0), hM _⟩] := by simp [backL, List.range_succ]
theorem backL_len {M : Nat} (zs : List Nat) (hM : ∀ j : Nat, zs[j]?.getD 0 ≤ M) (k : Nat) : (backL zs hM k).length = k := by simp [backL]
/-- What the iterator reads between two rounds. -/
def KpR (Bs b : Nat) (W W' : World) : Prop := W'.heap[Bs]? = W.heap[Bs]? ∧ W'.heap[b]? = W.heap[b]?
theorem KpR.trans {Bs b : Nat} {A B C : World} (h : KpR Bs b A B) (k : KpR Bs b B C) : KpR Bs b A C := ⟨k.1.trans h.1, k.2.trans h.2⟩
theorem KpR.put {Bs b : Nat} {w : World} (h1 : Bs < w.heap.size) (h2 : b < w.heap.size) (W : World) (l : Nat) (o o' : Obj) (hl : w.heap.size ≤ l) (_ : W.heap[l]? = some o) (_ : o.isCells = false) (_ : o.isWalk = false) : KpR Bs b W (W.putObj l o') :=
  ⟨World.putObj_heap_other (by omega), World.putObj_heap_other (by omega)⟩
theorem heap_cell {w w' : World} {b : Nat} (h : w'.heap[b]? = w.heap[b]?) (j : Nat) : w'.cell? ⟨b, j, none⟩ = w.cell? ⟨b, j, none⟩ := by simp only [World.cell?, h]
set_option maxHeartbeats 2000000 in
theorem backw1_in {M : Nat} (F : Fence) (n : Nat) (hF : F.fn 84) (hro : F.round = none) (hn : 1 ≤ n) (l Bs b len cap : Nat) (zs : List Nat) (hz : zs.length = len) (hM : ∀ j : Nat, zs[j]?.getD 0 ≤ M) (hsm : len ≤ 100000) (J Jx : List (PlX M) → World → Prop)
    (hY : ∀ pre x W, J pre W → pre.length < len → YieldAt F (n - 1) Try.prog l (encP x) W fun e W' => (e = .returned (.bool true) ∧ J (pre ++ [x]) W' ∧ KpR Bs b W W') ∨ (e = .returned (.bool false) ∧ Jx (pre ++ [x]) W'))
    (W : World) (hBs : W.cell? ⟨Bs, 0, none⟩ = some (.slice (some ⟨b, 0, none⟩) len cap)) (hc : ∀ j, j < len → W.cell? ⟨b, j, none⟩ = some (.int .i64 (zs[j]?.getD 0 : Nat))) (h0 : J [] W) :
    CallsIn F n Try.prog 84 #[.func (.yield l) #[] #[], .pointer (some ⟨Bs, 0, none⟩)] W fun e W' => (∃ v, e = .returned v) ∧ ((∃ ys, ys = backL zs hM len ∧ J ys W') ∨ (∃ pre, True ∧ Jx pre W')) := by
  refine callsIn_of_wp Try.func84 rfl hF ?_ hro
  simp only [Try.ntmps84, List.size_toArray, List.length_cons, List.length_nil, Nat.reduceAdd, Nat.reduceSub, Array.replicate_succ, Array.replicate_zero, List.push_toArray, List.append_toArray, List.nil_append, List.cons_append]
  gi_wp2
  gi_loopw [3] (fun i wr => ∃ k : Nat, k ≤ len ∧ i = .int .i64 ((len : Int) - 1 - (k : Int)) ∧ J (backL zs hM k) wr ∧ KpR Bs b W wr) (fun i _ => (intOf i + 1).toNat)
  case atStart => exact ⟨0, Nat.zero_le _, by simp, h0, rfl, rfl⟩
  case round =>
    obtain ⟨k, hk, rfl, hJs, hkp⟩ := hrel
    by_cases hlt : k < len
    · obtain ⟨q, hq⟩ : ∃ q : Nat, q = len - 1 - k := ⟨_, rfl⟩
      have hqi : (len : Int) - 1 - (k : Int) = (q : Int) := by omega
      have hql : q < len := by omega
      have hsn := backL_succ zs hM k
      rw [hz, ← hq] at hsn
      obtain ⟨y, hyy⟩ : ∃ y : PlX M, y = ⟨(q, zs[q]?.getD 0), hM _⟩ := ⟨_, rfl⟩
      rw [← hyy] at hsn
      obtain ⟨⟨q', v⟩, hv⟩ := y
      injection hyy with hyy
      injection hyy with hq' hv'
      subst hq'
      obtain ⟨fn, tmps, assign, body, hy, hR⟩ := hY _ ⟨(q', v), hv⟩ wr hJs (by rw [backL_len]; exact hlt)
      have cB := (heap_cell hkp.1 0).trans hBs
      have cq := (heap_cell hkp.2 q').trans (hc q' hql)
      rw [← hv'] at cq
      have h1 : (0 : Int) ≤ (q' : Int) := by omega
      have h2 : (q' : Int) < (len : Int) := by omega
      have hzl : (len : Int) ≤ 100000 := by omega
      have hb1 : (q' : Int) = (len : Int) - 1 - (k : Int) := by omega
      have HB := Lib.hid hb1
      clear hb1
      dsimp only [encP] at hy hR
      rw [hqi]
      have HQ := Lib.hid (And.intro hqi (And.intro hv' hsn))
      clear hqi hq hv' hsn
      gi_wp2
      refine hR.mono ?_
      rintro e W3 (⟨rfl, hJ3, hk3⟩ | ⟨rfl, hJx3⟩)
      · gi_wp2
        go_roundw
        case rel =>
          refine ⟨k + 1, hlt, ?_, ?_, hkp.trans hk3⟩
          · have := HB.out
            first | (congr 1; omega) | omega
          · rw [HQ.out.2.2]; exact hJ3
        case measure => simp [intOf]
      · gi_wp2
        refine bodyPost_ret (results_none rfl _ _ _) rfl ?_
        exact ⟨⟨_, rfl⟩, .inr ⟨_, trivial, hJx3⟩⟩
    · obtain rfl : k = len := by omega
      have hn1 : ¬ (0 : Int) ≤ (k : Int) - 1 - (k : Int) := by omega
      have hn2 : (k : Int) - 1 - (k : Int) = -1 := by omega
      rw [hn2]
      gi_wp2
      go_end0
      first
        | exact ⟨⟨_, rfl⟩, .inl ⟨_, rfl, hJs⟩⟩
        | exact ⟨⟨_, rfl⟩, .inl hJs⟩
        | (refine ⟨⟨_, rfl⟩, .inl ?_⟩; exact hJs)
end Go.Proofs.Ytegcebgoiocakaa
/- Which programs are right: the document's Right. -/
namespace Go.Proofs.Ytegcebgoiocakaa
open Go Go.RowKit
set_option linter.unusedVariables false
set_option maxRecDepth 20000

theorem inB_cases (n : Nat) (x : Int) : (inB n x = false ∧ x < 0) ∨ (inB n x = false ∧ ¬ x < 0 ∧ (n : Int) ≤ x) ∨ (inB n x = true ∧ ¬ x < 0 ∧ ¬ (n : Int) ≤ x) := by
  unfold inB
  by_cases h1 : x < 0
  · exact .inl ⟨by rw [decide_eq_false (by omega)]; rfl, h1⟩
  · by_cases h2 : (n : Int) ≤ x
    · exact .inr (.inl ⟨by rw [decide_eq_false (p := x < (n : Int)) (by omega), Bool.and_false], h1, h2⟩)
    · exact .inr (.inr ⟨by rw [decide_eq_true (by omega), decide_eq_true (by omega)]; rfl, h1, h2⟩)
set_option maxHeartbeats 8000000 in
theorem rright_any (A : Option Addr) (n c : Nat) (l : List IV) (w : World) (h : InsAt w A n l) (hn : n ≤ 1000000) :
    Calls Try.prog 10 #[.slice A n c] w fun e w' => e = .returned (.bool (rightB n l)) ∧ Below w.heap.size w w' := by
  have HI := Lib.hid h
  obtain ⟨R, hR⟩ : ∃ R, R = rightB n l := ⟨_, rfl⟩
  rw [← hR]
  have HR := Lib.hid hR
  clear h hR
  go_enter Try.func10, Try.ntmps10
  go_wp2_with fail
  go_loopw [3] (fun vi wr => ∃ j : Nat, vi = .int .i64 (j : Int) ∧ j ≤ n ∧ Hid ((∀ i v, i < j → l[i]? = some v → okB n v.i = true) ∧ Below w.heap.size w wr)) (fun vi _ => n - (match vi with | .int _ j => j.toNat | _ => 0))
  case atStart => exact ⟨0, rfl, Nat.zero_le _, Lib.hid ⟨fun i v hi => absurd hi (by omega), Below.refl _ _⟩⟩
  case round =>
    obtain ⟨j, rfl, hj, H⟩ := hrel
    by_cases hlt : j < n
    · obtain ⟨v, hv⟩ : ∃ v, l[j]? = some v := ⟨_, List.getElem?_eq_getElem (by rw [HI.out.1]; exact hlt)⟩
      obtain ⟨b, o, rfl, hbl, hc⟩ := (HI.out.below H.out.2).2 (by omega)
      have c0 := hc j v hv 0 _ rfl
      have c1 := hc j v hv 1 _ rfl
      have c2 := hc j v hv 2 _ rfl
      have c3 := hc j v hv 3 _ rfl
      rw [Nat.add_zero] at c0
      have HV := Lib.hid hv
      have next : okB n v.i = true → ∀ w2, Below wr.heap.size wr w2 → Hid ((∀ i v, i < j + 1 → l[i]? = some v → okB n v.i = true) ∧ Below w.heap.size w w2) := fun hok w2 hb2 => Lib.hid ⟨fun i v' hi hv' => by
        rcases Nat.lt_or_ge i j with h1 | h1
        · exact H.out.1 i v' h1 hv'
        · obtain rfl : i = j := by omega
          rw [HV.out] at hv'
          injection hv' with hv'
          rw [← hv']; exact hok, H.out.2.trans (hb2.mono H.out.2.size)⟩
      have HNx := Lib.hid next
      have HBad := Lib.hid (show okB n v.i = false → R = false from fun h => HR.out.trans (right_bad HV.out h))
      clear hc hv next hbl
      by_cases h0 : v.i.op = 0
      · have HOK := Lib.hid (show okB n v.i = true by unfold okB; rw [if_pos h0])
        rw [h0] at c0
        clear h0
        go_wp2
        exact ⟨⟨j + 1, rfl, hlt, HNx.out HOK.out _ ((Below.refl _ _).alloc (Nat.le_refl _) _)⟩, by show n - ((j : Int) + 1).toNat < n - (j : Int).toNat; omega⟩
      by_cases h2' : v.i.op = 2
      · have hok : okB n v.i = (inB n v.i.y && inB n v.i.x) := by unfold okB; rw [if_neg h0, if_pos h2']
        rw [h2'] at c0
        clear h0 h2'
        rcases inB_cases n v.i.x with ⟨hb, h1⟩ | ⟨hb, h1, h2⟩ | ⟨hb, h1, h2⟩
        · have HB := Lib.hid (HBad.out (by rw [hok, hb, Bool.and_false]))
          clear hok hb
          go_wp2
          go_ret
          rw [HB.out]
          exact ⟨rfl, H.out.2.alloc H.out.2.size _⟩
        · have HB := Lib.hid (HBad.out (by rw [hok, hb, Bool.and_false]))
          clear hok hb
          go_wp2
          go_ret
          rw [HB.out]
          exact ⟨rfl, H.out.2.alloc H.out.2.size _⟩
        · rcases inB_cases n v.i.y with ⟨hb', h3⟩ | ⟨hb', h3, h4⟩ | ⟨hb', h3, h4⟩
          · have HB := Lib.hid (HBad.out (by rw [hok, hb', Bool.false_and]))
            clear hok hb hb'
            go_wp2
            go_ret
            rw [HB.out]
            exact ⟨rfl, H.out.2.alloc H.out.2.size _⟩
          · have HB := Lib.hid (HBad.out (by rw [hok, hb', Bool.false_and]))
            clear hok hb hb'
            go_wp2
            go_ret
            rw [HB.out]
            exact ⟨rfl, H.out.2.alloc H.out.2.size _⟩
          · have HOK := Lib.hid (show okB n v.i = true by rw [hok, hb, hb']; rfl)
            clear hok hb hb'
            go_wp2
            exact ⟨⟨j + 1, rfl, hlt, HNx.out HOK.out _ ((Below.refl _ _).alloc (Nat.le_refl _) _)⟩, by show n - ((j : Int) + 1).toNat < n - (j : Int).toNat; omega⟩
      by_cases h3 : v.i.op = 1 ∨ v.i.op = 3 ∨ v.i.op = 4
      · clear h0 h2'
        rcases h3 with h0 | h0 | h0
        · have hok : okB n v.i = inB n v.i.x := by unfold okB; rw [h0, if_neg (by decide), if_neg (by decide), if_pos (by decide)]
          rw [h0] at c0
          clear h0
          rcases inB_cases n v.i.x with ⟨hb, h1⟩ | ⟨hb, h1, h2⟩ | ⟨hb, h1, h2⟩
          · have HB := Lib.hid (HBad.out (hok.trans hb))
            clear hok hb
            go_wp2
            go_ret
            rw [HB.out]
            exact ⟨rfl, H.out.2.alloc H.out.2.size _⟩
          · have HB := Lib.hid (HBad.out (hok.trans hb))
            clear hok hb
            go_wp2
            go_ret
            rw [HB.out]
            exact ⟨rfl, H.out.2.alloc H.out.2.size _⟩
          · have HOK := Lib.hid (hok.trans hb)
            clear hok hb
            go_wp2
            exact ⟨⟨j + 1, rfl, hlt, HNx.out HOK.out _ ((Below.refl _ _).alloc (Nat.le_refl _) _)⟩, by show n - ((j : Int) + 1).toNat < n - (j : Int).toNat; omega⟩
        · have hok : okB n v.i = inB n v.i.x := by unfold okB; rw [h0, if_neg (by decide), if_neg (by decide), if_pos (by decide)]
          rw [h0] at c0
          clear h0
          rcases inB_cases n v.i.x with ⟨hb, h1⟩ | ⟨hb, h1, h2⟩ | ⟨hb, h1, h2⟩
          · have HB := Lib.hid (HBad.out (hok.trans hb))
            clear hok hb
            go_wp2
            go_ret
            rw [HB.out]
            exact ⟨rfl, H.out.2.alloc H.out.2.size _⟩
          · have HB := Lib.hid (HBad.out (hok.trans hb))
            clear hok hb
            go_wp2
            go_ret
            rw [HB.out]
            exact ⟨rfl, H.out.2.alloc H.out.2.size _⟩
          · have HOK := Lib.hid (hok.trans hb)
            clear hok hb
            go_wp2
            exact ⟨⟨j + 1, rfl, hlt, HNx.out HOK.out _ ((Below.refl _ _).alloc (Nat.le_refl _) _)⟩, by show n - ((j : Int) + 1).toNat < n - (j : Int).toNat; omega⟩
        · have hok : okB n v.i = inB n v.i.x := by unfold okB; rw [h0, if_neg (by decide), if_neg (by decide), if_pos (by decide)]
          rw [h0] at c0
          clear h0
          rcases inB_cases n v.i.x with ⟨hb, h1⟩ | ⟨hb, h1, h2⟩ | ⟨hb, h1, h2⟩
          · have HB := Lib.hid (HBad.out (hok.trans hb))
            clear hok hb
            go_wp2
            go_ret
            rw [HB.out]
            exact ⟨rfl, H.out.2.alloc H.out.2.size _⟩
          · have HB := Lib.hid (HBad.out (hok.trans hb))
            clear hok hb
            go_wp2
            go_ret
            rw [HB.out]
            exact ⟨rfl, H.out.2.alloc H.out.2.size _⟩
          · have HOK := Lib.hid (hok.trans hb)
            clear hok hb
            go_wp2
            exact ⟨⟨j + 1, rfl, hlt, HNx.out HOK.out _ ((Below.refl _ _).alloc (Nat.le_refl _) _)⟩, by show n - ((j : Int) + 1).toNat < n - (j : Int).toNat; omega⟩
      · have HB := Lib.hid (HBad.out (by unfold okB; rw [if_neg h0, if_neg h2', if_neg h3]))
        by_cases hneg : v.i.op < 0
        · clear h0 h2' h3
          go_wp2
          go_ret
          rw [HB.out]
          exact ⟨rfl, H.out.2.alloc H.out.2.size _⟩
        · have hbig : 4 < v.i.op := by omega
          clear h0 h2' h3
          go_wp2
          go_ret
          rw [HB.out]
          exact ⟨rfl, H.out.2.alloc H.out.2.size _⟩
    · obtain rfl : j = n := by omega
      have HE := Lib.hid (HR.out.trans (right_all HI.out.1 fun i v hv => H.out.1 i v (by have := (List.getElem?_eq_some_iff.1 hv).1; rw [HI.out.1] at this; exact this) hv))
      go_wp2
      go_ret
      refine ⟨?_, H.out.2⟩
      rw [HE.out]
      simp
end Go.Proofs.Ytegcebgoiocakaa
