/- Texts. -/
import Derived.Test.YtaapbmdojkjphaaGreatZ07
import Derived.Test.YtaapbmdojkjphaaGreatZ09
import Derived.Test.YtaapbmdojkjphaaGreatZ15
import Derived.Test.YtaapbmdojkjphaaGreatZ16
import Derived.Test.YtaapbmdojkjphaaGreatZ18
import Derived.Test.YtaapbmdojkjphaaGreatZ19
import Derived.Test.YtaapbmdojkjphaaGreatZ20
import Derived.Test.YtaapbmdojkjphaaGreatZ21
import Derived.Laws.ResultCell
import Derived.Deep.DeepCutAuto
import Derived.Deep.CutBlock
namespace Go.Proofs.YtaapbmdojkjphaaGreat
open Go Go.RowKit
set_option linter.unusedVariables false
set_option maxRecDepth 20000
theorem step_next {B g mb : Nat} {e : WEnv} {w : World} {k : Nat} {here : List (Nat × Nat)} {last : SRow} {met : List Int} (hS : WalkS B g mb e w (atF (nums e.T) k) (here.map (phi (nums e.T))) last met) (hnd : (here.map Prod.fst).Nodup) (hin : ∀ x ∈ here, x.1 < e.n) (hmet : ∀ x ∈ met, x ≤ (atF (nums e.T) k : Int)) (hk : k < (rsT (nums e.T)).length) {z : Nat} (hz : z = szT (nums e.T) (atF (nums e.T) k)) :
    Calls Tryz.prog 90 #[.pointer (some ⟨g, 0, none⟩), .int .i64 ((atF (nums e.T) k : Int) + (z : Int))] w fun en w' => en = .returned (.tuple #[]) ∧ ∃ here' last' met', WalkM True B g mb e w' (atF (nums e.T) (k + 1)) (here'.map (phi (nums e.T))) last' met' ∧ Tch B g mb w w' ∧ (∀ x ∈ met', x ≤ (atF (nums e.T) (k + 1) : Int)) ∧ Steps (WE e.p e.W (rsT (nums e.T)).length (k + 1)) (meets e.p e.W (cpT (nums e.T) (atF (nums e.T) k)) here) here' := by
  have hTl := nums_length e.T
  have hnx := atF_next hk
  have hnlt := atF_lt (T := nums e.T) (show k + 1 ≤ (rsT (nums e.T)).length by omega) (Nat.lt_succ_self k)
  have hmx := atF_max (T := nums e.T) (show k + 1 ≤ (rsT (nums e.T)).length by omega)
  rw [hTl] at hmx
  have hp := szT_pos hnx.1
  have he := szT_eq hnx.1
  have hd : atF (nums e.T) (k + 1) - atF (nums e.T) k = szT (nums e.T) (atF (nums e.T) k) := by omega
  have hr : cpT (nums e.T) (atF (nums e.T) k) = (getI (((nums e.T).drop (atF (nums e.T) k)).take (atF (nums e.T) (k + 1) - atF (nums e.T) k))).1 := by
    rw [hd, getI_take (by omega) (.inr (.inr he.symm)) (by omega)]
    rfl
  have h := step_any (full := True) hS (by rw [phi_fst]; exact hnd) (fun x hx => by obtain ⟨y, hy, rfl⟩ := List.mem_map.1 hx; exact hin y hy) (atF (nums e.T) (k + 1)) (atF (nums e.T) k) (atF (nums e.T) (k + 1)) (Nat.min_eq_left (by omega)) (Nat.max_eq_right (by omega)) hmx (fun _ x hx => by have := hmet x hx; omega) _ hr
  rw [show ((atF (nums e.T) (k + 1) : Nat) : Int) = (atF (nums e.T) k : Int) + (z : Int) by rw [hz]; have := hnx.2.1; omega] at h
  refine h.mono ?_
  rintro en w' ⟨rfl, h4, last4, met4, hM, hT, hI, hs⟩
  have hs := hs trivial
  rw [← hTl, we_at (by omega), meets_map] at hs
  obtain ⟨here4, rfl, hs4⟩ := hs.unmap _ rfl
  refine ⟨rfl, here4, last4, met4, hM, hT, fun x hx => ?_, hs4⟩
  rcases hI x hx with h1 | h1
  · have := hmet x h1; omega
  · omega
end Go.Proofs.YtaapbmdojkjphaaGreat
namespace Go.Proofs.YtaapbmdojkjphaaGreat
open Go Go.RowKit
set_option linter.unusedVariables false
set_option maxRecDepth 20000
def hitF (T : List Int) : Option (Nat × Nat) → Int × Int
  | none => (0, 0)
  | some (b, e) => (atF T b, atF T e)
def FMem (B g mb : Nat) (e : WEnv) (w0 w : World) (k : Nat) (here : List (Nat × Nat)) (best : Option (Nat × Nat)) : Prop :=
  (∃ last met, WalkM True B g mb e w (atF (nums e.T) k) (here.map (phi (nums e.T))) last met ∧ ∀ x ∈ met, x ≤ (atF (nums e.T) k : Int)) ∧
  w.heap[e.skip]? = some (.cells #[.int .i64 (hitF (nums e.T) best).1, .int .i64 (hitF (nums e.T) best).2] 38 (0, 0)) ∧ Below w0.heap.size w0 w
def FEnd (B g mb : Nat) (e : WEnv) (w0 w : World) (k : Nat) (here : List (Nat × Nat)) (best : Option (Nat × Nat)) : Prop :=
  (∃ last met, WalkS B g mb e w (atF (nums e.T) k) (here.map (phi (nums e.T))) last met ∧ (∀ x ∈ here, x.1 < e.n) ∧ ∀ x ∈ met, x ≤ (atF (nums e.T) k : Int)) ∧
  w.heap[e.skip]? = some (.cells #[.int .i64 (hitF (nums e.T) best).1, .int .i64 (hitF (nums e.T) best).2] 38 (0, 0)) ∧ Below w0.heap.size w0 w
theorem FMem.end_ {B g mb : Nat} {e : WEnv} {w0 w : World} {k : Nat} {here : List (Nat × Nat)} {best : Option (Nat × Nat)} (h : FMem B g mb e w0 w k here best) : FEnd B g mb e w0 w k here best := by
  obtain ⟨⟨last, met, hM, hm⟩, h2, h3⟩ := h
  exact ⟨⟨last, met, hM.s, fun x hx => hM.inn (phi (nums e.T) x) (List.mem_map.2 ⟨x, hx, rfl⟩), hm⟩, h2, h3⟩
def BestIn (best : Option (Nat × Nat)) (here : List (Nat × Nat)) : Prop := ∀ b e, best = some (b, e) → ∀ j f, (j, f) ∈ here → f ≤ b
def FHead (p : List InstL) (W : List (List (Nat × Nat))) (rs : List Int) (lo hi k : Nat) (here : List (Nat × Nat)) (best : Option (Nat × Nat)) : Prop :=
  ∃ todo, Steps (WE p W rs.length k) todo here ∧ ((k = lo ∧ todo = [] ∧ best = none) ∨ ∃ k' here' r, k = k' + 1 ∧ lo ≤ k ∧ rs[k']? = some r ∧ Fwd p rs lo hi k' (k' + 1) here' best ∧ BestIn best here' ∧ todo = meets p W r here')
theorem FHead.mid {p : List InstL} {W : List (List (Nat × Nat))} {rs : List Int} {lo hi k : Nat} {here here2 : List (Nat × Nat)} {best : Option (Nat × Nat)} (hW : Onward p W) (hlo : lo ≤ hi) (h : FHead p W rs lo hi k here best)
    (hx : if k ≤ hi ∧ best = none then Met (WE p W rs.length k) here here2 0 k else here2 = here) : Fwd p rs lo hi k k here2 best ∧ BestIn best here2 := by
  obtain ⟨todo, hs, ⟨rfl, rfl, rfl⟩ | ⟨k', here', r, rfl, hlk, hr, hF, hB, rfl⟩⟩ := h
  · rw [if_pos ⟨hlo, rfl⟩] at hx
    exact ⟨Fwd.begin hW hlo (by have := Steps.snoc hs hx; simpa using this), fun b e h => by cases h⟩
  · refine hF.step hW hr hB rfl ?_
    by_cases hc : k' + 1 ≤ hi ∧ best = none
    · rw [if_pos hc] at hx
      rw [if_pos ⟨hc.1, hc.2, hlk⟩]
      exact Steps.snoc hs hx
    · rw [if_neg hc] at hx
      rw [if_neg (fun h => hc ⟨h.1, h.2.1⟩), List.append_nil, hx]
      exact hs
theorem Fwd.here_le {p : List InstL} {rs : List Int} {lo hi k K : Nat} {here : List (Nat × Nat)} {best : Option (Nat × Nat)} (h : Fwd p rs lo hi k K here best) (hh : hi ≤ rs.length) : ∀ x ∈ here, x.2 ≤ rs.length := fun x hx => by have := (h.sound x.1 x.2 hx).2.1; omega
theorem FMem.keep {B g mb : Nat} {e : WEnv} {w0 w w' : World} {k : Nat} {here here' : List (Nat × Nat)} {best : Option (Nat × Nat)} (h : FMem B g mb e w0 w k here best) (hB : e.skip < B) (h0 : w0.heap.size ≤ B) (hm : ∃ last met, WalkM True B g mb e w' (atF (nums e.T) k) (here'.map (phi (nums e.T))) last met ∧ ∀ x ∈ met, x ≤ (atF (nums e.T) k : Int)) (hT : Below B w w') : FMem B g mb e w0 w' k here' best :=
  ⟨hm, (hT.block e.skip hB).trans h.2.1, h.2.2.trans (hT.mono h0)⟩
set_option maxHeartbeats 8000000 in
theorem first_any {F : Nat → Prop} (A : Option Addr) (n c : Nat) (l : List IV) (T : ByteArray) (w : World) (hi0 : InsF F w A n l) (hr : rightB n l = true) (hn : n ≤ 1000) (hT : T.size ≤ 1000) (lo hi : Nat) (hlo : lo ≤ hi) (hhi : hi ≤ (rsT (nums T)).length) :
    Calls Tryz.prog 50 #[.slice A n c, .string T, .int .i64 (atF (nums T) lo : Int), .int .i64 (atF (nums T) hi : Int)] w fun en w' => ∃ o, en = .returned (.tuple #[.agg #[.int .i64 (hitF (nums T) o).1, .int .i64 (hitF (nums T) o).2], .bool o.isSome]) ∧ FirstIs (l.map fun v => v.i) (rsT (nums T)) lo hi o ∧ Below w.heap.size w w' := by
  have hnl := nums_length T
  obtain ⟨hok, hn0, hp⟩ : (∀ v ∈ l, okB n v.i = true) ∧ 0 < n ∧ Within (l.map fun v => v.i) := by
    unfold rightB at hr
    rw [Bool.and_eq_true, List.all_eq_true, decide_eq_true_eq] at hr
    refine ⟨hr.1, hr.2, by rw [List.length_map, hi0.1]; exact hr.2, fun i v hv j hj => ?_⟩
    rw [List.getElem?_map] at hv
    obtain ⟨u, hu, rfl⟩ := Option.map_eq_some_iff.1 hv
    rw [List.length_map, hi0.1]
    rcases okB_cases (hr.1 u (List.mem_of_getElem? hu)) with h0 | ⟨h0, x, y, hx, hy, hxn, hyn⟩ | ⟨h0, x, hx, hxn⟩
    · unfold outs at hj; rw [if_pos h0] at hj; simp at hj
    · unfold outs at hj; rw [if_neg (by omega), if_pos h0, hx, hy] at hj; simp at hj; omega
    · unfold outs at hj; rw [if_neg (by omega), if_neg (by omega), hx] at hj; simp at hj; omega
  have hb0 : Below w.heap.size w (w.alloc (.cells #[.int .i64 0, .int .i64 0] 38)) := (Below.refl _ _).alloc (Nat.le_refl _) _
  have hbox := heap_alloc_new w (.cells #[.int .i64 0, .int .i64 0] 38)
  have hiF : InsF (fun b => b < w.heap.size) (w.alloc (.cells #[.int .i64 0, .int .i64 0] 38)) A n l := (hi0.mono fun b _ h => h).belowB hb0
  have HO := Lib.hid (onward_any A n c l _ hiF hp hok hn)
  have HH := Lib.hid (And.intro hiF (And.intro hp (And.intro hok (And.intro hb0 (And.intro hbox hnl)))))
  clear hi0 hr hb0 hbox hiF hok hp hnl
  go_enter Tryz.func50, Tryz.ntmps50
  go_wp2_with fail
  (with_reducible refine HO.out.mono ?_)
  rintro en w1 ⟨gw, rfl, hways, hb1⟩
  have hsz1 : (w.alloc (.cells #[.int .i64 0, .int .i64 0] 38)).heap.size = w.heap.size + 1 := by simp
  have hs1 := hb1.size
  rw [hsz1] at hs1 hb1 hways
  have hwi : WaysIn (l.map fun v => v.i) (buildW false n (edgesL (l.map fun v => v.i))) := by
    have := (onward_build (l.map fun v => v.i)).waysIn HH.out.2.1
    rwa [List.length_map, HH.out.1.1] at this
  have hon : Onward (l.map fun v => v.i) (buildW false n (edgesL (l.map fun v => v.i))) := by
    have := onward_build (l.map fun v => v.i)
    rwa [List.length_map, HH.out.1.1] at this
  obtain ⟨e, e1, e2, e3, e4, e5, e6, e7, e8, e9, e10⟩ : ∃ e : WEnv, e.A = A ∧ e.n = n ∧ e.c = c ∧ e.l = l ∧ e.T = T ∧ e.WA = some ⟨gw, 0, none⟩ ∧ e.wc = n ∧ e.W = buildW false n (edgesL (l.map fun v => v.i)) ∧ e.mc = n ∧ e.skip = w.heap.size :=
    ⟨⟨A, n, c, l, T, some ⟨gw, 0, none⟩, n, buildW false n (edgesL (l.map fun v => v.i)), n, w.heap.size⟩, rfl, rfl, rfl, rfl, rfl, rfl, rfl, rfl, rfl, rfl⟩
  have hi1 : InsF (Fs w1.heap.size w.heap.size) w1 A n l := ((HH.out.1.belowB (hb1.mono (Nat.le_succ _))).mono fun b h _ => ⟨by omega, by omega⟩)
  have hw1 : WaysF (Fs w1.heap.size w.heap.size) w1 (some ⟨gw, 0, none⟩) n (buildW false n (edgesL (l.map fun v => v.i))) := hways.mono fun b h1 h2 => ⟨h2, by omega⟩
  have hbx1 : w1.heap[w.heap.size]? = some (.cells #[.int .i64 0, .int .i64 0] 38 (0, 0)) := (hb1.block _ (Nat.lt_succ_self _)).trans HH.out.2.2.2.2.1
  have hb01 : Below w.heap.size w w1 := HH.out.2.2.2.1.trans (hb1.mono (Nat.le_succ _))
  subst e1; subst e2; subst e3; subst e4; subst e5
  rw [← e8] at hwi hon hw1
  rw [← e10] at hi1 hw1 hbx1
  rw [← e6] at hw1
  have HNw := Lib.hid (newWalk_any e w1 (atF (nums e.T) lo) hi1 hw1 hwi ⟨hn, hT, hn0⟩ e9)
  rw [e6, e7] at HNw
  have HE := Lib.hid (And.intro hon (And.intro hbx1 (And.intro hb01 (And.intro hs1 (And.intro HH.out.2.2.2.2.2 e10)))))
  have hsk : w.heap.size = e.skip := e10.symm
  clear hways hb1 hwi hon hi1 hw1 hbx1 hb01 hs1 hsz1 e6 e7 e8 e9 e10 HO HH
  go_wp2_with fail
  (with_reducible refine HNw.out.mono ?_)
  rintro en w2 ⟨g, mb, rfl, hC, hb2⟩
  have HC := Lib.hid (And.intro hC hb2)
  have hHead : FMem w1.heap.size g mb e w w2 lo [] none ∧ FHead e.p e.W (rsT (nums e.T)) lo hi lo [] none := by
    refine ⟨⟨⟨⟨none, 0, 0, []⟩, _, ⟨⟨_, _, _, hC⟩, fun i h => by simp at h, fun _ i h => ?_, List.Pairwise.nil, fun x hx => by simp at hx⟩, fun x hx => ?_⟩, (hb2.block _ (by have := HE.out.2.2.2.1; omega)).trans HE.out.2.1, HE.out.2.2.1.trans (hb2.mono (by have := HE.out.2.2.2.1; omega))⟩, ⟨[], .nil, .inl ⟨rfl, rfl, rfl⟩⟩⟩
    · have := List.eq_of_mem_replicate (List.mem_of_getElem? h)
      omega
    · rw [List.eq_of_mem_replicate hx]; omega
  have HHead := Lib.hid hHead
  clear hC hb2 hHead HNw
  go_wp2_with fail
  go_loopw [9] (fun v9 wr => ∃ (k : Nat) (here : List (Nat × Nat)) (best : Option (Nat × Nat)), v9 = .bool best.isSome ∧ k ≤ (rsT (nums e.T)).length ∧ Hid (lo ≤ k ∧ FMem w1.heap.size g mb e w wr k here best ∧ FHead e.p e.W (rsT (nums e.T)) lo hi k here best)) (fun _ wr => e.T.size - (match wr.cell? ⟨g, 3, none⟩ with | some (.int _ a) => a.toNat | _ => 0))
  case atStart => exact ⟨lo, [], none, rfl, by omega, Lib.hid ⟨Nat.le_refl _, HHead.out⟩⟩
  case round =>
    obtain ⟨k, here, best, rfl, hk, H1⟩ := hrel
    obtain ⟨last, met, hM, hmet⟩ := H1.out.2.1.1
    have c3 : wr.cell? ⟨g, 3, none⟩ = some (.int .i64 (atF (nums e.T) k : Int)) := by
      obtain ⟨_, _, _, hq⟩ := hM.s
      exact hq.cells.2.2.2.1
    have hlh := atF_le_iff hk hhi
    have HM := Lib.hid (And.intro hM hmet)
    have HC3 := Lib.hid c3
    clear hM hmet
    go_upto_region 2 with fail
    obtain ⟨mb0, hmb0⟩ : ∃ b : Bool, b = (decide (k ≤ hi) && best.isNone) := ⟨_, rfl⟩
    obtain ⟨wd, hwd⟩ : ∃ wd, wd = wr := ⟨_, rfl⟩
    go_cut [29] (fun s29 wx => s29 = .bool mb0 ∧ wd = wx)
    case first =>
      subst hwd
      by_cases hkh : k ≤ hi
      · have hle : (atF (nums e.T) k : Int) ≤ (atF (nums e.T) hi : Int) := by have := hlh.2 hkh; omega
        have hb : mb0 = best.isNone := by rw [hmb0, decide_eq_true hkh]; rfl
        clear hmb0 hkh
        cases best with
        | none =>
          go_wp2_with fail
          go_meet
          exact ⟨by rw [hb]; rfl, rfl⟩
        | some be =>
          go_wp2_with fail
          go_meet
          exact ⟨by rw [hb]; rfl, rfl⟩
      · have hle : ¬ (atF (nums e.T) k : Int) ≤ (atF (nums e.T) hi : Int) := by have := fun h => hkh (hlh.1 h); omega
        have hb : mb0 = false := by rw [hmb0, decide_eq_false hkh]; rfl
        clear hmb0 hkh
        go_wp2_with fail
        go_meet
        exact ⟨by rw [hb], rfl⟩
    case rest =>
      obtain ⟨rfl, rfl⟩ := hcut
      subst hwd
      have HMB := Lib.hid hmb0
      clear hmb0 hlh
      go_upto_if 29 with (fail)
      go_cut [] (fun wx => ∃ here2, Hid (FMem w1.heap.size g mb e w wx k here2 best ∧ Fwd e.p (rsT (nums e.T)) lo hi k k here2 best ∧ BestIn best here2))
      case first =>
        have hB : e.skip < w1.heap.size := by have := HE.out.2.2.2.1; omega
        have h0 : w.heap.size ≤ w1.heap.size := by omega
        cases mb0 with
        | true =>
          have hc : k ≤ hi ∧ best = none := by
            have := HMB.out.symm
            rw [Bool.and_eq_true, decide_eq_true_eq] at this
            exact ⟨this.1, by cases best with | none => rfl | some _ => cases this.2⟩
          have hmt := meet_any HM.out.1 0 (atF (nums e.T) k) hn0
          rw [show ((0 : Nat) : Int) = (0 : Int) from rfl] at hmt
          have HMt := Lib.hid hmt
          clear hmt
          have HC2 := Lib.hid (And.intro hc (And.intro hB h0))
          clear hc hB h0
          go_wp2_with (go_at_call 86; (with_reducible refine HMt.out.mono ?_); rintro en w8 ⟨rfl, h3, met3, hM8, hT8, hI8, hS8⟩; have H8 := Lib.hid (And.intro hM8 (And.intro hT8 (And.intro hI8 hS8))); clear hM8 hT8 hI8 hS8)
          go_meet
          have hS8 := H8.out.2.2.2 trivial
          rw [← HE.out.2.2.2.2.1, we_at hk] at hS8
          obtain ⟨here2, rfl, hmet2⟩ := hS8.unmap
          refine ⟨here2, Lib.hid ⟨H1.out.2.1.keep HC2.out.2.1 HC2.out.2.2 ⟨_, met3, H8.out.1, fun x hx => ?_⟩ H8.out.2.1.1, H1.out.2.2.mid HE.out.1 hlo ?_⟩⟩
          · rcases H8.out.2.2.1 x hx with h | h
            · exact HM.out.2 x h
            · omega
          · rw [if_pos HC2.out.1]; exact hmet2
        | false =>
          have hc : ¬ (k ≤ hi ∧ best = none) := fun ⟨h1, h2⟩ => by
            have := HMB.out
            rw [decide_eq_true h1, h2] at this
            cases this
          have HC2 := Lib.hid hc
          clear hc
          go_wp2
          go_meet
          exact ⟨here, Lib.hid ⟨H1.out.2.1, H1.out.2.2.mid HE.out.1 hlo (by rw [if_neg HC2.out])⟩⟩
      case rest =>
        obtain ⟨here2, H2⟩ := hcut
        have H1a := Lib.hid H1.out.1
        clear H1 HM c3 HMB
        obtain ⟨last2, met2, hM2, hmet2⟩ := H2.out.1.1
        have hlen : (here2.map (phi (nums e.T))).length ≤ 100000 := by have := here_len hM2.nodup hM2.inn; omega
        have HBest := Lib.hid (bestM_any hM2.s hM2.inn hlen)
        have HM2 := Lib.hid (And.intro hM2 (And.intro hmet2 hlen))
        clear hM2 hmet2 hlen
        go_wp2_with fail
        (with_reducible refine HBest.out.mono ?_)
        rintro en w4 ⟨f, ok, rfl, hbo, hb4⟩
        have HB4 := Lib.hid (And.intro hbo hb4)
        clear hbo hb4
        go_upto_if 43 with (fail)
        go_cut [9] (fun s9 wx => ∃ (here3 : List (Nat × Nat)) (best3 : Option (Nat × Nat)), s9 = .bool best3.isSome ∧ Hid (FEnd w1.heap.size g mb e w wx k here3 best3 ∧ Fwd e.p (rsT (nums e.T)) lo hi k (k + 1) here3 best3 ∧ BestIn best3 here3))
        case first =>
          have hB : e.skip < w1.heap.size := by have := HE.out.2.2.2.1; omega
          have h0 : w.heap.size ≤ w1.heap.size := by omega
          have hb4 : Below w1.heap.size wc w4 := HB4.out.2.mono (by obtain ⟨_, _, _, hq⟩ := HM2.out.1.s; have := hq.lt; have := hq.hB; omega)
          have hM4 := HM2.out.1.below HB4.out.2
          have hF4 : FMem w1.heap.size g mb e w w4 k here2 best := H2.out.1.keep hB h0 ⟨_, _, hM4, HM2.out.2.1⟩ hb4
          rcases HB4.out.1 with ⟨rfl, rfl, hno⟩ | ⟨rfl, A, j, b, Z, rfl, hsp, hA, hj⟩
          · have HF := Lib.hid (And.intro hF4 hno)
            clear hF4 hno hM4 hb4 hB h0
            go_wp2
            go_meet
            refine ⟨here2, best, rfl, Lib.hid ⟨HF.out.1.end_, H2.out.2.1.none_ fun j f hm hend => ?_, H2.out.2.2⟩⟩
            have h1 := HF.out.2 (phi (nums e.T) (j, f)) (List.mem_map.2 ⟨(j, f), hm, rfl⟩)
            obtain ⟨v, hv, hv0⟩ := hend
            unfold WEnv.p at hv
            rw [List.getElem?_map] at hv
            obtain ⟨u, hu, rfl⟩ := Option.map_eq_some_iff.1 hv
            have h2 : isEndB e.l (j, atF (nums e.T) f) = false := h1
            unfold isEndB at h2
            simp only [hu] at h2
            rw [hv0] at h2
            exact absurd h2 (by decide)
          · have hbx := hF4.2.1
            have x0 := cell_of_row w4 e.skip 0 _ _ (0, 0) hbx
            have x1 := cell_of_row w4 e.skip 1 _ _ (0, 0) hbx
            have y0 : w4.frozen? ⟨e.skip, 0, none⟩ = false := by simp [World.frozen?, hbx]
            have y1 : w4.frozen? ⟨e.skip, 1, none⟩ = false := by simp [World.frozen?, hbx]
            have g3 : w4.cell? ⟨g, 3, none⟩ = some (.int .i64 (atF (nums e.T) k : Int)) := by
              obtain ⟨_, _, _, hq⟩ := hM4.s
              exact hq.cells.2.2.2.1
            have HS := Lib.hid (And.intro hF4 (And.intro hM4 (And.intro hsp (And.intro hA (And.intro hj (And.intro hbx (And.intro hB h0)))))))
            clear hF4 hM4 hsp hA hj hb4 hbx hB h0
            have hoth : ∀ q, q ≠ e.skip → ((w4.setCell ⟨e.skip, 0, none⟩ (.int .i64 (b : Int))).setCell ⟨e.skip, 1, none⟩ (.int .i64 (atF (nums e.T) k : Int))).heap[q]? = w4.heap[q]? := fun q hq => (Below.heap_setCell _ _ _ _ hq).trans (Below.heap_setCell _ _ _ _ hq)
            have hset : ((w4.setCell ⟨e.skip, 0, none⟩ (.int .i64 (b : Int))).setCell ⟨e.skip, 1, none⟩ (.int .i64 (atF (nums e.T) k : Int))).heap[e.skip]? = some (.cells #[.int .i64 (b : Int), .int .i64 (atF (nums e.T) k : Int)] 38 (0, 0)) := by
              rw [heap_setCell_same _ e.skip 1 _ _ _ (heap_setCell_same w4 e.skip 0 _ _ _ HS.out.2.2.2.2.2.1)]; rfl
            have hsz5 : ((w4.setCell ⟨e.skip, 0, none⟩ (.int .i64 (b : Int))).setCell ⟨e.skip, 1, none⟩ (.int .i64 (atF (nums e.T) k : Int))).heap.size = w4.heap.size := by simp
            have hb5 : Below w.heap.size w ((w4.setCell ⟨e.skip, 0, none⟩ (.int .i64 (b : Int))).setCell ⟨e.skip, 1, none⟩ (.int .i64 (atF (nums e.T) k : Int))) := ((HS.out.1.2.2.setCell (p := ⟨e.skip, 0, none⟩) (by show w.heap.size ≤ e.skip; omega) _).setCell (p := ⟨e.skip, 1, none⟩) (by show w.heap.size ≤ e.skip; omega) _)
            have hS5 : WalkS w1.heap.size g mb e ((w4.setCell ⟨e.skip, 0, none⟩ (.int .i64 (b : Int))).setCell ⟨e.skip, 1, none⟩ (.int .i64 (atF (nums e.T) k : Int))) (atF (nums e.T) k) (here2.map (phi (nums e.T))) last2 met2 := by
              obtain ⟨_, _, _, hq⟩ := HS.out.2.1.s
              exact ⟨_, _, _, hq.skip HS.out.2.2.2.2.2.2.1 (by omega) fun q _ hq => hoth q hq⟩
            have hle2 := H2.out.2.1.here_le hhi
            have hsrt : (here2.map (phi (nums e.T))).Pairwise fun x y => x.2 ≤ y.2 := by
              rw [List.pairwise_map]
              refine List.Pairwise.imp_of_mem ?_ H2.out.2.1.sorted
              intro x y _ hy h
              exact atF_le (hle2 y hy) h
            have HLv := Lib.hid (leave_any hS5 HM2.out.2.2 hsrt b)
            have H5 := Lib.hid (And.intro hset (And.intro hb5 hle2))
            clear hoth hset hsz5 hb5 hS5 hsrt hle2
            go_wp2_with (go_at_call 89; (with_reducible refine HLv.out.mono ?_); rintro en w6 ⟨rfl, hS6, hT6⟩; have H6 := Lib.hid (And.intro hS6 hT6); clear hS6 hT6)
            go_meet
            obtain ⟨l1, l2, e1, e2, e3⟩ := List.map_eq_append_iff.1 HS.out.2.2.1
            obtain ⟨z, l3, rfl, e4, e5⟩ := List.map_eq_cons_iff.1 e3
            obtain ⟨j2, bi⟩ := z
            injection e4 with e4 e6
            have e4 : j2 = j := e4
            have e6 : atF (nums e.T) bi = b := e6
            subst e4
            have hbi : bi ≤ (rsT (nums e.T)).length := H5.out.2.2 (j2, bi) (by rw [e1]; simp)
            have hfil := filter_map hbi here2 H5.out.2.2
            rw [e6] at hfil
            have hendj : IsEnd e.p j2 := by
              have h2 := HS.out.2.2.2.2.1
              unfold isEndB at h2
              simp only at h2
              cases hu : e.l[j2]? with
              | none => rw [hu] at h2; cases h2
              | some u =>
                rw [hu] at h2
                exact ⟨u.i, by unfold WEnv.p; rw [List.getElem?_map, hu]; rfl, by simpa using h2⟩
            have hbs : e.skip < w1.heap.size := HS.out.2.2.2.2.2.2.1
            refine ⟨here2.filter fun x => decide (x.2 ≤ bi), some (bi, k), rfl, Lib.hid ⟨⟨⟨last2, met2, ?_, fun x hx => HS.out.2.1.inn (phi (nums e.T) x) (List.mem_map.2 ⟨x, (List.mem_filter.1 hx).1, rfl⟩), HM2.out.2.1⟩, ?_, ?_⟩, H2.out.2.1.some_ H2.out.2.2 e1 (fun i f hm hend => ?_) hendj, fun b' e' h' j' f' hm' => ?_⟩⟩
            · rw [← hfil]; exact H6.out.1
            · rw [(H6.out.2.1.block e.skip hbs).trans H5.out.1]
              simp only [hitF, e6]
            · exact H5.out.2.1.trans (H6.out.2.1.mono HS.out.2.2.2.2.2.2.2)
            · have h1 := HS.out.2.2.2.1 (phi (nums e.T) (i, f)) (by rw [← e2]; exact List.mem_map.2 ⟨(i, f), hm, rfl⟩)
              obtain ⟨v, hv, hv0⟩ := hend
              unfold WEnv.p at hv
              rw [List.getElem?_map] at hv
              obtain ⟨u, hu, rfl⟩ := Option.map_eq_some_iff.1 hv
              have h2 : isEndB e.l (i, atF (nums e.T) f) = false := h1
              unfold isEndB at h2
              simp only [hu] at h2
              rw [hv0] at h2
              exact absurd h2 (by decide)
            · injection h' with h'
              injection h' with h' _
              have := (List.mem_filter.1 hm').2
              simp at this
              omega
        case rest =>
          obtain ⟨here3, best3, rfl, H3⟩ := hcut
          clear H2 HM2 HBest HB4
          obtain ⟨last3, met3, ⟨H6, hn6, hc6, hC6⟩, hin3, hmet3⟩ := H3.out.1.1
          have d3 := hC6.cells.2.2.2.1
          have d4 := hC6.cells.2.2.2.2.1
          have hl6 := own_len hC6.row
          rw [List.length_map] at hl6
          have hn6e : hn6 = 0 ↔ here3 = [] := by rw [← hl6]; exact List.length_eq_zero_iff
          have HC6 := Lib.hid (And.intro hC6 (And.intro hin3 (And.intro hmet3 hn6e)))
          have hlh := atF_le_iff hhi hk
          obtain ⟨ov, hov⟩ : ∃ ov : Bool, ov = (decide (hn6 = 0) && (best3.isSome || decide (hi ≤ k))) := ⟨_, rfl⟩
          clear hC6 hin3 hmet3 hl6 hn6e
          obtain ⟨wz, hwz⟩ : ∃ wz, wz = wc := ⟨_, rfl⟩
          go_upto_region 8 with fail
          go_cut [13] (fun s13 wx => s13 = .bool ov ∧ wz = wx)
          case first =>
            subst hwz
            by_cases hn0' : hn6 = 0
            · have hz : ((hn6 : Int) == 0) = true := by rw [hn0']; rfl
              rw [decide_eq_true hn0', Bool.true_and] at hov
              cases best3 with
              | some be =>
                have HOV := Lib.hid hov
                clear hov hn0'
                go_wp2_with fail
                go_meet
                exact ⟨by rw [HOV.out]; rfl, rfl⟩
              | none =>
                by_cases hkh : hi ≤ k
                · have hle : (atF (nums e.T) k : Int) ≥ (atF (nums e.T) hi : Int) := by have := hlh.2 hkh; omega
                  rw [decide_eq_true hkh] at hov
                  have HOV := Lib.hid hov
                  clear hov hn0' hkh
                  go_wp2_with fail
                  go_meet
                  exact ⟨by rw [HOV.out]; rfl, rfl⟩
                · have hle : ¬ (atF (nums e.T) k : Int) ≥ (atF (nums e.T) hi : Int) := by have := fun h => hkh (hlh.1 h); omega
                  rw [decide_eq_false hkh] at hov
                  have HOV := Lib.hid hov
                  clear hov hn0' hkh
                  go_wp2_with fail
                  go_meet
                  exact ⟨by rw [HOV.out]; rfl, rfl⟩
            · have hz : ((hn6 : Int) == 0) = false := by simp; omega
              rw [decide_eq_false hn0', Bool.false_and] at hov
              have HOV := Lib.hid hov
              clear hov hn0'
              go_wp2_with fail
              go_meet
              exact ⟨by rw [HOV.out], rfl⟩
          case rest =>
            obtain ⟨rfl, rfl⟩ := hcut
            subst hwz
            have HOV := Lib.hid hov
            clear hov hlh
            have hTl : (nums e.T).length = e.T.size := HE.out.2.2.2.2.1
            have hend := atF_end_iff (T := nums e.T) hk
            rw [hTl] at hend
            have hat := atF_max (T := nums e.T) hk
            rw [hTl] at hat
            have hbx := H3.out.1.2.1
            obtain ⟨p1, hp1⟩ : ∃ p1, p1 = (hitF (nums e.T) best3).1 := ⟨_, rfl⟩
            obtain ⟨p2, hp2⟩ : ∃ p2, p2 = (hitF (nums e.T) best3).2 := ⟨_, rfl⟩
            rw [← hp1, ← hp2] at hbx
            have x0 := cell_of_row wz e.skip 0 _ _ (0, 0) hbx
            have x1 := cell_of_row wz e.skip 1 _ _ (0, 0) hbx
            have y0 : wz.frozen? ⟨e.skip, 0, none⟩ = false := by simp [World.frozen?, hbx]
            have y1 : wz.frozen? ⟨e.skip, 1, none⟩ = false := by simp [World.frozen?, hbx]
            have HP := Lib.hid (And.intro hp1 (And.intro hp2 hbx))
            clear hp1 hp2 hbx
            obtain ⟨fin, hfin⟩ : ∃ fin : Bool, fin = (ov || decide (k = (rsT (nums e.T)).length)) := ⟨_, rfl⟩
            obtain ⟨wy, hwy⟩ : ∃ wy, wy = wz := ⟨_, rfl⟩
            go_upto_region 9 with fail
            go_cut [79] (fun s79 wx => s79 = .bool fin ∧ wy = wx)
            case first =>
              subst hwy
              clear x0 x1 y0 y1 d4
              cases ov with
              | true =>
                have HF := Lib.hid hfin
                clear hfin hend hat hTl
                go_wp2_with fail
                go_meet
                exact ⟨by rw [HF.out]; rfl, rfl⟩
              | false =>
                by_cases hkm : k = (rsT (nums e.T)).length
                · rw [hend.2 hkm] at d3
                  rw [decide_eq_true hkm] at hfin
                  have HF := Lib.hid hfin
                  clear hfin hend hat hTl hkm
                  go_wp2_with fail
                  go_meet
                  exact ⟨by rw [HF.out]; rfl, rfl⟩
                · have hz : ((atF (nums e.T) k : Int) == (e.T.size : Int)) = false := by simp; omega
                  rw [decide_eq_false hkm] at hfin
                  have HF := Lib.hid hfin
                  clear hfin hend hat hTl hkm
                  go_wp2_with fail
                  go_meet
                  exact ⟨by rw [HF.out]; rfl, rfl⟩
            case rest =>
              obtain ⟨rfl, rfl⟩ := hcut
              subst hwy
              have HFin := Lib.hid hfin.symm
              clear hfin
              cases fin with
              | true =>
                clear hend hat hTl d3 d4
                go_upto_region 10 with fail
                repeat (first | (go_big_may; go_says fail) | go_values | go_skip | go_guarded | go_step | go_upon)
                have hset : ((wy.setCell ⟨e.skip, 0, none⟩ (.int .i64 p1)).setCell ⟨e.skip, 1, none⟩ (.int .i64 p2)).heap[e.skip]? = some (.cells #[.int .i64 p1, .int .i64 p2] 38 (0, 0)) := by
                  rw [heap_setCell_same _ e.skip 1 _ _ _ (heap_setCell_same wy e.skip 0 _ _ _ HP.out.2.2)]; rfl
                have z0 := cell_of_row _ e.skip 0 _ _ (0, 0) hset
                have z1 := cell_of_row _ e.skip 1 _ _ (0, 0) hset
                have hbf : Below w.heap.size w ((wy.setCell ⟨e.skip, 0, none⟩ (.int .i64 p1)).setCell ⟨e.skip, 1, none⟩ (.int .i64 p2)) := ((H3.out.1.2.2.setCell (p := ⟨e.skip, 0, none⟩) (by show w.heap.size ≤ e.skip; omega) _).setCell (p := ⟨e.skip, 1, none⟩) (by show w.heap.size ≤ e.skip; omega) _)
                generalize (wy.setCell ⟨e.skip, 0, none⟩ (.int .i64 p1)).setCell ⟨e.skip, 1, none⟩ (.int .i64 p2) = wf at hset z0 z1 hbf ⊢
                clear x0 x1 y0 y1 hset
                refine bodyPost_ret (v := .tuple #[.agg #[.int .i64 p1, .int .i64 p2], .bool best3.isSome]) ?_ rfl ?_
                · rw [results_cell_tmp rfl]; go_simp
                · refine ⟨best3, ?_, H3.out.2.1.over hhi (by
                    have h1 := HFin.out
                    rcases Bool.or_eq_true_iff.1 h1 with h1 | h1
                    · rw [HOV.out] at h1
                      rw [Bool.and_eq_true, decide_eq_true_eq] at h1
                      refine .inr ⟨HC6.out.2.2.2.1 h1.1, ?_⟩
                      rcases Bool.or_eq_true_iff.1 h1.2 with h2 | h2
                      · exact .inl fun h => by rw [h] at h2; cases h2
                      · exact .inr (by simpa using h2)
                    · exact .inl (by simpa using h1)), hbf⟩
                  rw [HP.out.1, HP.out.2.1]
              | false =>
                have hkm : ¬ k = (rsT (nums e.T)).length := fun h => by
                  have := HFin.out
                  rw [decide_eq_true h, Bool.or_true] at this
                  cases this
                have hlt : k < (rsT (nums e.T)).length := by omega
                have hnx := atF_next hlt
                have hnlt := atF_lt (T := nums e.T) (show k + 1 ≤ (rsT (nums e.T)).length by omega) (Nat.lt_succ_self k)
                have hmx := atF_max (T := nums e.T) (show k + 1 ≤ (rsT (nums e.T)).length by omega)
                rw [hTl] at hnx hmx
                have hwr : True := trivial
                have hz : ((atF (nums e.T) k : Int) == (e.T.size : Int)) = false := by simp; omega
                have HSz := Lib.hid fun w => msize_any e.T (atF (nums e.T) k) w hnx.1 (by omega)
                obtain ⟨z, hzz⟩ : ∃ z, z = szT (nums e.T) (atF (nums e.T) k) := ⟨_, rfl⟩
                rw [← hzz] at HSz
                have hcast : ((atF (nums e.T) (k + 1) : Nat) : Int) = (atF (nums e.T) k : Int) + (z : Int) := by have := hnx.2.1; omega
                have hzl : (z : Int) ≤ 4 := by have := szT_pos (T := nums e.T) (a := atF (nums e.T) k) (by omega); omega
                have hal : (atF (nums e.T) k : Int) ≤ 1000 := by omega
                have hgl := HC6.out.1.lt.1
                have HSt := Lib.hid fun (w' : World) (hb : Below wy.heap.size wy w') => step_next ⟨H6, hn6, hc6, HC6.out.1.below hb⟩ H3.out.2.1.nodup HC6.out.2.1 HC6.out.2.2.1 hlt hzz
                have HN := Lib.hid (And.intro hlt (And.intro hnx (And.intro hnlt (And.intro hmx (And.intro hTl hcast)))))
                have k3 : ∀ w', Below wy.heap.size wy w' → w'.cell? ⟨g, 3, none⟩ = some (.int .i64 (atF (nums e.T) k : Int)) := fun w' hb => (hb.cell (p := ⟨g, 3, none⟩) hgl).trans d3
                have d3' : wy.drew.cell? ⟨g, 3, none⟩ = some (.int .i64 (atF (nums e.T) k : Int)) := d3
                have K3 := Lib.hid k3
                clear hkm hend hat hTl d4 hlt hnx hnlt hmx hzz hcast hgl k3
                have hwrap : IntKind.i64.wrap ((atF (nums e.T) k : Int) + (z : Int)) = (atF (nums e.T) k : Int) + (z : Int) := by rw [IntKind.wrap_i64]; omega
                clear x0 x1 y0 y1 hz hwr
                go_upto_region 11 with fail
                go_region_with (first
                  | (go_at_call 83; (with_reducible refine (HSz.out _).mono ?_); rintro en w5 ⟨rfl, hb5⟩; have hb6 : Below wy.heap.size wy w5 := (Below.refl wy.heap.size wy).drew.trans hb5; have q3 := K3.out w5 hb6; have HB5 := Lib.hid hb6; clear hb5 hb6)
                  | (go_at_call 90; (with_reducible refine (HSt.out _ HB5.out).mono ?_); rintro en w8 ⟨rfl, here4, last4, met4, hM8, hT8, hI8, hS8⟩; have H8 := Lib.hid (And.intro hM8 (And.intro hT8 (And.intro hI8 hS8))); clear hM8 hT8 hI8 hS8))
                all_goals
                  go_roundw
                  case rel =>
                    (repeat apply Exists.intro)
                    exact ⟨⟨k + 1, here4, best3, rfl, HN.out.1, Lib.hid ⟨by have := H1a.out; omega, ⟨⟨last4, met4, H8.out.1, H8.out.2.2.1⟩, ((HB5.out.block e.skip (by have := HC6.out.1.lt; have := HC6.out.1.hB; have := HE.out.2.2.2.1; omega)).trans H3.out.1.2.1) |> fun h => (H8.out.2.1.1.block e.skip (by have := HE.out.2.2.2.1; omega)).trans h, (H3.out.1.2.2.trans (HB5.out.mono (by have := HC6.out.1.lt; have := HC6.out.1.hB; have := HE.out.2.2.2.1; omega))).trans (H8.out.2.1.1.mono (by have := HE.out.2.2.2.1; omega))⟩, ⟨_, H8.out.2.2.2, .inr ⟨k, here3, _, rfl, by have := H1a.out; omega, HN.out.2.1.2.2, H3.out.2.1, H3.out.2.2, rfl⟩⟩⟩⟩, rfl⟩
                  case measure =>
                    have h1 := HC3.out
                    have h2 : w8.cell? ⟨g, 3, none⟩ = some (.int .i64 (atF (nums e.T) (k + 1) : Int)) := by
                      obtain ⟨_, _, _, hq⟩ := H8.out.1.s
                      exact hq.cells.2.2.2.1
                    rw [h1, h2]
                    simp
                    have := HN.out
                    omega
end Go.Proofs.YtaapbmdojkjphaaGreat
namespace Go.Proofs.YtaapbmdojkjphaaGreat
open Go Go.RowKit
set_option linter.unusedVariables false
set_option maxRecDepth 20000
theorem FirstIs.uniq {p : List InstL} {rs : List Int} {lo hi : Nat} {x y : Option (Nat × Nat)} (hx : FirstIs p rs lo hi x) (hy : FirstIs p rs lo hi y) : x = y := by
  cases x with
  | none => cases y with
    | none => rfl
    | some q => exact absurd hy.2.2.1.1 (hx _ _ hy.1 hy.2.1)
  | some q => cases y with
    | none => exact absurd hx.2.2.1.1 (hy _ _ hx.1 hx.2.1)
    | some q' =>
      obtain ⟨b, e⟩ := q
      obtain ⟨b', e'⟩ := q'
      obtain ⟨h1, h2, h3, h4⟩ := hx
      obtain ⟨k1, k2, k3, k4⟩ := hy
      rcases Nat.lt_trichotomy b b' with h | h | h
      · exact absurd h3.1 (k4 _ _ h1 h)
      · subst h
        have := h3.uniq k3
        injection this with this
        rw [this]
      · exact absurd k3.1 (h4 _ _ k1 h)
def PlaceFrom (T : List Int) (a : Int) (k : Nat) : Prop := k ≤ (rsT T).length ∧ (∀ j, j < k → (atF T j : Int) < a) ∧ a ≤ (atF T k : Int)
theorem PlaceFrom.uniq {T : List Int} {a : Int} {k k' : Nat} (h : PlaceFrom T a k) (h' : PlaceFrom T a k') : k = k' := by
  rcases Nat.lt_trichotomy k k' with h1 | h1 | h1
  · have := h'.2.1 k h1; have := h.2.2; omega
  · exact h1
  · have := h.2.1 k' h1; have := h'.2.2; omega
theorem placeFrom_some {T : List Int} {a : Int} (h : a ≤ (T.length : Int)) : ∃ k, PlaceFrom T a k := by
  have key : ∀ n, n ≤ (rsT T).length → (∃ k, PlaceFrom T a k) ∨ ∀ j, j ≤ n → (atF T j : Int) < a := by
    intro n
    induction n with
    | zero =>
      intro h0
      by_cases hc : a ≤ (atF T 0 : Int)
      · exact .inl ⟨0, h0, fun j hj => by omega, hc⟩
      · exact .inr fun j hj => by obtain rfl : j = 0 := by omega
                                  omega
    | succ n ih =>
      intro h0
      rcases ih (by omega) with h1 | h1
      · exact .inl h1
      · by_cases hc : a ≤ (atF T (n + 1) : Int)
        · exact .inl ⟨n + 1, h0, fun j hj => h1 j (by omega), hc⟩
        · refine .inr fun j hj => ?_
          rcases Nat.lt_or_ge j (n + 1) with h2 | h2
          · exact h1 j (by omega)
          · obtain rfl : j = n + 1 := by omega
            omega
  rcases key _ (Nat.le_refl _) with h1 | h1
  · exact h1
  · have := h1 _ (Nat.le_refl _)
    rw [atF_last] at this
    omega
def FirstV (p : List InstL) (T : List Int) (a : Int) (hit : Int × Int) (ok : Bool) : Prop :=
  ∃ o, ((∃ k, PlaceFrom T a k ∧ FirstIs p (rsT T) k (rsT T).length o) ∨ ((T.length : Int) < a ∧ o = none)) ∧ hit = hitF T o ∧ ok = o.isSome
theorem FirstV.uniq {p : List InstL} {T : List Int} {a : Int} {v v' : Int × Int} {ok ok' : Bool} (h : FirstV p T a v ok) (h' : FirstV p T a v' ok') : v = v' ∧ ok = ok' := by
  obtain ⟨o, h1, h2, h3⟩ := h
  obtain ⟨o', k1, k2, k3⟩ := h'
  have : o = o' := by
    rcases h1 with ⟨k, hk, hf⟩ | ⟨hl, rfl⟩
    · rcases k1 with ⟨k', hk', hf'⟩ | ⟨hl', rfl⟩
      · obtain rfl := hk.uniq hk'
        exact hf.uniq hf'
      · have := hk.2.2
        have := atF_max (T := T) hk.1
        omega
    · rcases k1 with ⟨k', hk', hf'⟩ | ⟨hl', rfl⟩
      · have := hk'.2.2
        have := atF_max (T := T) hk'.1
        omega
      · rfl
  subst this
  exact ⟨h2.trans k2.symm, h3.trans k3.symm⟩
theorem hit_box {w w' : World} {x y : Int} (hb : Below (w.alloc (.cells #[.int .i64 x, .int .i64 y] 38)).heap.size (w.alloc (.cells #[.int .i64 x, .int .i64 y] 38)) w') : w'.heap[w.heap.size]? = some (.cells #[.int .i64 x, .int .i64 y] 38 (0, 0)) := (hb.block _ (by simp)).trans (heap_alloc_new w _)
theorem box_two {w : World} {b : Nat} {x y : Value} {t : TypeId} (h : w.heap[b]? = some (.cells #[x, y] t (0, 0))) : w.cell? ⟨b, 0, none⟩ = some x ∧ w.cell? ⟨b, 1, none⟩ = some y ∧ w.frozen? ⟨b, 0, none⟩ = false ∧ w.frozen? ⟨b, 1, none⟩ = false :=
  ⟨cell_of_row _ b 0 _ _ (0, 0) h, cell_of_row _ b 1 _ _ (0, 0) h, by simp [World.frozen?, h], by simp [World.frozen?, h]⟩
theorem box_put {w : World} {b : Nat} {x y x' y' : Value} {t : TypeId} (h : w.heap[b]? = some (.cells #[x, y] t (0, 0))) : ((w.setCell ⟨b, 0, none⟩ x').setCell ⟨b, 1, none⟩ y').heap[b]? = some (.cells #[x', y'] t (0, 0)) := by
  rw [heap_setCell_same _ b 1 _ _ _ (heap_setCell_same w b 0 _ _ _ h)]; rfl
set_option maxHeartbeats 4000000 in
theorem first_match {F : Nat → Prop} (A : Option Addr) (n c : Nat) (l : List IV) (T : ByteArray) (at_ : Int) (w : World) (hi0 : InsF F w A n l) (hr : rightB n l = true) (hn : n ≤ 1000) (hT : T.size ≤ 1000) :
    Calls Tryz.prog 24 #[.slice A n c, .string T, .int .i64 at_] w fun e w' => ∃ x y ok, e = .returned (.tuple #[.agg #[.int .i64 x, .int .i64 y], .bool ok]) ∧ FirstV (l.map fun v => v.i) (nums T) at_ (x, y) ok ∧ Below w.heap.size w w' := by
  have hnl := nums_length T
  have hb0 : Below w.heap.size w (w.alloc (.cells #[.int .i64 0, .int .i64 0] 38)) := (Below.refl _ _).alloc (Nat.le_refl _) _
  have HR := Lib.hid (right_any A n c l _ (hi0.insAt.below hb0) (by omega))
  rw [hr] at HR
  have HI := Lib.hid (And.intro (hi0.mono (F' := fun b => b < w.heap.size) fun b _ h => h) hr)
  have HP := Lib.hid fun a w => isPlace_any T a w (by omega)
  have HB0 := Lib.hid hb0
  have HN := Lib.hid hnl
  clear hi0 hr hb0
  by_cases hlong : (T.size : Int) < at_
  · have hm : max at_ 0 = at_ := by omega
    clear hnl
    go_enter Tryz.func24, Tryz.ntmps24
    go_wp2_with (go_at_call 48; (with_reducible refine HR.out.mono ?_); rintro e w2 ⟨rfl, hb⟩; have HB := Lib.hid (And.intro (HB0.out.trans (hb.mono (by simp))) (hit_box hb)); obtain ⟨x0, x1, y0, y1⟩ := box_two (hit_box hb); clear hb)
    have hset := box_put (x' := .int .i64 0) (y' := .int .i64 0) HB.out.2
    have hbf := (HB.out.1.setCell (p := ⟨w.heap.size, 0, none⟩) (Nat.le_refl _) (.int .i64 0)).setCell (p := ⟨w.heap.size, 1, none⟩) (Nat.le_refl _) (.int .i64 0)
    obtain ⟨z0, z1, _, _⟩ := box_two hset
    generalize (w2.setCell ⟨w.heap.size, 0, none⟩ (.int .i64 0)).setCell ⟨w.heap.size, 1, none⟩ (.int .i64 0) = wf at hset z0 z1 hbf ⊢
    clear x0 x1 y0 y1 hset
    refine bodyPost_ret (v := .tuple #[.agg #[.int .i64 0, .int .i64 0], .bool false]) ?_ rfl ⟨0, 0, false, rfl, ⟨none, .inr ⟨by have := HN.out; omega, rfl⟩, rfl, rfl⟩, hbf⟩
    rw [results_cell_tmp rfl]; go_simp
  · obtain ⟨k, hk⟩ := placeFrom_some (T := nums T) (a := at_) (by omega)
    obtain ⟨m, hm⟩ : ∃ m : Nat, max at_ 0 = (m : Int) := ⟨(max at_ 0).toNat, by omega⟩
    have hmk : m ≤ atF (nums T) k ∧ at_ ≤ (m : Int) := by have := hk.2.2; omega
    have hkm := atF_max (T := nums T) hk.1
    have hmT : ¬ T.size < m := by omega
    have hmT2 : decide (T.size < m) = false := decide_eq_false hmT
    have hFi := fun w2 (hb : Below w.heap.size w w2) => first_any A n c l T w2 (HI.out.1.belowB hb) HI.out.2 hn hT k (rsT (nums T)).length hk.1 (Nat.le_refl _)
    rw [atF_last, hnl] at hFi
    have HFi := Lib.hid hFi
    have HK := Lib.hid (And.intro hk (And.intro hmk hkm))
    clear hk hmk hkm hnl hlong hFi
    go_enter Tryz.func24, Tryz.ntmps24
    go_wp2_with (go_at_call 48; (with_reducible refine HR.out.mono ?_); rintro e w2 ⟨rfl, hb⟩; have HB := Lib.hid (And.intro (HB0.out.trans (hb.mono (by simp))) (hit_box hb)); clear hb)
    go_loopw [2] (fun v2 wr => ∃ f : Nat, v2 = .int .i64 (f : Int) ∧ f ≤ T.size ∧ Hid (f ≤ atF (nums T) k ∧ at_ ≤ (f : Int) ∧ Below w.heap.size w wr ∧ wr.heap[w.heap.size]? = some (.cells #[.int .i64 0, .int .i64 0] 38 (0, 0)))) (fun v2 _ => T.size - (intOf v2).toNat)
    case atStart => exact ⟨m, rfl, by omega, Lib.hid ⟨HK.out.2.1.1, HK.out.2.1.2, HB.out.1, HB.out.2⟩⟩
    case round =>
      obtain ⟨f, rfl, hfT, H⟩ := hrel
      by_cases hp : plB (nums T) (f : Int) = true
      · have hfk : f = atF (nums T) k := by
          obtain ⟨h0, j, hj⟩ := plB_iff.1 hp
          rw [Int.toNat_natCast] at hj
          obtain ⟨h1, h2⟩ := atF_of hj
          obtain ⟨⟨k1, k2, k3⟩, _⟩ := HK.out
          have hf := H.out
          rcases Nat.lt_trichotomy j k with h3 | h3 | h3
          · have := k2 j h3; omega
          · subst h3; exact h1.symm
          · have := atF_lt (T := nums T) h2 h3; omega
        have HPf := Lib.hid (HP.out (f : Int) wr)
        rw [hp] at HPf
        rw [← hfk] at HFi
        have HKF := Lib.hid hfk
        clear hp hfk
        go_wp2_with (first
          | (go_at_call 49; (with_reducible refine HPf.out.mono ?_); rintro e w3 ⟨rfl, hb⟩; have HB2 := Lib.hid (And.intro (H.out.2.2.1.trans (hb.mono H.out.2.2.1.size)) ((hb.block _ (Array.getElem?_eq_some_iff.1 H.out.2.2.2).1).trans H.out.2.2.2)); clear hb)
          | (go_at_call 50; (with_reducible refine (HFi.out _ HB2.out.1).mono ?_); rintro e w4 ⟨o, rfl, hf, hb⟩; have hbx := (hb.block w.heap.size (Array.getElem?_eq_some_iff.1 HB2.out.2).1).trans HB2.out.2; have HO := Lib.hid (And.intro hf (And.intro (HB2.out.1.trans (hb.mono HB2.out.1.size)) hbx)); obtain ⟨x0, x1, y0, y1⟩ := box_two hbx; clear hf hb hbx))
        have hset := box_put (x' := .int .i64 (hitF (nums T) o).1) (y' := .int .i64 (hitF (nums T) o).2) HO.out.2.2
        have hbf := (HO.out.2.1.setCell (p := ⟨w.heap.size, 0, none⟩) (Nat.le_refl _) (.int .i64 (hitF (nums T) o).1)).setCell (p := ⟨w.heap.size, 1, none⟩) (Nat.le_refl _) (.int .i64 (hitF (nums T) o).2)
        obtain ⟨z0, z1, _, _⟩ := box_two hset
        generalize (w4.setCell ⟨w.heap.size, 0, none⟩ (.int .i64 (hitF (nums T) o).1)).setCell ⟨w.heap.size, 1, none⟩ (.int .i64 (hitF (nums T) o).2) = wf at hset z0 z1 hbf ⊢
        clear x0 x1 y0 y1 hset
        refine bodyPost_ret (v := .tuple #[.agg #[.int .i64 (hitF (nums T) o).1, .int .i64 (hitF (nums T) o).2], .bool o.isSome]) ?_ rfl ⟨_, _, _, rfl, ⟨o, .inl ⟨k, HK.out.1, HO.out.1⟩, rfl, rfl⟩, hbf⟩
        rw [results_cell_tmp rfl]; go_simp
      · have hne : f ≠ atF (nums T) k := fun e => hp (plB_iff.2 ⟨by omega, k, by rw [Int.toNat_natCast, e]; exact atF_at HK.out.1.1⟩)
        have HPf := Lib.hid (HP.out (f : Int) wr)
        rw [show plB (nums T) (f : Int) = false by simpa using hp] at HPf
        have HNE := Lib.hid hne
        clear hp hne
        have hT1 : (f : Int) ≤ 1000 := by omega
        go_wp2_with (go_at_call 49; (with_reducible refine HPf.out.mono ?_); rintro e w3 ⟨rfl, hb⟩; have HB2 := Lib.hid (And.intro (H.out.2.2.1.trans (hb.mono H.out.2.2.1.size)) ((hb.block _ (Array.getElem?_eq_some_iff.1 H.out.2.2.2).1).trans H.out.2.2.2)); clear hb)
        have h1 := HNE.out
        have h2 := H.out.1
        have h3 := HK.out.2.2
        have h4 := HN.out
        refine ⟨⟨f + 1, rfl, by omega, Lib.hid ⟨by omega, by have := H.out.2.1; omega, HB2.out.1, HB2.out.2⟩⟩, by simp [intOf]; omega⟩
end Go.Proofs.YtaapbmdojkjphaaGreat
namespace Go.Proofs.YtaapbmdojkjphaaGreat
open Go Go.RowKit
set_option linter.unusedVariables false
set_option maxRecDepth 20000
def QEng (rs : List Int) (w : World) (x : Nat) : Prop := ∃ P S j i, EngC (rs.length + 1) (plainP rs) P S true j w x ∧ nums P = putAll rs ∧ nums S = (nums P).take i ∧ (j = true → S = P) ∧ (putAll rs).length ≤ 200
theorem QEng.keep {rs : List Int} {w w' : World} {x : Nat} (h : QEng rs w x) (hb : Below w.heap.size w w') : QEng rs w' x := by
  obtain ⟨P, S, j, i, h1, h2⟩ := h
  exact ⟨P, S, j, i, h1.keep hb, h2⟩
theorem Pl.begin {T L M : List Int} {f q i : Nat} (h : Pl T L f q) (hM : M = L.take i) : Pl T M f q := by
  obtain ⟨h1, h2, h3⟩ := h
  have hl : M.length ≤ L.length := by rw [hM, List.length_take]; omega
  refine ⟨h1, by omega, ?_⟩
  have e : M = L.take M.length := by
    rw [hM, List.length_take]
    by_cases hi : i ≤ L.length
    · rw [Nat.min_eq_left hi]
    · rw [Nat.min_eq_right (by omega), List.take_of_length_le (by omega), List.take_length]
  conv => rhs; rw [e, ← h3, List.take_take, Nat.min_eq_left hl]
theorem pl_self (L : List Int) : Pl L L 0 0 := ⟨Nat.le_refl _, by omega, by rw [List.drop_zero, List.take_length]⟩
theorem pl_hit {rs os : List Int} {k : Nat} (h : (os.drop k).take rs.length = rs) (h0 : rs ≠ []) : Pl (putAll os) (putAll rs) 0 (putAll (os.take k)).length := by
  have e : os = os.take k ++ (rs ++ (os.drop k).drop rs.length) := by
    conv => lhs; rw [← List.take_append_drop k os]
    congr 1
    conv => lhs; rw [← List.take_append_drop rs.length (os.drop k), h]
  have e2 : putAll os = putAll (os.take k) ++ (putAll rs ++ putAll ((os.drop k).drop rs.length)) := by
    conv => lhs; rw [e]
    rw [putAll_append, putAll_append]
  refine ⟨Nat.zero_le _, ?_, ?_⟩
  · rw [e2, List.length_append, List.length_append]; omega
  · rw [e2, List.drop_left, List.take_left]
theorem ind_zero {T S : ByteArray} (h : Pl (nums T) (nums S) 0 0) (hT : T.size ≤ 200) (hS : S.size ≤ 200) (w : World) : Calls Tryz.prog 23 #[.string T, .string S, .int .i64 0] w fun e w' => e = .returned (.int .i64 0) ∧ Below w.heap.size w w' := by
  refine (index_any T S 0 0 rfl w (by omega) (by omega) (by omega)).mono ?_
  rintro e w' ⟨hb, ⟨q, h1, h2, rfl⟩ | ⟨h1, rfl⟩⟩
  · refine ⟨?_, hb⟩
    rcases Nat.eq_zero_or_pos q with rfl | hq
    · rfl
    · exact absurd h (h2 0 hq)
  · exact absurd h (h1 0)
theorem ind_behind {T : ByteArray} (h0 : 0 < T.size) (hT : T.size ≤ 200) (w : World) : Calls Tryz.prog 23 #[.string T, .string T, .int .i64 (T.size : Int)] w fun e w' => e = .returned (.int .i64 (-1)) ∧ Below w.heap.size w w' := by
  refine (index_any T T (T.size : Int) T.size (by omega) w (by omega) (by omega) (by omega)).mono ?_
  rintro e w' ⟨hb, ⟨q, ⟨h1, h2, _⟩, _, _⟩ | ⟨_, rfl⟩⟩
  · rw [nums_length] at h2; omega
  · exact ⟨rfl, hb⟩
set_option maxHeartbeats 4000000 in
theorem stands_self {n : Nat} {cs : List InstL} {P : ByteArray} {T : ByteArray} {w : World} {x : Nat} (h : EngC n cs P T true true w x) (h0 : 0 < T.size) (hT : T.size ≤ 200) :
    Calls Tryz.prog 25 #[.pointer (some ⟨x, 0, none⟩), .string T] w fun e w' => ∃ Q pc, e = .returned (.slice Q 1 pc) ∧ RowH w' Q 1 [(0, (T.size : Int))] ∧ Below w.heap.size w w' := by
  have HE := Lib.hid fun (w' : World) (hb : Below w.heap.size w w') => h.keep hb
  have HI0 := Lib.hid fun w => ind_zero (pl_self (nums T)) hT hT w
  have HI1 := Lib.hid fun w => ind_behind h0 hT w
  obtain ⟨A, pc0, l0, hx, _, _⟩ := h
  obtain ⟨z0, z1, z2, z3, z4, zf⟩ := eng_facts hx
  have hx9 : (T.size : Int) ≤ 200 := by omega
  clear hx
  go_enter Tryz.func25, Tryz.ntmps25
  go_wp2_with (go_at_call 23; (with_reducible refine (HI0.out _).mono ?_); rintro e w1 ⟨rfl, hb⟩; have H1 := Lib.hid hb; clear hb)
  clear z0 z1 z2 z3 z4 zf
  go_loopw [5, 6] (fun v5 v6 wr => (v5 = .slice none 0 0 ∧ v6 = .int .i64 0 ∧ Hid (Below w.heap.size w wr)) ∨ (∃ Q pc, v5 = .slice Q 1 pc ∧ v6 = .int .i64 (-1) ∧ Hid (RowH wr Q 1 [(0, (T.size : Int))] ∧ Below w.heap.size w wr))) (fun _ v6 _ => if intOf v6 = 0 then 1 else 0)
  case atStart => exact .inl ⟨rfl, rfl, H1⟩
  case round =>
    rcases hrel with ⟨rfl, rfl, H⟩ | ⟨Q, pc, rfl, rfl, H⟩
    · obtain ⟨A, pc0, l0, hx, _, _⟩ := HE.out wr H.out
      obtain ⟨P', pc', w4, happ, ho4, hb4, hk4⟩ := pushP 35 38 Tryz.underlying35 info_hit (w := wr.alloc (.cells #[.int .i64 0, .int .i64 (T.size : Int)] 38)) (B := w.heap.size) (nilP _ _ _) [((0 : Int), (T.size : Int))] (d := wr.heap.size) (hp_new rfl) (by omega) (by simp) (by have := H.out.size; simp; omega)
      have hb5 : Below w.heap.size w w4 := (H.out.alloc H.out.size _).trans hb4
      obtain ⟨a0, a1, a2, a3, a4, af⟩ := eng_facts hx
      have hxl := (Array.getElem?_eq_some_iff.1 hx).1
      have hx4 : w4.heap[x]? = some (.cells #[.slice A n pc0, .string P, .bool true, .string T, .bool true] 62 (0, 0)) := (hk4 x (by simp; omega) (by intro e; cases e)).trans ((Below.heap_alloc wr _ x hxl).trans hx)
      obtain ⟨b0, b1, b2, b3, b4, bf⟩ := eng_facts hx4
      have HAPP := Lib.hid happ
      have HNX := Lib.hid (And.intro (rowH_own ho4) hb5)
      clear happ ho4 hb4 hk4 hb5 hx4 hx hxl
      go_wp2_with (first
        | (at_builtin; refine wpList_append_run rfl (.tmp 23) (.tmp 27) 35 rfl rfl _ _ _ _ rfl rfl HAPP.out ?_)
        | (go_at_call 23; (with_reducible refine (HI1.out _).mono ?_); rintro e w5 ⟨rfl, hb⟩; have H5 := Lib.hid hb; clear hb))
      exact ⟨.inr ⟨P', pc', rfl, rfl, Lib.hid ⟨HNX.out.1.below H5.out, HNX.out.2.trans (H5.out.mono HNX.out.2.size)⟩⟩, by decide⟩
    · go_wp2
      go_ret
      exact ⟨Q, pc, rfl, H.out⟩
set_option maxHeartbeats 4000000 in
theorem qall_any {rs : List Int} {t : ByteArray} {w : World} {x : Nat} (h : QEng rs w x) (hP : Points rs) (h0 : rs ≠ []) (ht : t.size ≤ 90) (hn : nums t = putAll rs) :
    Calls Tryz.prog 10 #[.pointer (some ⟨x, 0, none⟩), .string t] w fun e w' => ∃ P q pc l, e = .returned (.slice P q pc) ∧ RowH w' P q ((0, (t.size : Int)) :: l) ∧ Below w.heap.size w w' := by
  obtain ⟨P, S, j, i, hE, hp1, hs1, hj, hpl⟩ := h
  have hPt : P = t := by
    have : nums P = nums t := hp1.trans hn.symm
    rw [← strOfNums_nums P, this, strOfNums_nums]
  subst hPt
  have hl : rs.length ≤ P.size := by
    have h1 := putAll_len rs
    have h2 := nums_length P
    rw [hn] at h2
    omega
  have hpos : 0 < rs.length := List.length_pos_iff.2 h0
  cases j with
  | true =>
    obtain rfl := hj rfl
    have HS := Lib.hid (stands_self hE (by omega) (by omega))
    obtain ⟨A, pc0, l0, hx, _, _⟩ := hE
    obtain ⟨z0, z1, z2, z3, z4, zf⟩ := eng_facts hx
    clear hx hn hp1 hs1 hj hl hpos ht
    go_enter Tryz.func10, Tryz.ntmps10
    go_wp2_with (go_at_call 25; (with_reducible refine HS.out.mono ?_); rintro e w1 ⟨Q, qc, rfl, hR, hb⟩; have H1 := Lib.hid (And.intro hR hb); clear hR hb)
    go_ret
    exact ⟨Q, 1, qc, [], rfl, H1.out⟩
  | false =>
    have hSs : S.size ≤ 200 := by
      have h1 := nums_length S
      rw [hs1, List.length_take, nums_length] at h1
      omega
    have HI := Lib.hid (ind_zero ((pl_self (nums P)).begin hs1) (by omega) hSs w)
    obtain ⟨A, pc0, l0, hx, hF, hc⟩ := hE
    have HA := Lib.hid fun (w' : World) (hb : Below w.heap.size w w') => all_quote (pc := pc0) (hF.belowB hb) hc (by omega) hP hn (by omega)
    obtain ⟨z0, z1, z2, z3, z4, zf⟩ := eng_facts hx
    have HX := Lib.hid hx
    have HN := Lib.hid (And.intro hn (And.intro hP h0))
    obtain ⟨n, hne⟩ : ∃ n, n = rs.length + 1 := ⟨_, rfl⟩
    rw [← hne] at z0 HA HX
    clear hx hn hp1 hs1 hj hl hpos ht hSs hF hc hne
    go_enter Tryz.func10, Tryz.ntmps10
    go_wp2_with (first
      | (go_at_call 23; (with_reducible refine HI.out.mono ?_); rintro e w1 ⟨rfl, hb⟩; have H1 := Lib.hid hb; obtain ⟨y0, y1, y2, y3, y4, yf⟩ := eng_facts ((hb.block x (Array.getElem?_eq_some_iff.1 HX.out).1).trans HX.out); clear hb)
      | (go_at_call 26; (with_reducible refine (HA.out _ H1.out).mono ?_); rintro e w2 ⟨Q, qc, hs, rfl, hA, hR, hb⟩; have H2 := Lib.hid (And.intro hA (And.intro hR (H1.out.trans (hb.mono H1.out.size)))); clear hA hR hb))
    go_ret
    obtain ⟨hA, hR, hb⟩ := H2.out
    obtain ⟨hn, hP, h0⟩ := HN.out
    obtain ⟨l, rfl⟩ := all_self hP h0 hA
    rw [List.map_cons, hit_all hP hn, nums_length] at hR
    exact ⟨Q, _, qc, _, rfl, hR, hb⟩
set_option maxHeartbeats 4000000 in
theorem qis_any {rs os : List Int} {t : ByteArray} {w : World} {x : Nat} (h : QEng rs w x) (hP : Points rs) (h0 : rs ≠ []) (ht : t.size ≤ 90) (hn : nums t = putAll os) (hO : Points os) :
    Calls Tryz.prog 9 #[.pointer (some ⟨x, 0, none⟩), .string t] w fun e w' => ∃ b : Bool, e = .returned (.bool b) ∧ (b = true ↔ ∃ k, (os.drop k).take rs.length = rs) ∧ Below w.heap.size w w' := by
  obtain ⟨P, S, j, i, hE, hp1, hs1, hj, hpl⟩ := h
  have hrl : rs.length ≤ 200 := by have := putAll_len rs; omega
  have hSs : S.size ≤ 200 := by
    have h1 := nums_length S
    rw [hs1, List.length_take, hp1] at h1
    omega
  have hpl2 : ∀ k, (os.drop k).take rs.length = rs → Pl (nums t) (nums S) 0 (putAll (os.take k)).length := fun k hk => by
    rw [hn]
    exact (pl_hit hk h0).begin (by rw [hs1, hp1])
  have HI := Lib.hid (index_any t S 0 0 rfl w (by omega) (by omega) (by omega))
  obtain ⟨A, pc0, l0, hx, hF, hc⟩ := hE
  have hr := right_plain hc
  have HFi := Lib.hid fun (a : Int) (w' : World) (hb : Below w.heap.size w w') => first_match A (rs.length + 1) pc0 l0 t a w' (hF.belowB hb) hr (by omega) (by omega)
  obtain ⟨z0, z1, z2, z3, z4, zf⟩ := eng_facts hx
  have HX := Lib.hid hx
  have HN := Lib.hid (And.intro hn (And.intro hP (And.intro h0 (And.intro hO (And.intro hpl2 hc)))))
  obtain ⟨n, hne⟩ : ∃ n, n = rs.length + 1 := ⟨_, rfl⟩
  rw [← hne] at z0 HFi HX
  by_cases hat : ∃ q : Nat, Pl (nums t) (nums S) 0 q ∧ ∀ p, p < q → ¬ Pl (nums t) (nums S) 0 p
  · obtain ⟨q, hq1, hq2⟩ := hat
    have HI2 : Hid (Calls Tryz.prog 23 #[.string t, .string S, .int .i64 0] w fun e w' => e = .returned (.int .i64 (q : Int)) ∧ Below w.heap.size w w') := Lib.hid (by
      refine HI.out.mono ?_
      rintro e w' ⟨hb, ⟨q', h1, h2, rfl⟩ | ⟨h1, rfl⟩⟩
      · have : q' = q := by
          rcases Nat.lt_trichotomy q' q with h | h | h
          · exact absurd h1 (hq2 q' h)
          · exact h
          · exact absurd hq1 (h2 q h)
        rw [this]
        exact ⟨rfl, hb⟩
      · exact absurd hq1 (h1 q))
    have HQ := Lib.hid (And.intro hq1 hq2)
    have hq0 : (0 : Int) ≤ (q : Int) := by omega
    have hqT : (q : Int) ≤ 90 := by have h1 := hq1.2.1; have h2 := nums_length t; omega
    clear hx hn hp1 hs1 hj hpl2 hF hc hr hne hq1 hq2 HI hSs ht
    go_enter Tryz.func9, Tryz.ntmps9
    go_wp2_with (first
      | (go_at_call 23; (with_reducible refine HI2.out.mono ?_); rintro e w1 ⟨rfl, hb⟩; have H1 := Lib.hid hb; obtain ⟨y0, y1, y2, y3, y4, yf⟩ := eng_facts ((hb.block x (Array.getElem?_eq_some_iff.1 HX.out).1).trans HX.out); clear hb)
      | (go_at_call 24; (with_reducible refine (HFi.out _ _ H1.out).mono ?_); rintro e w2 ⟨a, b, ok, rfl, hV, hb⟩; have H2 := Lib.hid (And.intro hV (H1.out.trans (hb.mono H1.out.size))); clear hV hb))
    go_ret
    refine ⟨ok, rfl, ?_, H2.out.2.alloc H2.out.2.size _⟩
    obtain ⟨hn, hP, h0, hO, hpl2, hc⟩ := HN.out
    obtain ⟨o, hV, -, hok⟩ := H2.out.1
    have e1 : (l0.map fun v => v.i) = plainP rs := hc
    rw [e1, hn, rs_points hO] at hV
    have hq := HQ.out
    rcases hV with ⟨k, hk, hf⟩ | ⟨hl, _⟩
    · constructor
      · intro htr
        rw [hok] at htr
        cases o with
        | none => cases htr
        | some y =>
          obtain ⟨b, e⟩ := y
          obtain ⟨_, _, h3, _⟩ := hf
          refine ⟨b, ?_⟩
          cases hh : hitAt rs os b with
          | true => unfold hitAt at hh; exact beq_iff_eq.1 hh
          | false => have := h3.uniq (long_no hP hh); cases this
      · rintro ⟨m, hm⟩
        rw [hok]
        cases o with
        | some y => rfl
        | none =>
          have hmh : hitAt rs os m = true := by unfold hitAt; exact beq_iff_eq.2 hm
          have hL := long_hit hP hmh
          have hmo : m < os.length := by
            rcases Nat.lt_or_ge m os.length with h | h
            · exact h
            · rw [List.drop_of_length_le h, List.take_nil] at hm; exact absurd hm.symm h0
          have hat : atF (putAll os) m = (putAll (os.take m)).length := by
            unfold atF; rw [List.getD, at_points hO (Nat.le_of_lt hmo)]; rfl
          have hqm : q ≤ (putAll (os.take m)).length := by
            rcases Nat.lt_or_ge (putAll (os.take m)).length q with h | h
            · exact absurd (hpl2 m hm) (hq.2 _ h)
            · exact h
          have hkm : k ≤ m := by
            rcases Nat.lt_or_ge m k with h | h
            · have := hk.2.1 m h; rw [hat] at this; omega
            · exact h
          exact absurd hL.1 (hf _ _ hkm (Nat.le_of_lt hmo))
    · have h2 := hq.1.2.1
      rw [hn] at h2
      omega
  · have HI2 : Hid (Calls Tryz.prog 23 #[.string t, .string S, .int .i64 0] w fun e w' => e = .returned (.int .i64 (-1)) ∧ Below w.heap.size w w') := Lib.hid (by
      refine HI.out.mono ?_
      rintro e w' ⟨hb, ⟨q', h1, h2, rfl⟩ | ⟨h1, rfl⟩⟩
      · exact absurd ⟨q', h1, h2⟩ hat
      · exact ⟨rfl, hb⟩)
    have HNo : Hid (∀ q, ¬ Pl (nums t) (nums S) 0 q) := Lib.hid (by
      intro q
      induction q using Nat.strongRecOn with
      | _ q ih => intro hq; exact hat ⟨q, hq, ih⟩)
    clear hx hn hp1 hs1 hj hpl2 hF hc hr hne HI hSs ht hat
    go_enter Tryz.func9, Tryz.ntmps9
    go_wp2_with (go_at_call 23; (with_reducible refine HI2.out.mono ?_); rintro e w1 ⟨rfl, hb⟩; have H1 := Lib.hid hb; clear hb)
    go_ret
    refine ⟨false, rfl, ?_, H1.out⟩
    constructor
    · intro h; cases h
    · rintro ⟨k, hk⟩
      exact absurd (HN.out.2.2.2.2.1 k hk) (HNo.out _)
end Go.Proofs.YtaapbmdojkjphaaGreat
namespace Go.Proofs.YtaapbmdojkjphaaGreat
open Go Go.RowKit
set_option linter.unusedVariables false
set_option maxRecDepth 20000
def quoteS (s : ByteArray) : ByteArray := match pointsL (nums s) with
  | some rs => strOfNums (putAll (quoteL rs))
  | none => ByteArray.empty
theorem points_pre : ∀ (xs : List Int), Points xs → ∀ m : List Int, pointsL (putAll xs ++ m) = (pointsL m).map fun ys => xs ++ ys
  | [], _, m => by show pointsL m = _; cases pointsL m <;> rfl
  | c :: l, h, m => by
    have hc := h.head
    have hl := putI_len c
    have hg := get_put hc (putAll l ++ m)
    have he : putAll (c :: l) ++ m = putI c ++ (putAll l ++ m) := by show (putI c ++ putAll l) ++ m = _; rw [List.append_assoc]
    have hs : szI c = ((putI c).length : Int) := szI_len hc
    rw [he, pointsL_cons (by intro e; have := congrArg List.length e; rw [List.length_append, List.length_nil] at this; omega), hg]
    simp only
    rw [if_pos hs.symm, Int.toNat_natCast, List.drop_left, points_pre l h.tail m]
    cases pointsL m <;> rfl
def QuoteAt (s s' o : ByteArray) (pre : List Int) : Prop := Points pre ∧ nums s = putAll pre ++ nums s' ∧ o = strOfNums (putAll (quoteL pre)) ∧ s'.size ≤ s.size
theorem QuoteAt.bad {s s' o : ByteArray} {pre : List Int} (h : QuoteAt s s' o pre) (hn : pointsL (nums s') = none) : quoteS s = ByteArray.empty := by
  unfold quoteS
  rw [h.2.1, points_pre pre h.1, hn]
  rfl
theorem QuoteAt.over {s s' o : ByteArray} {pre : List Int} (h : QuoteAt s s' o pre) (h0 : s'.size = 0) : quoteS s = o := by
  have h1 : nums s' = [] := List.eq_nil_of_length_eq_zero (by rw [nums_length]; exact h0)
  unfold quoteS
  rw [h.2.1, h1, List.append_nil, points_put pre h.1, h.2.2.1]
theorem QuoteAt.next {s s' o y : ByteArray} {pre : List Int} {r : Int} {n : Nat} (h : QuoteAt s s' o pre) (hi : isI r = true) (hx : putI r = (nums s').take n) (hn : n ≤ s'.size) (hy : y = strOfNums (putAll (quoteC r))) : QuoteAt s (s'.extract n s'.size) (o ++ y) (pre ++ [r]) := by
  refine ⟨fun c hc => ?_, ?_, ?_, by rw [ByteArray.size_extract]; have := h.2.2.2; omega⟩
  · rcases List.mem_append.1 hc with hc | hc
    · exact h.1 c hc
    · rw [List.mem_singleton] at hc; rw [hc]; exact hi
  · rw [putAll_snoc, nums_drop, h.2.1, hx, List.append_assoc, List.take_append_drop]
  · rw [hy, h.2.2.1, strN_app, ← putAll_append]
    congr 2
    unfold quoteL
    rw [List.flatMap_append]
    simp
theorem eq_nums (a b : ByteArray) : (a.toList == b.toList) = decide (nums a = nums b) := by
  rw [Bool.eq_iff_iff, beq_iff_eq, decide_eq_true_iff, ByteArray.toList_eq, ByteArray.toList_eq]
  constructor
  · intro h; unfold nums; rw [h]
  · intro h; rw [← strOfNums_nums a, h, strOfNums_nums]
theorem putI_low {r : Int} (h : r < 128) : putI r = [r] := by unfold putI; rw [if_pos h]
theorem sign_low {r : Int} (h : r ∈ signL) : 0 ≤ r ∧ r < 128 := by
  simp only [signL, List.mem_cons, List.not_mem_nil, or_false] at h
  omega
theorem quoteC_oct (r : Int) : (putAll (quoteC r)).length ≤ 2 * (putI r).length := by
  unfold quoteC
  have hl := putI_len r
  by_cases h1 : r ∈ signL
  · rw [if_pos h1]
    show (putI 92 ++ (putI r ++ [])).length ≤ _
    rw [putI_low (by decide), putI_low (sign_low h1).2]
    simp
  rw [if_neg h1]
  by_cases h2 : r = 10
  · rw [if_pos h2]; show (putI 92 ++ (putI 110 ++ [])).length ≤ _; rw [putI_low (by decide), putI_low (by decide)]; simp; omega
  rw [if_neg h2]
  by_cases h3 : r = 13
  · rw [if_pos h3]; show (putI 92 ++ (putI 114 ++ [])).length ≤ _; rw [putI_low (by decide), putI_low (by decide)]; simp; omega
  rw [if_neg h3]
  by_cases h4 : r = 9
  · rw [if_pos h4]; show (putI 92 ++ (putI 116 ++ [])).length ≤ _; rw [putI_low (by decide), putI_low (by decide)]; simp; omega
  rw [if_neg h4]
  show (putI r ++ []).length ≤ _
  rw [List.append_nil]
  omega
theorem quoteL_oct : ∀ l : List Int, (putAll (quoteL l)).length ≤ 2 * (putAll l).length
  | [] => Nat.le_refl _
  | c :: l => by
    have := quoteC_oct c
    have ih := quoteL_oct l
    rw [show quoteL (c :: l) = quoteC c ++ quoteL l from rfl, putAll_append, List.length_append, show putAll (c :: l) = putI c ++ putAll l from rfl, List.length_append]
    omega
theorem QuoteAt.small {s s' o : ByteArray} {pre : List Int} (h : QuoteAt s s' o pre) : o.size + 2 * s'.size ≤ 2 * s.size := by
  have h1 := quoteL_oct pre
  have h2 := congrArg List.length h.2.1
  rw [List.length_append, nums_length, nums_length] at h2
  rw [h.2.2.1, strN_size]
  omega
theorem sign_cut (j : Nat) (hj : j < 15) : ∃ U : ByteArray, nums U = [signL.getD j 0] ∧ ∀ w : World, (Instr.slice 9 (.string ⟨#[46, 94, 36, 124, 40, 41, 91, 93, 123, 125, 42, 43, 63, 92, 45]⟩) (some (.int .i64 (j : Int))) (some (.int .i64 ((j : Int) + 1))) none).run Tryz.prog w = .ok (.string U) w := by
  refine ⟨(⟨#[46, 94, 36, 124, 40, 41, 91, 93, 123, 125, 42, 43, 63, 92, 45]⟩ : ByteArray).extract j (j + 1), ?_, fun w => ?_⟩
  · have : j = 0 ∨ j = 1 ∨ j = 2 ∨ j = 3 ∨ j = 4 ∨ j = 5 ∨ j = 6 ∨ j = 7 ∨ j = 8 ∨ j = 9 ∨ j = 10 ∨ j = 11 ∨ j = 12 ∨ j = 13 ∨ j = 14 := by omega
    rcases this with rfl | rfl | rfl | rfl | rfl | rfl | rfl | rfl | rfl | rfl | rfl | rfl | rfl | rfl | rfl <;> rfl
  · have hr := run_slice_string (P := Tryz.prog) w 9 ⟨#[46, 94, 36, 124, 40, 41, 91, 93, 123, 125, 42, 43, 63, 92, 45]⟩ .i64 .i64 (j : Int) ((j : Int) + 1) Tryz.underlying9 (by omega) (by omega) (by show (j : Int) + 1 ≤ 15; omega)
    rw [Int.toNat_natCast, show ((j : Int) + 1).toNat = j + 1 by omega] at hr
    exact hr
theorem sign_quote {r : Int} (h : r ∈ signL) {x : ByteArray} (hx : nums x = putI r) : (⟨#[92]⟩ : ByteArray) ++ x = strOfNums (putAll (quoteC r)) := by
  rw [← strOfNums_nums ((⟨#[92]⟩ : ByteArray) ++ x)]
  congr 1
  unfold quoteC
  rw [if_pos h]
  show _ = putI 92 ++ (putI r ++ [])
  rw [List.append_nil, putI_low (by decide), ← hx]
  unfold nums
  rw [ByteArray.data_append, Array.toList_append, List.map_append]
  rfl
theorem other_quote {r : Int} (h : ¬ r ∈ signL) (h1 : ¬ r = 10) (h2 : ¬ r = 13) (h3 : ¬ r = 9) {x : ByteArray} (hx : nums x = putI r) : x = strOfNums (putAll (quoteC r)) := by
  unfold quoteC
  rw [if_neg h, if_neg h1, if_neg h2, if_neg h3]
  show x = strOfNums (putI r ++ [])
  rw [List.append_nil, ← hx, strOfNums_nums]
end Go.Proofs.YtaapbmdojkjphaaGreat
namespace Go.Proofs.YtaapbmdojkjphaaGreat
open Go Go.RowKit
set_option linter.unusedVariables false
def lettI (c : Int) : Int := if c = 10 then 110 else if c = 13 then 114 else 116
def octQ (c : Int) : List Int := if c = 10 ∨ c = 13 ∨ c = 9 then [92, lettI c] else if c ∈ signL then [92, c] else [c]
theorem octQ_high : ∀ (l : List Int), (∀ y ∈ l, 128 ≤ y) → l.flatMap octQ = l
  | [], _ => rfl
  | y :: l, h => by
    have hy := h y (List.mem_cons_self ..)
    have hs : ¬ y ∈ signL := fun hm => by have := (sign_low hm).2; omega
    have e : octQ y = [y] := by
      unfold octQ
      rw [if_neg (by omega), if_neg hs]
    rw [List.flatMap_cons, e, octQ_high l fun x hx => h x (List.mem_cons_of_mem _ hx)]
    rfl
theorem putI_octs {c : Int} (h : isI c = true) : (c < 128 ∧ putI c = [c]) ∨ (128 ≤ c ∧ ∀ y ∈ putI c, 128 ≤ y) := by
  have := isI_cases h
  by_cases h1 : c < 128
  · exact .inl ⟨h1, putI_low h1⟩
  · refine .inr ⟨by omega, fun y hy => ?_⟩
    unfold putI at hy
    (repeat' split at hy) <;> simp only [List.mem_cons, List.not_mem_nil, or_false] at hy <;> omega
theorem octQ_put {c : Int} (h : isI c = true) : (putI c).flatMap octQ = putAll (quoteC c) := by
  rcases putI_octs h with ⟨h1, h2⟩ | ⟨h1, h2⟩
  · rw [h2]
    show octQ c ++ [] = _
    rw [List.append_nil]
    unfold octQ quoteC
    by_cases hs : c ∈ signL
    · have hn : ¬ (c = 10 ∨ c = 13 ∨ c = 9) := by
        simp only [signL, List.mem_cons, List.not_mem_nil, or_false] at hs
        omega
      rw [if_neg hn, if_pos hs, if_pos hs]
      show _ = putI 92 ++ (putI c ++ [])
      rw [h2]; rfl
    · rw [if_neg hs, if_neg hs]
      by_cases h10 : c = 10
      · subst h10; rfl
      by_cases h13 : c = 13
      · subst h13; rfl
      by_cases h9 : c = 9
      · subst h9; rfl
      rw [if_neg (by omega), if_neg h10, if_neg h13, if_neg h9]
      show _ = putI c ++ []
      rw [h2]; rfl
  · rw [octQ_high _ h2]
    have hs : ¬ c ∈ signL := fun hm => by have := (sign_low hm).2; omega
    unfold quoteC
    rw [if_neg hs, if_neg (by omega), if_neg (by omega), if_neg (by omega)]
    show _ = putI c ++ []
    rw [List.append_nil]
theorem octQ_all : ∀ (l : List Int), Points l → (putAll l).flatMap octQ = putAll (quoteL l)
  | [], _ => rfl
  | c :: l, h => by
    have e : putAll (c :: l) = putI c ++ putAll l := rfl
    rw [e, List.flatMap_append, octQ_put h.head, octQ_all l h.tail]
    show _ = putAll (quoteC c ++ quoteL l)
    rw [putAll_append]
theorem quoteS_some {s : ByteArray} {rs : List Int} (h : pointsL (nums s) = some rs) : quoteS s = strOfNums ((nums s).flatMap octQ) := by
  obtain ⟨h1, h2⟩ := points_back _ _ rs (Nat.le_refl _) (nums_byte s) h
  unfold quoteS
  rw [h]
  show strOfNums (putAll (quoteL rs)) = _
  rw [← octQ_all rs h2, ← h1]
theorem octQ_sign {c : Int} (h : c ∈ signL) : octQ c = [92, c] := by
  have hn : ¬ (c = 10 ∨ c = 13 ∨ c = 9) := by
    simp only [signL, List.mem_cons, List.not_mem_nil, or_false] at h
    omega
  unfold octQ
  rw [if_neg hn, if_pos h]
end Go.Proofs.YtaapbmdojkjphaaGreat
