/- Texts. -/
import Derived.Test.YtaapbmdojkjphaaGreatZ02
import Derived.Test.YtaapbmdojkjphaaGreatZ07
import Derived.Test.YtaapbmdojkjphaaGreatZ16
import Derived.Test.YtaapbmdojkjphaaGreatZ17
import Derived.Test.YtaapbmdojkjphaaGreatZ18
import Derived.RangeFuncNested
import Derived.RangeFuncBound
import Derived.RangeFuncCalls
import Derived.RangeFuncLeaves
import Derived.Shelf.Abstract
import Derived.Shelf.RegionOpen
import Derived.WalkKit
import Derived.OwnWalkIn
import Derived.TacticsInMore
import Derived.LoopNIn
import Derived.LoopIn
import Derived.RangeFuncFrom
import Derived.RangeFuncBox
namespace Go.Proofs.YtaapbmdojkjphaaGreat
open Go Go.RowKit Go.Deep
set_option linter.unusedVariables false
set_option maxRecDepth 20000
theorem flat_len {α β : Type} {f : α → List β} {m : Nat} (hf : ∀ a, (f a).length ≤ m) : ∀ (r : List α), (r.flatMap f).length ≤ m * r.length
  | [] => by simp
  | a :: r => by
    rw [List.flatMap_cons, List.length_append, List.length_cons, Nat.mul_add]
    have := flat_len hf r
    have := hf a
    omega
theorem edgesL_len (p : List InstL) : (edgesL p).length ≤ 2 * p.length := by
  have := flat_len (f := fun i => match p[i]? with | some v => (outs v).map fun t => (i, t) | none => []) (m := 2) (fun i => by
    cases p[i]? with
    | none => simp
    | some v => simp only [outs]; split <;> (try split) <;> simp) (List.range p.length)
  rw [List.length_range] at this
  exact this
theorem info_ways : (Tryz.prog.info? 151).map (fun i => (i.zero, i.size, i.bytes)) = some (some (.slice none 0 0), 1, 24) := by kernel_rfl
theorem made_ways (n : Nat) : madeCells #[Value.slice none 0 0] n = (List.replicate n (Value.slice none 0 0)).toArray := by
  apply Array.ext
  · rw [size_madeCells]; simp
  · intro i h1 h2
    simp [madeCells, Nat.mod_one]
theorem bld_new (back : Bool) (n : Nat) (w : World) : Bld back w.heap.size w.heap.size (w.heap.size + 1) n ((w.alloc (.cells (List.replicate n (Value.slice none 0 0)).toArray 151)).alloc (.cells #[.slice (some ⟨w.heap.size, 0, none⟩) n n] 129)) [] (List.replicate n (Value.slice none 0 0)) := by
  refine ⟨hp_new (by simp), hp_old (hp_new rfl), by simp, by omega, fun i V ws h1 h2 => ?_, fun i j U V hij hU hV k hk1 hk2 => ?_⟩
  · simp [List.getElem?_replicate] at h1
    simp [buildW, List.getElem?_replicate] at h2
    rw [← h1.2, h2.2]
    exact ⟨none, 0, rfl, World.ownsRow_nil _ _ _ _⟩
  · simp [List.getElem?_replicate] at hU
    rw [← hU.2] at hk1
    cases hk1
theorem Bld.ways {back : Bool} {B gw bx n : Nat} {w : World} {es : List (Nat × Nat)} {Vs : List Value} (h : Bld back B gw bx n w es Vs) (hes : es.length ≤ 1000000) : WaysF (fun b => B ≤ b) w (some ⟨gw, 0, none⟩) n (buildW back n es) := by
  refine ⟨buildW_len _ _ _, fun hn => ⟨gw, 0, rfl, h.hB.2, h.lt.1, fun j ws hj => ?_⟩⟩
  have hjn : j < n := by have := (List.getElem?_eq_some_iff.1 hj).1; rwa [buildW_len] at this
  obtain ⟨V, hV⟩ : ∃ V, Vs[j]? = some V := ⟨_, List.getElem?_eq_getElem (by rw [h.hl]; exact hjn)⟩
  obtain ⟨P, c, hVP, ho⟩ := h.rows j V ws hV hj
  refine ⟨P, ws.length, c, ?_, ⟨rfl, by have := buildW_row_len hj; omega⟩, fun h0 => ?_⟩
  · rw [Nat.zero_add, cell_of_row w gw j _ _ (0, 0) h.hgw, ← hVP]; simpa using hV
  · rcases ho.2 with ⟨e, h1⟩ | ⟨b, cap, cur, e, hB, hb, hnc, hcm, hcs, ht⟩
    · omega
    · injection e with e1 _ e3
      subst e1; subst e3
      refine ⟨b, 0, rfl, hB, (Array.getElem?_eq_some_iff.1 hb).1, fun i x hx => ?_⟩
      obtain ⟨k1, k2⟩ := cellsS_at ws i x hx
      have hi := (List.getElem?_eq_some_iff.1 hx).1
      refine ⟨?_, ?_⟩
      · rw [Nat.zero_add, cell_of_row w b (i * 2) cur 153 (0, 0) hb, ← k1, ← ht, List.getElem?_take_of_lt (by omega), Array.getElem?_toList]
      · rw [Nat.zero_add, cell_of_row w b (i * 2 + 1) cur 153 (0, 0) hb, ← k2, ← ht, List.getElem?_take_of_lt (by omega), Array.getElem?_toList]
set_option maxHeartbeats 4000000 in
theorem onward_any {F : Nat → Prop} (A : Option Addr) (n c : Nat) (l : List IV) (w : World) (hi : InsF F w A n l) (hp : Within (l.map fun v => v.i)) (hok : ∀ v ∈ l, okB n v.i = true) (hn : n ≤ 1000) :
    Calls Tryz.prog 85 #[.slice A n c] w fun e w' => ∃ gw, e = .returned (.slice (some ⟨gw, 0, none⟩) n n) ∧ WaysF (fun b => w.heap.size ≤ b) w' (some ⟨gw, 0, none⟩) n (buildW false n (edgesL (l.map fun v => v.i))) ∧ Below w.heap.size w w' := by
  have hmk := run_make_row' (P := Tryz.prog) 129 151 (.slice none 0 0) 24 Tryz.underlying129 info_ways rfl .i64 .i64 n (by omega) (by omega)
  rw [made_ways] at hmk
  have hw1 : IntKind.i64.wrap (n : Int) = (n : Int) := by rw [IntKind.wrap_i64]; omega
  have hbX : Below w.heap.size w ((w.alloc (.cells (List.replicate n (Value.slice none 0 0)).toArray 151)).alloc (.cells #[.slice (some ⟨w.heap.size, 0, none⟩) n n] 129)) := ((Below.refl _ _).alloc (Nat.le_refl _) _).alloc (by simp) _
  have hE := onwardEach_any (bld_new false n w) A c l ((hi.mono (F' := fun b => b < w.heap.size) fun b _ h => h).belowB hbX) hp hok hn
  have hsz : (w.alloc (.cells (List.replicate n (Value.slice none 0 0)).toArray 151)).heap.size = w.heap.size + 1 := by simp
  have HE := Lib.hid hE
  have HB := Lib.hid hbX
  have HL := Lib.hid (show (edgesL (l.map fun v => v.i)).length ≤ 1000000 by have := edgesL_len (l.map fun v => v.i); rw [List.length_map, hi.1] at this; omega)
  obtain ⟨L0, hL0⟩ : ∃ L0, L0 = List.replicate n (Value.slice none 0 0) := ⟨_, rfl⟩
  rw [← hL0] at hmk HE HB
  clear hi hp hok hE hbX hL0
  go_enter Tryz.func85, Tryz.ntmps85
  go_wp2_with (go_at_call 110; (with_reducible refine HE.out.mono ?_); rintro en w5 ⟨rfl, Vs', hB5, hb5⟩; have q0 := cell_of_row w5 (w.heap.size + 1) 0 _ _ (0, 0) hB5.hbx; have H5 := Lib.hid (And.intro hB5 hb5); clear hB5 hb5)
  go_ret
  exact ⟨w.heap.size, rfl, H5.out.1.ways HL.out, HB.out.trans H5.out.2⟩
set_option maxHeartbeats 4000000 in
theorem back_any {F : Nat → Prop} (A : Option Addr) (n c : Nat) (l : List IV) (w : World) (hi : InsF F w A n l) (hp : Within (l.map fun v => v.i)) (hok : ∀ v ∈ l, okB n v.i = true) (hn : n ≤ 1000) :
    Calls Tryz.prog 92 #[.slice A n c] w fun e w' => ∃ gw, e = .returned (.slice (some ⟨gw, 0, none⟩) n n) ∧ WaysF (fun b => w.heap.size ≤ b) w' (some ⟨gw, 0, none⟩) n (buildW true n (edgesL (l.map fun v => v.i))) ∧ Below w.heap.size w w' := by
  have hmk := run_make_row' (P := Tryz.prog) 129 151 (.slice none 0 0) 24 Tryz.underlying129 info_ways rfl .i64 .i64 n (by omega) (by omega)
  rw [made_ways] at hmk
  have hw1 : IntKind.i64.wrap (n : Int) = (n : Int) := by rw [IntKind.wrap_i64]; omega
  have hbX : Below w.heap.size w ((w.alloc (.cells (List.replicate n (Value.slice none 0 0)).toArray 151)).alloc (.cells #[.slice (some ⟨w.heap.size, 0, none⟩) n n] 129)) := ((Below.refl _ _).alloc (Nat.le_refl _) _).alloc (by simp) _
  have hE := backEach_any (bld_new true n w) A c l ((hi.mono (F' := fun b => b < w.heap.size) fun b _ h => h).belowB hbX) hp hok hn
  have hsz : (w.alloc (.cells (List.replicate n (Value.slice none 0 0)).toArray 151)).heap.size = w.heap.size + 1 := by simp
  have HE := Lib.hid hE
  have HB := Lib.hid hbX
  have HL := Lib.hid (show (edgesL (l.map fun v => v.i)).length ≤ 1000000 by have := edgesL_len (l.map fun v => v.i); rw [List.length_map, hi.1] at this; omega)
  obtain ⟨L0, hL0⟩ : ∃ L0, L0 = List.replicate n (Value.slice none 0 0) := ⟨_, rfl⟩
  rw [← hL0] at hmk HE HB
  clear hi hp hok hE hbX hL0
  go_enter Tryz.func92, Tryz.ntmps92
  go_wp2_with (go_at_call 110; (with_reducible refine HE.out.mono ?_); rintro en w5 ⟨rfl, Vs', hB5, hb5⟩; have q0 := cell_of_row w5 (w.heap.size + 1) 0 _ _ (0, 0) hB5.hbx; have H5 := Lib.hid (And.intro hB5 hb5); clear hB5 hb5)
  go_ret
  exact ⟨w.heap.size, rfl, H5.out.1.ways HL.out, HB.out.trans H5.out.2⟩
set_option maxHeartbeats 4000000 in
theorem newWalk_any (e : WEnv) (w : World) (at_ : Nat) (hi : InsF (Fs w.heap.size e.skip) w e.A e.n e.l) (hw : WaysF (Fs w.heap.size e.skip) w e.WA e.n e.W) (hin : WaysIn e.p e.W) (hs : e.n ≤ 1000 ∧ e.T.size ≤ 1000 ∧ 0 < e.n) (hmc : e.mc = e.n) :
    Calls Tryz.prog 84 #[.slice e.A e.n e.c, .string e.T, .slice e.WA e.n e.wc, .int .i64 (at_ : Int)] w fun en w' => ∃ g mb, en = .returned (.pointer (some ⟨g, 0, none⟩)) ∧ WalkC w.heap.size g mb e w' at_ none 0 0 [] none 0 0 [] (List.replicate e.n (-1)) ∧ Below w.heap.size w w' := by
  have hb0 : Below w.heap.size w (w.alloc (.cells #[.int .i64 (-1)] 3)) := (Below.refl _ _).alloc (Nat.le_refl _) _
  have hR := repeat_any (-1) w.heap.size e.n (w.alloc (.cells #[.int .i64 (-1)] 3)) (cell_of_row _ w.heap.size 0 _ _ (0, 0) (heap_alloc_new w _)) hs.2.2 (by omega)
  have hsz : (w.alloc (.cells #[.int .i64 (-1)] 3)).heap.size = w.heap.size + 1 := by simp
  rw [hsz] at hR
  have HR := Lib.hid hR
  have HH := Lib.hid (And.intro hi (And.intro hw (And.intro hin (And.intro hs (And.intro hmc hb0)))))
  clear hi hw hin hs hb0 hR
  obtain ⟨A, n, c, l, T, WA, wc, W, mc, skip⟩ := e
  dsimp only at HR HH hmc ⊢
  go_enter Tryz.func84, Tryz.ntmps84
  go_wp2_with (go_at_call 91; (with_reducible refine HR.out.mono ?_); rintro en w2 ⟨rfl, hm, hb2⟩; have HM := Lib.hid (And.intro hm hb2); clear hm hb2)
  go_ret
  have hB : Below w.heap.size w w2 := HH.out.2.2.2.2.2.trans (HM.out.2.mono (by omega))
  have hmb : w.heap.size + 1 < w2.heap.size := (Array.getElem?_eq_some_iff.1 HM.out.1).1
  subst hmc
  refine ⟨w2.heap.size, w.heap.size + 1, rfl, ⟨heap_alloc_new _ _, ?_, by simp, by omega, by omega, World.ownsRow_nil _ _ _ _, World.ownsRow_nil _ _ _ _, fun b hb => (by cases hb), HH.out.1.below (hB.alloc hB.size _), HH.out.2.1.below (hB.alloc hB.size _), HH.out.2.2.1, HH.out.2.2.2.1⟩, hB.alloc hB.size _⟩
  rw [Below.heap_alloc w2 _ _ hmb, HM.out.1]
  simp [halfL]
set_option maxHeartbeats 4000000 in
theorem matches_any {B g mb : Nat} {e : WEnv} {w : World} {at_ : Nat} {here : List (Nat × Nat)} {last : SRow} {met : List Int} (h : WalkS B g mb e w at_ here last met) :
    Calls Tryz.prog 93 #[.pointer (some ⟨g, 0, none⟩)] w fun en w' => ∃ P q pc xs, en = .returned (.slice P q pc) ∧ xs.length = q ∧ w'.ownsRow w.heap.size 3 1 (.slice P q pc) q ((iN xs).map (.int .i64)) ∧ Below w.heap.size w w' ∧ ∀ i, i ∈ xs ↔ IsEnd e.p i := by
  obtain ⟨H, hn, hc, hC⟩ := h
  have c0 := hC.cells.1
  have hsm : e.n ≤ 1000 := hC.small.1
  have hel : e.l.length = e.n := hC.ins.1
  have HC := Lib.hid (And.intro hC hel)
  clear hC hel
  go_enter Tryz.func93, Tryz.ntmps93
  go_wp2_with fail
  go_loopw [3, 10] (fun v3 v10 wr => ∃ (k : Nat) (P : Option Addr) (q pc : Nat) (xs : List Nat), v3 = .slice P q pc ∧ v10 = .int .i64 (k : Int) ∧ k ≤ e.n ∧ q ≤ k ∧ Hid (xs.length = q ∧ wr.ownsRow w.heap.size 3 1 (.slice P q pc) q ((iN xs).map (.int .i64)) ∧ Below w.heap.size w wr ∧ ∀ i, i ∈ xs ↔ i < k ∧ IsEnd e.p i)) (fun _ v10 _ => e.n - (intOf v10).toNat)
  case atStart => exact ⟨0, none, 0, 0, [], rfl, rfl, Nat.zero_le _, Nat.le_refl _, Lib.hid ⟨rfl, World.ownsRow_nil _ _ _ _, Below.refl _ _, fun i => by simp⟩⟩
  case round =>
    obtain ⟨k, P, q, pc, xs, rfl, rfl, hk, hqk, H1⟩ := hrel
    by_cases hlt : k < e.n
    · obtain ⟨v, hv⟩ : ∃ v, e.l[k]? = some v := ⟨_, List.getElem?_eq_getElem (by have := HC.out.2; omega)⟩
      have hpv : e.p[k]? = some v.i := by unfold WEnv.p; rw [List.getElem?_map, hv]; rfl
      have HM := Lib.hid (isMatch_any (h := ⟨H, hn, hc, HC.out.1.below H1.out.2.2.1⟩) hv)
      obtain ⟨P', pc', w3, happ, ho, hb3, _⟩ := pushI_at H1.out.2.1 (by omega) H1.out.2.2.1 (k : Int)
      have HAPP := Lib.hid happ
      have HV := Lib.hid (And.intro hpv (And.intro ho hb3))
      clear hv hpv happ ho hb3
      by_cases hop : v.i.op = 0
      · rw [decide_eq_true hop] at HM
        have HE : Hid (IsEnd e.p k) := Lib.hid ⟨_, HV.out.1, hop⟩
        clear hop
        go_wp2_with (first
          | (go_at_call 88; (with_reducible refine HM.out.mono ?_); rintro en w7 ⟨rfl, rfl⟩)
          | (at_builtin; refine wpList_append_run rfl (.tmp 16) (.tmp 18) 46 rfl rfl _ _ _ _ rfl rfl HAPP.out ?_))
        refine ⟨⟨k + 1, P', q + 1, pc', xs ++ [k], rfl, rfl, hlt, by omega, Lib.hid ⟨by rw [List.length_append, H1.out.1]; rfl, ?_, HV.out.2.2, fun i => ?_⟩⟩, by simp [intOf]; omega⟩
        · have : iN (xs ++ [k]) = iN xs ++ [(k : Int)] := by simp [iN]
          rw [this]; exact HV.out.2.1
        · rw [List.mem_append, H1.out.2.2.2, List.mem_singleton]
          constructor
          · rintro (⟨h1, h2⟩ | rfl)
            · exact ⟨by omega, h2⟩
            · exact ⟨by omega, HE.out⟩
          · rintro ⟨h1, h2⟩
            rcases Nat.lt_or_ge i k with h3 | h3
            · exact .inl ⟨h3, h2⟩
            · exact .inr (by omega)
      · rw [decide_eq_false hop] at HM
        have HE : Hid (¬ IsEnd e.p k) := Lib.hid fun ⟨v', h1, h2⟩ => by rw [HV.out.1] at h1; injection h1 with h1; rw [← h1] at h2; exact hop h2
        clear hop
        go_wp2_with (go_at_call 88; (with_reducible refine HM.out.mono ?_); rintro en w7 ⟨rfl, rfl⟩)
        refine ⟨⟨k + 1, P, q, pc, xs, rfl, rfl, hlt, by omega, Lib.hid ⟨H1.out.1, H1.out.2.1, H1.out.2.2.1, fun i => ?_⟩⟩, by simp [intOf]; omega⟩
        rw [H1.out.2.2.2]
        constructor
        · rintro ⟨h1, h2⟩; exact ⟨by omega, h2⟩
        · rintro ⟨h1, h2⟩
          rcases Nat.lt_or_ge i k with h3 | h3
          · exact ⟨h3, h2⟩
          · obtain rfl : i = k := by omega
            exact absurd h2 HE.out
    · obtain rfl : k = e.n := by omega
      go_wp2
      go_ret
      refine ⟨P, q, pc, xs, rfl, H1.out.1, H1.out.2.1, H1.out.2.2.1, fun i => ?_⟩
      rw [H1.out.2.2.2]
      constructor
      · exact fun h => h.2
      · intro h
        obtain ⟨v, h1, h2⟩ := h
        have := (List.getElem?_eq_some_iff.1 h1).1
        unfold WEnv.p at this
        rw [List.length_map, HC.out.2] at this
        exact ⟨this, v, h1, h2⟩
end Go.Proofs.YtaapbmdojkjphaaGreat
namespace Go.Proofs.YtaapbmdojkjphaaGreat
open Go Go.RowKit Go.Shelf
set_option linter.unusedVariables false
set_option maxRecDepth 100000
attribute [local go_sem] Oper.semAt_some
abbrev PlX (M : Nat) := { x : Nat × Nat // x.2 ≤ M }
def encP {M : Nat} (x : PlX M) : Array Value := #[.int .i64 (x.1.1 : Int), .int .i64 (x.1.2 : Int)]
def backL {M : Nat} (zs : List Nat) (hM : ∀ j : Nat, zs[j]?.getD 0 ≤ M) (k : Nat) : List (PlX M) := (List.range k).map fun j => ⟨(zs.length - 1 - j, zs[zs.length - 1 - j]?.getD 0), hM _⟩
theorem backL_succ {M : Nat} (zs : List Nat) (hM : ∀ j : Nat, zs[j]?.getD 0 ≤ M) (k : Nat) : backL zs hM (k + 1) = backL zs hM k ++ [⟨(zs.length - 1 - k, zs[zs.length - 1 - k]?.getD 0), hM _⟩] := by simp [backL, List.range_succ]
theorem backL_len {M : Nat} (zs : List Nat) (hM : ∀ j : Nat, zs[j]?.getD 0 ≤ M) (k : Nat) : (backL zs hM k).length = k := by simp [backL]
def KpR (Bs b : Nat) (W W' : World) : Prop := W'.heap[Bs]? = W.heap[Bs]? ∧ W'.heap[b]? = W.heap[b]?
theorem KpR.trans {Bs b : Nat} {A B C : World} (h : KpR Bs b A B) (k : KpR Bs b B C) : KpR Bs b A C := ⟨k.1.trans h.1, k.2.trans h.2⟩
theorem KpR.put {Bs b : Nat} {w : World} (h1 : Bs < w.heap.size) (h2 : b < w.heap.size) (W : World) (l : Nat) (o o' : Obj) (hl : w.heap.size ≤ l) (_ : W.heap[l]? = some o) (_ : o.isCells = false) (_ : o.isWalk = false) : KpR Bs b W (W.putObj l o') :=
  ⟨World.putObj_heap_other (by omega), World.putObj_heap_other (by omega)⟩
theorem heap_cell {w w' : World} {b : Nat} (h : w'.heap[b]? = w.heap[b]?) (j : Nat) : w'.cell? ⟨b, j, none⟩ = w.cell? ⟨b, j, none⟩ := by simp only [World.cell?, h]
set_option maxHeartbeats 2000000 in
theorem backw1_in {M : Nat} (F : Fence) (n : Nat) (hF : F.fn 121) (hro : F.round = none) (hn : 1 ≤ n) (l Bs b len cap : Nat) (zs : List Nat) (hz : zs.length = len) (hM : ∀ j : Nat, zs[j]?.getD 0 ≤ M) (hsm : len ≤ 100000) (J Jx : List (PlX M) → World → Prop)
    (hY : ∀ pre x W, J pre W → pre.length < len → YieldAt F (n - 1) Tryz.prog l (encP x) W fun e W' => (e = .returned (.bool true) ∧ J (pre ++ [x]) W' ∧ KpR Bs b W W') ∨ (e = .returned (.bool false) ∧ Jx (pre ++ [x]) W'))
    (W : World) (hBs : W.cell? ⟨Bs, 0, none⟩ = some (.slice (some ⟨b, 0, none⟩) len cap)) (hc : ∀ j, j < len → W.cell? ⟨b, j, none⟩ = some (.int .i64 (zs[j]?.getD 0 : Nat))) (h0 : J [] W) :
    CallsIn F n Tryz.prog 121 #[.func (.yield l) #[] #[], .pointer (some ⟨Bs, 0, none⟩)] W fun e W' => (∃ v, e = .returned v) ∧ ((∃ ys, ys = backL zs hM len ∧ J ys W') ∨ (∃ pre, True ∧ Jx pre W')) := by
  refine callsIn_of_wp Tryz.func121 rfl hF ?_ hro
  simp only [Tryz.ntmps121, List.size_toArray, List.length_cons, List.length_nil, Nat.reduceAdd, Nat.reduceSub, Array.replicate_succ, Array.replicate_zero, List.push_toArray, List.append_toArray, List.nil_append, List.cons_append]
  gi_wp2
  gi_loopw [3] (fun i wr => ∃ k : Nat, k ≤ len ∧ i = .int .i64 ((len : Int) - 1 - (k : Int)) ∧ J (backL zs hM k) wr ∧ KpR Bs b W wr) (fun i _ => (intOf i + 1).toNat)
  case atStart => exact ⟨0, Nat.zero_le _, by simp, h0, rfl, rfl⟩
  case round =>
    obtain ⟨k, hk, rfl, hJs, hkp⟩ := hrel
    by_cases hlt : k < len
    · obtain ⟨q, hq⟩ : ∃ q : Nat, q = len - 1 - k := ⟨_, rfl⟩
      have hqi : (len : Int) - 1 - (k : Int) = (q : Int) := by omega
      have hql : q < len := by omega
      have hsn := backL_succ zs hM k
      rw [hz, ← hq] at hsn
      obtain ⟨y, hyy⟩ : ∃ y : PlX M, y = ⟨(q, zs[q]?.getD 0), hM _⟩ := ⟨_, rfl⟩
      rw [← hyy] at hsn
      obtain ⟨⟨q', v⟩, hv⟩ := y
      injection hyy with hyy
      injection hyy with hq' hv'
      subst hq'
      obtain ⟨fn, tmps, assign, body, hy, hR⟩ := hY _ ⟨(q', v), hv⟩ wr hJs (by rw [backL_len]; exact hlt)
      have cB := (heap_cell hkp.1 0).trans hBs
      have cq := (heap_cell hkp.2 q').trans (hc q' hql)
      rw [← hv'] at cq
      have h1 : (0 : Int) ≤ (q' : Int) := by omega
      have h2 : (q' : Int) < (len : Int) := by omega
      have hzl : (len : Int) ≤ 100000 := by omega
      have hb1 : (q' : Int) = (len : Int) - 1 - (k : Int) := by omega
      have HB := Lib.hid hb1
      clear hb1
      dsimp only [encP] at hy hR
      rw [hqi]
      have HQ := Lib.hid (And.intro hqi (And.intro hv' hsn))
      clear hqi hq hv' hsn
      gi_wp2
      refine hR.mono ?_
      rintro e W3 (⟨rfl, hJ3, hk3⟩ | ⟨rfl, hJx3⟩)
      · gi_wp2
        go_roundw
        case rel =>
          refine ⟨k + 1, hlt, ?_, ?_, hkp.trans hk3⟩
          · have := HB.out
            first | (congr 1; omega) | omega
          · rw [HQ.out.2.2]; exact hJ3
        case measure => simp [intOf]
      · gi_wp2
        refine bodyPost_ret (results_none rfl _ _ _) rfl ?_
        exact ⟨⟨_, rfl⟩, .inr ⟨_, trivial, hJx3⟩⟩
    · obtain rfl : k = len := by omega
      have hn1 : ¬ (0 : Int) ≤ (k : Int) - 1 - (k : Int) := by omega
      have hn2 : (k : Int) - 1 - (k : Int) = -1 := by omega
      rw [hn2]
      gi_wp2
      go_end0
      first
        | exact ⟨⟨_, rfl⟩, .inl ⟨_, rfl, hJs⟩⟩
        | exact ⟨⟨_, rfl⟩, .inl hJs⟩
        | (refine ⟨⟨_, rfl⟩, .inl ?_⟩; exact hJs)
end Go.Proofs.YtaapbmdojkjphaaGreat
namespace Go.Proofs.YtaapbmdojkjphaaGreat
open Go Go.RowKit Go.Shelf
set_option linter.unusedVariables false
set_option maxRecDepth 20000
structure EB where
  w0 : World
  W0 : World
  B : Nat
  g : Nat
  mb : Nat
  b5 : Nat
  b6 : Nat
  b7 : Nat
  bs : Nat
  bp : Nat
  bm : Nat
  MP : Option Addr
  mq : Nat
  mc : Nat
  ms : List Nat
def EB.K (E : EB) (k : Nat) : Prop := k = E.b5 ∨ k = E.b6 ∨ k = E.b7 ∨ k = E.bs ∨ k = E.bp ∨ k = E.bm
structure EFix (e : WEnv) (E : EB) : Prop where
  hK : ∀ k, E.K k → k ≠ E.g ∧ k ≠ E.mb ∧ k ≠ e.skip ∧ ∃ cs t f, E.W0.heap[k]? = some (.cells cs t f) ∧ t ≠ 155
  c5 : E.W0.heap[E.b5]? = some (.cells #[.slice (some ⟨e.skip, 0, none⟩) (e.T.size + 1) (e.T.size + 1)] 46 (0, 0))
  c6 : E.W0.heap[E.b6]? = some (.cells #[.pointer (some ⟨E.g, 0, none⟩)] 127 (0, 0))
  c7 : E.W0.heap[E.b7]? = some (.cells #[.slice E.MP E.mq E.mc] 46 (0, 0))
  ml : E.ms.length = E.mq
  mr : ∀ (j i : Nat), E.ms[j]? = some i → ∃ o, E.MP = some ⟨E.bm, o, none⟩ ∧ E.W0.cell? ⟨E.bm, o + j, none⟩ = some (.int .i64 (i : Int))
  mi : ∀ i ∈ E.ms, i < e.n
  hs : e.skip < E.B
  w0B : E.w0.heap.size ≤ E.B
  w0s : E.w0.heap.size ≤ e.skip
  BW : E.B ≤ E.W0.heap.size
structure ESafe (e : WEnv) (E : EB) (W : World) (at_ : Nat) (here : List (Nat × Nat)) (met xs : List Int) : Prop where
  walk : ∃ last, WalkS E.B E.g E.mb e W at_ here last met
  row : W.heap[e.skip]? = some (.cells (xs.map (Value.int .i64)).toArray 3 (0, 0))
  fix : ∀ k, E.K k → W.heap[k]? = E.W0.heap[k]?
  bel : Below E.w0.heap.size E.w0 W
  siz : E.W0.heap.size ≤ W.heap.size
theorem WalkS.others {B g mb : Nat} {e : WEnv} {w w' : World} {at_ : Nat} {here : List (Nat × Nat)} {last : SRow} {met : List Int} (h : WalkS B g mb e w at_ here last met) (ht : Tch B g mb w w') : KeepsOthers w w' := by
  obtain ⟨H, hn, hc, hC⟩ := h
  refine ⟨ht.1.size, fun k o hk ho => (ht.2 k o hk ?_ ?_ (hC.free hk fun cs f e => by subst e; cases ho)).1⟩
  · rintro rfl; rw [hC.hg] at hk; injection hk with hk; subst hk; cases ho
  · rintro rfl; rw [hC.hm] at hk; injection hk with hk; subst hk; cases ho
theorem others_below {w w' : World} (h : Below w.heap.size w w') : KeepsOthers w w' := ⟨h.size, fun k o hk _ => (h.block k (Array.getElem?_eq_some_iff.1 hk).1).trans hk⟩
theorem ESafe.tch {e : WEnv} {E : EB} {W W' : World} {at_ at' : Nat} {here here' : List (Nat × Nat)} {met met' xs : List Int} {last' : SRow} (h : ESafe e E W at_ here met xs) (F : EFix e E) (hw : WalkS E.B E.g E.mb e W' at' here' last' met') (ht : Tch E.B E.g E.mb W W') : ESafe e E W' at' here' met' xs := by
  obtain ⟨last, H, hn, hc, hC⟩ := h.walk
  refine ⟨⟨last', hw⟩, (ht.1.block _ F.hs).trans h.row, fun k hk => ?_, h.bel.trans (ht.1.mono F.w0B), Nat.le_trans h.siz ht.1.size⟩
  obtain ⟨h1, h2, h3, cs, t, f, h4, h5⟩ := F.hK k hk
  have h6 := (h.fix k hk).trans h4
  rw [h4]
  exact (ht.2 k _ h6 h1 h2 (hC.free h6 fun cs' f' e' => by injection e' with _ e2; exact h5 e2)).1
theorem ESafe.below {e : WEnv} {E : EB} {W W' : World} {at_ : Nat} {here : List (Nat × Nat)} {met xs : List Int} (h : ESafe e E W at_ here met xs) (F : EFix e E) (hb : Below W.heap.size W W') : ESafe e E W' at_ here met xs := by
  obtain ⟨last, hw⟩ := h.walk
  have hB := F.BW
  have hs := h.siz
  refine ⟨⟨last, hw.below hb⟩, (hb.block _ (by have := F.hs; omega)).trans h.row, fun k hk => ?_, h.bel.trans (hb.mono (by have := h.bel.size; omega)), Nat.le_trans h.siz hb.size⟩
  obtain ⟨h1, h2, h3, cs, t, f, h4, h5⟩ := F.hK k hk
  exact (hb.block k (by have := (Array.getElem?_eq_some_iff.1 h4).1; omega)).trans (h.fix k hk)
theorem ESafe.store {e : WEnv} {E : EB} {W : World} {at_ : Nat} {here : List (Nat × Nat)} {met xs : List Int} (h : ESafe e E W at_ here met xs) (F : EFix e E) (a : Nat) (v : Int) : ESafe e E (W.setCell ⟨e.skip, a, none⟩ (.int .i64 v)) at_ here met (xs.set a v) := by
  obtain ⟨last, H, hn, hc, hC⟩ := h.walk
  have hk : ∀ k, k ≠ e.skip → (W.setCell ⟨e.skip, a, none⟩ (.int .i64 v)).heap[k]? = W.heap[k]? := fun k hk => Below.heap_setCell _ _ _ _ hk
  refine ⟨⟨last, H, hn, hc, hC.skip F.hs (by simp) fun k _ h2 => hk k h2⟩, ?_, fun k h1 => (hk k (F.hK k h1).2.2.1).trans (h.fix k h1), h.bel.setCell (p := ⟨e.skip, a, none⟩) F.w0s _, by have := h.siz; simpa using this⟩
  rw [heap_setCell_same W e.skip a _ _ (.int .i64 v) h.row]
  simp [List.map_set]
def EInv (e : WEnv) (E : EB) (hM : ∀ j : Nat, (atT (nums e.T))[j]?.getD 0 ≤ (nums e.T).length) (pre : List (PlX (nums e.T).length)) (W : World) : Prop :=
  ∃ at_ here met xs, ESafe e E W at_ here met xs ∧ ((here.map Prod.fst).Nodup ∧ (∀ x ∈ here, x.1 < e.n) ∧ at_ ≤ e.T.size ∧ xs.length = e.T.size + 1) ∧ ∀ k, pre = backL (atT (nums e.T)) hM k → k ≤ (rsT (nums e.T)).length + 1 → EReal e.p (nums e.T) k at_ here met xs
theorem EInv.own {e : WEnv} {E : EB} {hM : ∀ j : Nat, (atT (nums e.T))[j]?.getD 0 ≤ (nums e.T).length} (F : EFix e E) {D : Nat} (hD : E.B ≤ D) : OwnFrom D (EInv e E hM) := by
  rintro pre W W' row ⟨at_, here, met, xs, hS, h2, h3⟩ hg hr
  have hc : ∀ (k : Nat) (cs : Array Value) (t : TypeId) (f : Nat × Nat), W.heap[k]? = some (Obj.cells cs t f) → W'.heap[k]? = W.heap[k]? := fun k cs t f hk => grownBy_keeps_cells hg (fun r e => (hr r e).2) hk rfl
  have hb : ∀ B', B' ≤ D → B' ≤ W.heap.size → Below B' W W' := fun B' h1 h2 => ⟨hg.os, hg.tape, hg.output, hg.size, fun k hk => hg.block k (by omega) fun e => by have := (hr k e.symm).1; omega⟩
  obtain ⟨last, H, hn, hc2, hC⟩ := hS.walk
  have hBs : E.B ≤ W.heap.size := Nat.le_trans F.BW hS.siz
  refine ⟨at_, here, met, xs, ⟨⟨last, H, hn, hc2, hC.keep (hb _ hD hBs) (hc _ _ _ _ hC.hg) (hc _ _ _ _ hC.hm) fun k cs f hk => hc k cs _ f hk⟩, (hc _ _ _ _ hS.row).trans hS.row, fun k hk => ?_, hS.bel.trans (hb _ (Nat.le_trans F.w0B hD) hS.bel.size), Nat.le_trans hS.siz hg.size⟩, h2, h3⟩
  obtain ⟨_, _, _, cs, t, f, h4, _⟩ := F.hK k hk
  exact (hc k cs t f ((hS.fix k hk).trans h4)).trans (hS.fix k hk)
theorem backL_inj {M : Nat} {zs : List Nat} {hM : ∀ j : Nat, zs[j]?.getD 0 ≤ M} {pre : List (PlX M)} {x : PlX M} {k : Nat} (h : pre ++ [x] = backL zs hM k) : ∃ k', k = k' + 1 ∧ pre = backL zs hM k' ∧ x.1 = (zs.length - 1 - k', zs[zs.length - 1 - k']?.getD 0) := by
  cases k with
  | zero => have := congrArg List.length h; rw [backL_len] at this; simp at this
  | succ k =>
    rw [backL_succ] at h
    obtain ⟨h1, h2⟩ := List.append_inj' h rfl
    injection h2 with h2
    exact ⟨k, rfl, h1, by rw [h2]⟩
theorem iter_stops {M : Nat} (F : Fence) (n : Nat) (hF : F.fn 121) (hro : F.round = none) (hn : 1 ≤ n) (Bs b len cap : Nat) (zs : List Nat) (hz : zs.length = len) (hM : ∀ j : Nat, zs[j]?.getD 0 ≤ M) (hsm : len ≤ 100000) (w : World)
    (hBs : w.cell? ⟨Bs, 0, none⟩ = some (.slice (some ⟨b, 0, none⟩) len cap)) (hc : ∀ j, j < len → w.cell? ⟨b, j, none⟩ = some (.int .i64 (zs[j]?.getD 0 : Nat))) :
    SeqStopsK F n Tryz.prog 121 #[.pointer (some ⟨Bs, 0, none⟩)] encP (KpR Bs b) (fun ys => ys = backL zs hM len) (fun _ => True) len w := fun l J Jx W hW hJ hJx hY h0 =>
  backw1_in F n hF hro hn l Bs b len cap zs hz hM hsm J Jx hY W ((hW.cell (p := ⟨Bs, 0, none⟩) (World.block_lt_of_cell? w (⟨Bs, 0, none⟩ : Addr) hBs)).trans hBs) (fun j hj => (hW.cell (p := ⟨b, j, none⟩) (World.block_lt_of_cell? w (⟨b, j, none⟩ : Addr) (hc j hj))).trans (hc j hj)) h0
end Go.Proofs.YtaapbmdojkjphaaGreat
namespace Go.Proofs.YtaapbmdojkjphaaGreat
open Go Go.RowKit
set_option linter.unusedVariables false
theorem WaysF.mono {F F' : Nat → Prop} {w : World} {A : Option Addr} {n : Nat} {W : List (List (Nat × Nat))} (h : WaysF F w A n W) (hf : ∀ b, F b → b < w.heap.size → F' b) : WaysF F' w A n W := by
  refine ⟨h.1, fun hn => ?_⟩
  obtain ⟨b, o, hA, hF, hlt, hc⟩ := h.2 hn
  refine ⟨b, o, hA, hf b hF hlt, hlt, fun j ws hj => ?_⟩
  obtain ⟨Aj, nj, cj, h1, h2, h3⟩ := hc j ws hj
  refine ⟨Aj, nj, cj, h1, h2, fun h0 => ?_⟩
  obtain ⟨b', o', k1, k2, k3, k4⟩ := h3 h0
  exact ⟨b', o', k1, hf b' k2 k3, k3, k4⟩
end Go.Proofs.YtaapbmdojkjphaaGreat
namespace Go.Proofs.YtaapbmdojkjphaaGreat
open Go Go.RowKit Go.Shelf
set_option linter.unusedVariables false
set_option maxRecDepth 100000
attribute [local go_sem] Oper.semAt_some
theorem backw_any (P : Option Addr) (q pc : Nat) (w : World) : Calls Tryz.prog 94 #[.slice P q pc] w fun e w' => e = .returned (.func (.func 121) #[] #[.pointer (some ⟨w.heap.size, 0, none⟩)]) ∧ w.alloc (.cells #[.slice P q pc] 46) = w' := by
  go_enter Tryz.func94, Tryz.ntmps94
  go_wp2
  go_ret
  exact ⟨rfl, rfl⟩
theorem right_parts {F : Nat → Prop} {w : World} {A : Option Addr} {n : Nat} {l : List IV} (hi0 : InsF F w A n l) (hr : rightB n l = true) : (∀ v ∈ l, okB n v.i = true) ∧ 0 < n ∧ Within (l.map fun v => v.i) := by
  unfold rightB at hr
  rw [Bool.and_eq_true, List.all_eq_true, decide_eq_true_eq] at hr
  refine ⟨hr.1, hr.2, by rw [List.length_map, hi0.1]; exact hr.2, fun i v hv j hj => ?_⟩
  rw [List.getElem?_map] at hv
  obtain ⟨u, hu, rfl⟩ := Option.map_eq_some_iff.1 hv
  rw [List.length_map, hi0.1]
  rcases okB_cases (hr.1 u (List.mem_of_getElem? hu)) with h0 | ⟨h0, x, y, hx, hy, hxn, hyn⟩ | ⟨h0, x, hx, hxn⟩
  · unfold outs at hj; rw [if_pos h0] at hj; simp at hj
  · unfold outs at hj; rw [if_neg (by omega), if_pos h0, hx, hy] at hj; simp at hj; omega
  · unfold outs at hj; rw [if_neg (by omega), if_neg (by omega), hx] at hj; simp at hj; omega
theorem atT_bound (T : List Int) (j : Nat) : (atT T)[j]?.getD 0 ≤ T.length := by
  cases h : (atT T)[j]? with
  | none => exact Nat.zero_le _
  | some a => exact atT_le h
theorem row_facts {w : World} {s a : Nat} {xs : List Int} (h : w.heap[s]? = some (.cells (xs.map (Value.int .i64)).toArray 3 (0, 0))) (ha : a < xs.length) : ∃ v : Int, w.cell? ⟨s, a, none⟩ = some (.int .i64 v) ∧ w.frozen? ⟨s, a, none⟩ = false := by
  refine ⟨xs[a], ?_, by simp [World.frozen?, h]⟩
  rw [cell_of_row w s a _ _ (0, 0) h]
  simp [List.getElem?_eq_getElem ha]
theorem meas_up {m q : Nat} (h : m < q) : q - (intOf (.int .i64 ((m + 1 : Nat) : Int))).toNat < q - (intOf (.int .i64 (m : Int))).toNat := by simp only [intOf]; omega
theorem wrap_succ {m q : Nat} (h : m < q) (hq : q ≤ maxLen) : wrap64 ((m : Int) + 1) = ((m + 1 : Nat) : Int) := by
  unfold maxLen at hq
  rw [Go.IntWalk.wrap64_in _ (by omega)]
  omega
set_option maxHeartbeats 8000000 in
theorem ends_any {F : Nat → Prop} (A : Option Addr) (n c : Nat) (l : List IV) (T : ByteArray) (w : World) (hi0 : InsF F w A n l) (hr : rightB n l = true) (hn : n ≤ 1000) (hT : T.size ≤ 1000) :
    Calls Tryz.prog 51 #[.slice A n c, .string T] w fun en w' => ∃ (ra : Nat) (xs : List Int), en = .returned (.slice (some ⟨ra, 0, none⟩) (T.size + 1) (T.size + 1)) ∧ xs.length = T.size + 1 ∧ w.heap.size ≤ ra ∧ w'.heap[ra]? = some (.cells (xs.map (Value.int .i64)).toArray 3 (0, 0)) ∧
      (∀ a : Nat, a ≤ T.size → (∃ j o, atF (nums T) j = a ∧ j ≤ (rsT (nums T)).length ∧ Long (l.map fun v => v.i) (rsT (nums T)) j o ∧ xs[a]? = some (endI (nums T) o)) ∨ ((¬ ∃ j, j ≤ (rsT (nums T)).length ∧ atF (nums T) j = a) ∧ xs[a]? = some (-1))) ∧ Below w.heap.size w w' := by
  have hnl := nums_length T
  obtain ⟨hok, hn0, hp⟩ := right_parts hi0 hr
  have hb0 : Below w.heap.size w (w.alloc (.cells #[.int .i64 (-1)] 3)) := (Below.refl _ _).alloc (Nat.le_refl _) _
  have hsz0 : (w.alloc (.cells #[.int .i64 (-1)] 3)).heap.size = w.heap.size + 1 := by simp
  have hR := repeat_any (-1) w.heap.size (T.size + 1) (w.alloc (.cells #[.int .i64 (-1)] 3)) (cell_of_row _ w.heap.size 0 _ _ (0, 0) (heap_alloc_new w _)) (by omega) (by omega)
  rw [hsz0, show ((T.size + 1 : Nat) : Int) = (T.size : Int) + 1 by omega] at hR
  have HR := Lib.hid hR
  have HH := Lib.hid (And.intro (hi0.mono (F' := fun b => b < w.heap.size) fun b _ h => h) (And.intro hp (And.intro hok (And.intro hb0 hnl))))
  have hT1 : (T.size : Int) ≤ 1000 := by omega
  clear hi0 hr hb0 hok hp hnl hR hsz0
  refine (callsIn_wide (n := 10)).1 ?_
  refine callsIn_of_wp_marks Tryz.func51 rfl trivial ?_ rfl
  simp only [Tryz.ntmps51, List.size_toArray, List.length_cons, List.length_nil, Nat.reduceAdd, Nat.reduceSub, Array.replicate_succ, Array.replicate_zero, List.push_toArray, List.append_toArray, List.nil_append, List.cons_append]
  gi_wp2_with (refine ⟨trivial, ?_⟩; first
    | (gi_at_call 91; refine (callsIn_wide.2 HR.out).mono ?_; rintro en w2 ⟨rfl, hm, hb2⟩
       have hb2' : Below w.heap.size w (w2.alloc (.cells #[.slice (some ⟨w.heap.size + 1, 0, none⟩) (T.size + 1) (T.size + 1)] 46)) := (HH.out.2.2.2.1.trans (hb2.mono (by simp))).alloc (by have := HH.out.2.2.2.1.size; have := hb2.size; omega) _
       have HM := Lib.hid (And.intro hm (And.intro hb2' hb2)); clear hm hb2 hb2'
       have HBK := Lib.hid (back_any A n c l _ (HH.out.1.belowB HM.out.2.1) HH.out.2.1 HH.out.2.2.1 hn))
    | (gi_at_call 92; refine (callsIn_wide.2 HBK.out).mono ?_; rintro en w3 ⟨gw, rfl, hways, hb3⟩
       have HW3 := Lib.hid (And.intro hways hb3); clear hways hb3))
  obtain ⟨hi0, hp, hok, hb0, hnl⟩ := HH.out
  obtain ⟨hm, hb2', hb2⟩ := HM.out
  obtain ⟨hways, hb3⟩ := HW3.out
  have hlen : (l.map fun v => v.i).length = n := by rw [List.length_map, hi0.1]
  have hBW : BackW (l.map fun v => v.i) (buildW true n (edgesL (l.map fun v => v.i))) := by
    have := back_build (l.map fun v => v.i)
    rwa [hlen] at this
  obtain ⟨e, e1, e2, e3, e4, e5, e6, e7, e8, e9, e10⟩ : ∃ e : WEnv, e.A = A ∧ e.n = n ∧ e.c = c ∧ e.l = l ∧ e.T = T ∧ e.WA = some ⟨gw, 0, none⟩ ∧ e.wc = n ∧ e.W = buildW true n (edgesL (l.map fun v => v.i)) ∧ e.mc = n ∧ e.skip = w.heap.size + 1 :=
    ⟨⟨A, n, c, l, T, some ⟨gw, 0, none⟩, n, buildW true n (edgesL (l.map fun v => v.i)), n, w.heap.size + 1⟩, rfl, rfl, rfl, rfl, rfl, rfl, rfl, rfl, rfl, rfl⟩
  have hs2 : w.heap.size + 1 < w2.heap.size := (Array.getElem?_eq_some_iff.1 hm).1
  have hs3 := hb3.size
  rw [show (w2.alloc (.cells #[.slice (some ⟨w.heap.size + 1, 0, none⟩) (T.size + 1) (T.size + 1)] 46)).heap.size = w2.heap.size + 1 by simp] at hs3 hways
  have hb03 : Below w.heap.size w w3 := hb2'.trans (hb3.mono (by simp; omega))
  have hi3 : InsF (Fs w3.heap.size e.skip) w3 e.A e.n e.l := by
    rw [e1, e2, e4, e10]
    exact (hi0.belowB hb03).mono fun b h1 h2 => ⟨h2, by omega⟩
  have hw3 : WaysF (Fs w3.heap.size e.skip) w3 e.WA e.n e.W := by
    rw [e6, e2, e8, e10]
    exact hways.mono fun b h1 h2 => ⟨h2, by omega⟩
  have hwe : BackW e.p e.W := by rw [e8]; unfold WEnv.p; rw [e4]; exact hBW
  have hpe : Within e.p := by unfold WEnv.p; rw [e4]; exact hp
  have hmw : w3.heap[w.heap.size + 1]? = some (.cells (halfL (T.size + 1) (T.size + 1) (-1)).toArray 3 (0, 0)) := (hb3.block _ (by simp; omega)).trans ((Below.heap_alloc w2 _ _ hs2).trans hm)
  have hbx5 : w3.heap[w2.heap.size]? = some (.cells #[.slice (some ⟨w.heap.size + 1, 0, none⟩) (T.size + 1) (T.size + 1)] 46 (0, 0)) := (hb3.block _ (by simp)).trans (heap_alloc_new w2 _)
  have HNw := Lib.hid (newWalk_any e w3 T.size hi3 hw3 (hwe.waysIn hpe) ⟨by omega, by rw [e5]; exact hT, by omega⟩ (by omega))
  have H3 := Lib.hid (And.intro hb03 (And.intro hwe (And.intro hpe (And.intro hmw (And.intro hbx5 (And.intro hs2 hs3))))))
  subst e1; subst e2; subst e3; subst e4; subst e5
  rw [e6, e7] at HNw
  have HN := Lib.hid hnl
  have HE10 := Lib.hid e10
  clear hi0 hp hok hb0 hnl hm hb2' hb2 hways hb3 hlen hBW hs2 hs3 hb03 hi3 hw3 hwe hpe hmw hbx5 e6 e7 e8 e9 e10 HBK
  have hPl := Lib.hid fun w => places_any e.T w (by omega)
  gi_wp2_with (refine ⟨trivial, ?_⟩; first
    | (gi_at_call 84; refine (callsIn_wide.2 HNw.out).mono ?_; rintro en w4 ⟨g, mb, rfl, hC, hb4⟩
       have hw4 : WalkS w3.heap.size g mb e (w4.alloc (.cells #[.pointer (some ⟨g, 0, none⟩)] 127)) e.T.size [] ⟨none, 0, 0, []⟩ (List.replicate e.n (-1)) := (show WalkS w3.heap.size g mb e w4 e.T.size [] ⟨none, 0, 0, []⟩ (List.replicate e.n (-1)) from ⟨_, _, _, hC⟩).below ((Below.refl _ _).alloc (Nat.le_refl _) _)
       have H4 := Lib.hid (And.intro hw4 (And.intro hb4 hC.lt)); clear hC hb4 hw4
       have HMt := Lib.hid (matches_any H4.out.1))
    | (gi_at_call 93; refine (callsIn_wide.2 HMt.out).mono ?_; rintro en w5 ⟨MP, mq, mc, ms, rfl, hml, hmo, hb5, hms⟩
       have H5 := Lib.hid (And.intro hml (And.intro hmo (And.intro hb5 hms))); clear hml hmo hb5 hms
       have HPl := Lib.hid (hPl.out (w5.alloc (.cells #[.slice MP mq mc] 46))))
    | (gi_at_call 95; refine (callsIn_wide.2 HPl.out).mono ?_; rintro en w6 ⟨PP, pq, pc, rfl, hpo, hb6⟩
       have H6 := Lib.hid (And.intro hpo hb6); clear hpo hb6
       have HBa := Lib.hid (backw_any PP pq pc w6))
    | (gi_at_call 94; refine (callsIn_wide.2 HBa.out).mono ?_; rintro en w7 ⟨rfl, rfl⟩))
  obtain ⟨hb03, hwe, hpe, hmw, hbx5, hs2, hs3⟩ := H3.out
  obtain ⟨hw4, hb4, hl4⟩ := H4.out
  obtain ⟨hml, hmo, hb5, hms⟩ := H5.out
  obtain ⟨hpo, hb6⟩ := H6.out
  have e10 := HE10.out
  have s4 := hb4.size
  have s5 := hb5.size
  have s6 := hb6.size
  have ha6 : Below w6.heap.size w6 (w6.alloc (.cells #[.slice PP pq pc] 46)) := (Below.refl _ _).alloc (Nat.le_refl _) _
  have ha4 : Below w4.heap.size w4 (w4.alloc (.cells #[.pointer (some ⟨g, 0, none⟩)] 127)) := (Below.refl _ _).alloc (Nat.le_refl _) _
  have ha5 : Below w5.heap.size w5 (w5.alloc (.cells #[.slice MP mq mc] 46)) := (Below.refl _ _).alloc (Nat.le_refl _) _
  rw [show (w4.alloc (.cells #[.pointer (some ⟨g, 0, none⟩)] 127)).heap.size = w4.heap.size + 1 by simp] at s5 hb5 hmo
  rw [show (w5.alloc (.cells #[.slice MP mq mc] 46)).heap.size = w5.heap.size + 1 by simp] at s6 hb6 hpo
  have b6 : Below (w5.heap.size + 1) (w5.alloc (.cells #[.slice MP mq mc] 46)) (w6.alloc (.cells #[.slice PP pq pc] 46)) := hb6.trans (ha6.mono (by omega))
  have b5 : Below (w4.heap.size + 1) (w4.alloc (.cells #[.pointer (some ⟨g, 0, none⟩)] 127)) (w6.alloc (.cells #[.slice PP pq pc] 46)) := (hb5.trans (ha5.mono (by omega))).trans (b6.mono (by omega))
  have b3 : Below w3.heap.size w3 (w6.alloc (.cells #[.slice PP pq pc] 46)) := (hb4.trans (ha4.mono (by omega))).trans (b5.mono (by omega))
  have hrl := rsT_le (T := nums e.T)
  have hnl := HN.out
  have hal := atT_len (T := nums e.T)
  have hpq : pq = (rsT (nums e.T)).length + 1 := by
    have := hpo.1
    simp [iN] at this
    omega
  obtain ⟨bp, hPP, hbp, cbp, hbpc⟩ : ∃ bp, PP = some ⟨bp, 0, none⟩ ∧ w5.heap.size + 1 ≤ bp ∧ (∃ cs, w6.heap[bp]? = some (.cells cs 3 (0, 0))) ∧ ∀ j, j < pq → w6.cell? ⟨bp, j, none⟩ = some (.int .i64 ((atT (nums e.T))[j]?.getD 0 : Nat)) := by
    rcases hpo.2 with ⟨_, h0⟩ | ⟨b, cap, cur, ev, hB, hb, hnc, hcm, hcs, ht⟩
    · omega
    · injection ev with e1 _ e3
      refine ⟨b, e1, hB, ⟨cur, hb⟩, fun j hj => ?_⟩
      have hx : (iN (atT (nums e.T)))[j]? = some (((atT (nums e.T))[j]?.getD 0 : Nat) : Int) := by
        unfold iN
        rw [List.getElem?_map, List.getElem?_eq_getElem (by omega)]
        simp
      rw [cell_of_row w6 b j cur _ (0, 0) hb, show (some (Value.int .i64 (((atT (nums e.T))[j]?.getD 0 : Nat) : Int))) = ((iN (atT (nums e.T))).map (Value.int .i64))[j]? by rw [List.getElem?_map, hx]; rfl, ← ht, List.getElem?_take_of_lt (by omega), Array.getElem?_toList]
  subst hPP
  obtain ⟨bm, hbm, hbt, hmr⟩ : ∃ bm, (w4.heap.size + 1 ≤ bm ∨ bm = w5.heap.size) ∧ (bm = w5.heap.size ∨ ∃ cs, w5.heap[bm]? = some (.cells cs 3 (0, 0))) ∧ ∀ (j i : Nat), ms[j]? = some i → ∃ o, MP = some ⟨bm, o, none⟩ ∧ w5.cell? ⟨bm, o + j, none⟩ = some (.int .i64 (i : Int)) := by
    rcases hmo.2 with ⟨_, h0⟩ | ⟨b, cap, cur, ev, hB, hb, hnc, hcm, hcs, ht⟩
    · refine ⟨w5.heap.size, .inr rfl, .inl rfl, fun j i hj => ?_⟩
      have := (List.getElem?_eq_some_iff.1 hj).1
      omega
    · injection ev with e1 _ e3
      refine ⟨b, .inl hB, .inr ⟨cur, hb⟩, fun j i hj => ⟨0, e1, ?_⟩⟩
      have hjl := (List.getElem?_eq_some_iff.1 hj).1
      rw [Nat.zero_add, cell_of_row w5 b j cur _ (0, 0) hb, show some (Value.int .i64 (i : Int)) = ((iN ms).map (Value.int .i64))[j]? by unfold iN; rw [List.getElem?_map, List.getElem?_map, hj]; rfl, ← ht, List.getElem?_take_of_lt (by omega), Array.getElem?_toList]
  have hmql : mq ≤ maxLen := by
    rcases hmo.2 with ⟨_, h0⟩ | ⟨b, cap, cur, ev, hB, hb, hnc, hcm, hcs, ht⟩
    · rw [h0]; exact Nat.zero_le _
    · omega
  have HQL := Lib.hid hmql
  clear hmql
  have hc7 : (w5.alloc (.cells #[.slice MP mq mc] 46)).heap[w5.heap.size]? = some (.cells #[.slice MP mq mc] 46 (0, 0)) := heap_alloc_new w5 _
  have hc6 : (w4.alloc (.cells #[.pointer (some ⟨g, 0, none⟩)] 127)).heap[w4.heap.size]? = some (.cells #[.pointer (some ⟨g, 0, none⟩)] 127 (0, 0)) := heap_alloc_new w4 _
  have hcs : (w6.alloc (.cells #[.slice (some ⟨bp, 0, none⟩) pq pc] 46)).heap[w6.heap.size]? = some (.cells #[.slice (some ⟨bp, 0, none⟩) pq pc] 46 (0, 0)) := heap_alloc_new w6 _
  have hsW : (w6.alloc (.cells #[.slice (some ⟨bp, 0, none⟩) pq pc] 46)).heap.size = w6.heap.size + 1 := by simp
  obtain ⟨W0, hW0⟩ : ∃ W0, W0 = w6.alloc (.cells #[.slice (some ⟨bp, 0, none⟩) pq pc] 46) := ⟨_, rfl⟩
  rw [← hW0] at b6 b5 b3 ha6 hcs hsW ⊢
  obtain ⟨E, hE⟩ : ∃ E : EB, E = ⟨w, W0, w3.heap.size, g, mb, w2.heap.size, w4.heap.size, w5.heap.size, w6.heap.size, bp, bm, MP, mq, mc, ms⟩ := ⟨_, rfl⟩
  have hbpl : bp < w6.heap.size := by obtain ⟨cs, h⟩ := cbp; exact (Array.getElem?_eq_some_iff.1 h).1
  have hin : ∀ i ∈ ms, i < e.n := fun i hi => by
    obtain ⟨v, hv, _⟩ := (hms i).1 hi
    have h1 := (List.getElem?_eq_some_iff.1 hv).1
    have h2 := hpe.2
    have h3 := hw4
    obtain ⟨_, _, _, hC⟩ := hw4
    have h4 := hC.ins.1
    unfold WEnv.p at h1
    rw [List.length_map] at h1
    omega
  have hgB : w3.heap.size ≤ g ∧ w3.heap.size ≤ mb := by obtain ⟨_, _, _, hC⟩ := hw4; exact ⟨hC.hB, hC.hBm⟩
  have hF : EFix e E := by
    subst hE
    refine ⟨?_, ?_, ?_, ?_, hml, fun j i hj => ?_, hin, ?_, ?_, ?_, ?_⟩
    · intro k hk
      rcases hk with h | h | h | h | h | h
      · have h : k = w2.heap.size := h
        rw [h]
        simp only
        exact ⟨by omega, by omega, by omega, _, _, _, (b3.block w2.heap.size (by omega)).trans hbx5, by decide⟩
      · have h : k = w4.heap.size := h
        rw [h]
        simp only
        exact ⟨by omega, by omega, by omega, _, _, _, (b5.block w4.heap.size (by omega)).trans hc6, by decide⟩
      · have h : k = w5.heap.size := h
        rw [h]
        simp only
        exact ⟨by omega, by omega, by omega, _, _, _, (b6.block w5.heap.size (by omega)).trans hc7, by decide⟩
      · have h : k = w6.heap.size := h
        rw [h]
        simp only
        exact ⟨by omega, by omega, by omega, _, _, _, hcs, by decide⟩
      · have h : k = bp := h
        rw [h]
        simp only
        obtain ⟨cs, h⟩ := cbp
        exact ⟨by omega, by omega, by omega, _, _, _, (ha6.block bp hbpl).trans h, by decide⟩
      · have h : k = bm := h
        rw [h]
        simp only
        rcases hbt with h | ⟨cs, h⟩
        · rw [h]
          exact ⟨by omega, by omega, by omega, _, _, _, (b6.block w5.heap.size (by omega)).trans hc7, by decide⟩
        · have h1 := (Array.getElem?_eq_some_iff.1 h).1
          exact ⟨by omega, by omega, by omega, _, _, _, (b6.block bm (by omega)).trans ((ha5.block bm h1).trans h), by decide⟩
    · simp only
      rw [e10]
      exact (b3.block w2.heap.size (by omega)).trans hbx5
    · exact (b5.block w4.heap.size (by omega)).trans hc6
    · exact (b6.block w5.heap.size (by omega)).trans hc7
    · obtain ⟨o, h1, h2⟩ := hmr j i hj
      have h3 := World.block_lt_of_cell? w5 (⟨bm, o + j, none⟩ : Addr) h2
      exact ⟨o, h1, (b6.cell (p := ⟨bm, o + j, none⟩) (show bm < w5.heap.size + 1 from Nat.lt_succ_of_lt h3)).trans ((ha5.cell (p := ⟨bm, o + j, none⟩) h3).trans h2)⟩
    · simp only; omega
    · have := hb03.size; simp only; omega
    · simp only; omega
    · simp only; omega
  have h0 : EInv e E (atT_bound (nums e.T)) [] W0 := by
    subst hE
    refine ⟨e.T.size, [], List.replicate e.n (-1), List.replicate (e.T.size + 1) (-1), ⟨⟨_, hw4.below (by rw [show (w4.alloc (.cells #[.pointer (some ⟨g, 0, none⟩)] 127)).heap.size = w4.heap.size + 1 by simp]; exact b5)⟩, ?_, fun k _ => rfl, hb03.trans (b3.mono hb03.size), Nat.le_refl _⟩, ⟨List.nodup_nil, fun x hx => (by simp at hx), Nat.le_refl _, by simp⟩, fun k hk hk2 => ?_⟩
    · rw [e10]
      refine (b3.block (w.heap.size + 1) (by omega)).trans (hmw.trans ?_)
      simp [halfL]
    · have hk0 : k = 0 := by have := congrArg List.length hk; rw [backL_len] at this; exact this.symm
      subst hk0
      have := EReal.begin (p := e.p) (T := nums e.T) (n := e.n)
      rwa [hnl] at this
  have hI := EInv.own (hM := atT_bound (nums e.T)) hF (D := W0.heap.size) (by subst hE; simp only; omega)
  have hcell : ∀ j, j < pq → W0.cell? ⟨bp, j, none⟩ = some (.int .i64 ((atT (nums e.T))[j]?.getD 0 : Nat)) := fun j hj => (ha6.cell (p := ⟨bp, j, none⟩) hbpl).trans (hbpc j hj)
  have hIter := iter_stops Fence.wide (10 - 1) trivial rfl (by omega) w6.heap.size bp pq pc (atT (nums e.T)) (by omega) (atT_bound (nums e.T)) (by omega) W0 (cell_of_row W0 w6.heap.size 0 _ _ (0, 0) hcs) hcell
  have hKb := KpR.put (Bs := w6.heap.size) (b := bp) (w := W0) (by omega) (by omega)
  have HF := Lib.hid (And.intro hF (And.intro hwe (And.intro hpe (And.intro hms (And.intro hnl (And.intro hpq (And.intro hal e10)))))))
  have hEq := Lib.hid hE
  have hb10 : W0.heap.size ≤ W0.heap.size := Nat.le_refl _
  clear hF hwe hpe hms hnl hpq hal e10 hE hcell hbpc hcs hbpl hin hgB hb03 hmw hbx5 hs2 hs3 hw4 hb4 hl4 hml hmo hb5 hpo hb6 s4 s5 s6 ha6 ha4 ha5 b6 b5 b3 hrl cbp hbm hbt hmr hc7 hc6 hsW hW0 hbp
  refine wpIn_rangeFunc_ownF rfl (by omega) (gf := 121) (lb := #[.pointer (some ⟨w6.heap.size, 0, none⟩)]) rfl trivial (enters_of Tryz.func121 (by kernel_rfl) rfl) hIter (fun h k => h.trans k) hKb (Below.refl _ _) (fun _ => rfl) (EInv e E (atT_bound (nums e.T))) (fun _ _ _ => False) hI (fun _ _ _ _ _ hs _ _ => hs) h0
    (fun x => { tmps := #[.slice e.A e.n e.c, .string e.T, undef, undef, .slice none 0 0, .pointer (some ⟨w2.heap.size, 0, none⟩), .pointer (some ⟨w4.heap.size, 0, none⟩), .pointer (some ⟨w5.heap.size, 0, none⟩), undef, .int .i64 (x.1.2 : Int), undef, undef, undef, undef, .slice (some ⟨w.heap.size, 0, none⟩) 1 1, .string e.T, .int .i64 (e.T.size : Int), .int .i64 ((e.T.size : Int) + 1), .slice (some ⟨w.heap.size + 1, 0, none⟩) (e.T.size + 1) (e.T.size + 1), .slice e.A e.n e.c, .string e.T, .slice e.A e.n e.c, .slice (some ⟨gw, 0, none⟩) e.n e.n, .string e.T, .int .i64 (e.T.size : Int), .pointer (some ⟨g, 0, none⟩), .pointer (some ⟨g, 0, none⟩), .slice MP mq mc, .string e.T, .slice (some ⟨bp, 0, none⟩) pq pc, .func (.func 121) #[] #[.pointer (some ⟨w6.heap.size, 0, none⟩)], .int .i64 (x.1.1 : Int), .int .i64 (x.1.2 : Int), undef, undef, undef, undef, undef, undef, undef, undef, undef, undef, undef, undef, undef, undef, undef, undef, undef, undef, undef, undef, undef, undef, undef, undef, undef], defers := [] }) ?assign ?body ?done ?stop
  case assign =>
    intro l x W K hK
    dsimp only [encP]
    gi_wp2
    exact hK
  case body =>
    rintro l0 pre x W ⟨at_, here, met, xs, hS, ⟨hnd, hin, hatl, hxl⟩, hreal⟩ hlen
    obtain ⟨hF, hwe, hpe, hms, hnl, hpq, hal, e10⟩ := HF.out
    have hE := hEq.out
    obtain ⟨tq, htq⟩ : ∃ tq : Nat, tq = x.1.2 := ⟨_, rfl⟩
    have htl : tq ≤ e.T.size := by have := x.2; omega
    obtain ⟨full, hfull⟩ : ∃ full : Prop, full = (∃ k, k ≤ (rsT (nums e.T)).length ∧ pre ++ [x] = backL (atT (nums e.T)) (atT_bound (nums e.T)) (k + 1)) := ⟨_, rfl⟩
    have hfk : full → ∃ k, k ≤ (rsT (nums e.T)).length ∧ pre ++ [x] = backL (atT (nums e.T)) (atT_bound (nums e.T)) (k + 1) ∧ EReal e.p (nums e.T) k at_ here met xs ∧ tq = atF (nums e.T) ((rsT (nums e.T)).length - k) := by
      intro h
      rw [hfull] at h
      obtain ⟨k, hk, hkx⟩ := h
      obtain ⟨k', hk', hp', hx'⟩ := backL_inj hkx
      obtain rfl : k = k' := by omega
      refine ⟨k, hk, hkx, hreal k hp' (by omega), ?_⟩
      rw [htq, hx', hal]
      rfl
    have hfr : full → ∀ y ∈ met, y ≠ (tq : Int) := fun h => by
      obtain ⟨k, hk, _, hr, hq⟩ := hfk h
      exact hr.fresh hk hq
    obtain ⟨last, hw⟩ := hS.walk
    obtain ⟨r, hr⟩ : ∃ r, r = (getI (((nums e.T).drop (min at_ tq)).take (max at_ tq - min at_ tq))).1 := ⟨_, rfl⟩
    have HSt := Lib.hid (step_any (full := full) hw hnd hin tq (min at_ tq) (max at_ tq) rfl rfl (by omega) hfr r hr)
    have c6 : W.cell? ⟨w4.heap.size, 0, none⟩ = some (.pointer (some ⟨g, 0, none⟩)) := by
      have h1 := (hS.fix _ (.inr (.inl rfl))).trans hF.c6
      rw [hE] at h1
      exact cell_of_row W w4.heap.size 0 _ _ (0, 0) h1
    have hfi : (∃ k, k ≤ (rsT (nums e.T)).length ∧ pre ++ [x] = backL (atT (nums e.T)) (atT_bound (nums e.T)) (k + 1)) → full := fun h => by rw [hfull]; exact h
    have HB := Lib.hid (And.intro hS (And.intro hxl (And.intro hfk (And.intro hr hw))))
    have HFI := Lib.hid hfi
    have hn1 : 1 ≤ 10 - 1 - 1 := by omega
    have hSg : E.g = g ∧ E.mb = mb ∧ E.B = w3.heap.size := by rw [hE]; exact ⟨rfl, rfl, rfl⟩
    rw [hSg.1] at HSt
    have HG := Lib.hid hSg
    have HTQ := Lib.hid htq
    rw [← htq]
    clear hfi hF hwe hpe hms hnl hpq hal e10 hE hfk hfr hS hreal hw hr hnd hin hxl hfull hSg htq
    have c7 : ∀ (wq : World) (hq : List (Nat × Nat)) (mq' : List Int), ESafe e E wq tq hq mq' xs → wq.cell? ⟨w5.heap.size, 0, none⟩ = some (.slice MP mq mc) ∧ wq.cell? ⟨w4.heap.size, 0, none⟩ = some (.pointer (some ⟨g, 0, none⟩)) ∧ wq.cell? ⟨w2.heap.size, 0, none⟩ = some (.slice (some ⟨w.heap.size + 1, 0, none⟩) (e.T.size + 1) (e.T.size + 1)) := by
      intro wq hq mq' hS
      have h7 := (hS.fix _ (.inr (.inr (.inl rfl)))).trans HF.out.1.c7
      have h6 := (hS.fix _ (.inr (.inl rfl))).trans HF.out.1.c6
      have h5 := (hS.fix _ (.inl rfl)).trans HF.out.1.c5
      have hE := hEq.out
      rw [HE10.out] at h5
      rw [hE] at h5 h6 h7
      exact ⟨cell_of_row wq w5.heap.size 0 _ _ (0, 0) h7, cell_of_row wq w4.heap.size 0 _ _ (0, 0) h6, cell_of_row wq w2.heap.size 0 _ _ (0, 0) h5⟩
    have C7 := Lib.hid c7
    clear c7
    gi_wp2_with (refine ⟨trivial, ?_⟩; gi_at_call 90; refine (CallsIn.inRound l0 (callsIn_wide.2 HSt.out)).mono ?_; rintro en w1 ⟨rfl, here1, last1, met1, hM1, hT1, hI1, hs1⟩; rw [← HG.out.1] at hM1 hT1; have HS1 := Lib.hid (HB.out.1.tch HF.out.1 hM1.s hT1); obtain ⟨c71, c61, c51⟩ := C7.out _ _ _ HS1.out; have HM1 := Lib.hid (And.intro hM1 (And.intro hT1 (And.intro hI1 hs1))); clear hM1 hT1 hI1 hs1)
    gi_loopw [38] (fun v38 wr => ∃ m : Nat, v38 = .int .i64 (m : Int) ∧ m ≤ mq ∧ Hid (∃ here' last' met', WalkM full E.B E.g E.mb e wr tq here' last' met' ∧ ESafe e E wr tq here' met' xs ∧ KeepsOthers W wr ∧ MetIn tq met met' ∧ (full → Steps (WE e.p e.W e.T.size tq) (meets e.p e.W r here ++ (ms.take m).map (fun i => (i, tq))) here'))) (fun v _ => mq - (intOf v).toNat)
    case atStart =>
      refine ⟨0, rfl, Nat.zero_le _, Lib.hid ⟨here1, last1, met1, HM1.out.1, HS1.out, HB.out.2.2.2.2.others HM1.out.2.1, HM1.out.2.2.1, fun h => ?_⟩⟩
      simpa using HM1.out.2.2.2 h
    case round =>
      obtain ⟨m, rfl, hmq, H⟩ := hrel
      by_cases hlt : m < mq
      · obtain ⟨i, hi⟩ : ∃ i, ms[m]? = some i := ⟨_, List.getElem?_eq_getElem (by have := HF.out.1.ml; have hE := hEq.out; rw [hE] at this; simp only at this; omega)⟩
        obtain ⟨here2, last2, met2, hM2, hS2, hK2, hI2, hs2⟩ := H.out
        have hE := hEq.out
        have hmr := HF.out.1.mr m i (by rw [hE]; exact hi)
        have hin := HF.out.1.mi i (by rw [hE]; exact List.mem_of_getElem? hi)
        obtain ⟨o, hMP, hcm⟩ := hmr
        have hcm2 : wr.cell? ⟨bm, o + m, none⟩ = some (.int .i64 (i : Int)) := by
          have h1 := hS2.fix _ (.inr (.inr (.inr (.inr (.inr rfl)))))
          rw [hE] at h1 hcm
          simp only at h1 hcm
          rw [← hcm]
          exact heap_cell h1 _
        rw [hE] at hMP
        simp only at hMP
        obtain ⟨c7, c6, c5⟩ := C7.out _ _ _ hS2
        have HMt := meet_any hM2 i tq hin
        rw [HG.out.1] at HMt
        have HMt := Lib.hid HMt
        have h1 : (m : Int) < (mq : Int) := by omega
        have h2 : (0 : Int) ≤ (m : Int) := by omega
        have HX := Lib.hid (And.intro hi (And.intro hM2 (And.intro hS2 (And.intro hK2 (And.intro hI2 hs2)))))
        subst hMP
        clear hE hin hcm hi hM2 hS2 hK2 hI2 hs2
        gi_wp2_with (refine ⟨trivial, ?_⟩; gi_at_call 86; refine (CallsIn.inRound l0 (callsIn_wide.2 HMt.out)).mono ?_; rintro en w2 ⟨rfl, here3, met3, hM3, hT3, hI3, hs3⟩; rw [← HG.out.1] at hM3 hT3; have HM3 := Lib.hid (And.intro hM3 (And.intro hT3 (And.intro hI3 hs3))); clear hM3 hT3 hI3 hs3)
        rw [wrap_succ hlt HQL.out]
        refine ⟨⟨m + 1, rfl, hlt, Lib.hid ?_⟩, meas_up hlt⟩
        obtain ⟨hi, hM2, hS2, hK2, hI2, hs2⟩ := HX.out
        obtain ⟨hM3, hT3, hI3, hs3⟩ := HM3.out
        refine ⟨here3, last2, met3, hM3, hS2.tch HF.out.1 hM3.s hT3, hK2.trans (hM2.s.others hT3), hI2.trans hI3, fun h => ?_⟩
        have := Steps.snoc (hs2 h) (hs3 h)
        rw [List.append_assoc] at this
        rw [List.take_add_one, hi, Option.toList_some, List.map_append]
        exact this
      · have h1 : ¬ (m : Int) < (mq : Int) := by omega
        have htq0 : (0 : Int) ≤ (tq : Int) := by omega
        have htq1 : (tq : Int) < (e.T.size : Int) + 1 := by omega
        obtain ⟨here2, last2, met2, hM2, hS2, hK2, hI2, hs2⟩ := H.out
        obtain ⟨c7, c6, c5⟩ := C7.out _ _ _ hS2
        have HBe := bestF_any hM2.s hM2.inn (by have := here_len hM2.nodup hM2.inn; omega)
        rw [HG.out.1] at HBe
        have HBe := Lib.hid HBe
        have HX := Lib.hid (And.intro hM2 (And.intro hS2 (And.intro hK2 (And.intro hI2 hs2))))
        clear hM2 hS2 hK2 hI2 hs2
        gi_wp2_with (refine ⟨trivial, ?_⟩; gi_at_call 87; refine (CallsIn.inRound l0 (callsIn_wide.2 HBe.out)).mono ?_; rintro en w2 ⟨fb, ok, rfl, hbest, hb2⟩; obtain ⟨okv, hok⟩ : ∃ o, o = ok := ⟨_, rfl⟩; rw [← hok] at hbest; have HBB := Lib.hid (And.intro hbest hb2); have HS2 := Lib.hid (HX.out.2.1.below HF.out.1 hb2); obtain ⟨c72, c62, c52⟩ := C7.out _ _ _ HS2.out; obtain ⟨vx, cx, fx⟩ := row_facts HS2.out.row (a := tq) (by have := HB.out.2.1; omega); rw [HE10.out] at cx fx; clear hbest hb2; rcases ok with _ | _ <;> have HOK := Lib.hid hok <;> clear hok)
        all_goals
          obtain ⟨hM2, hS2, hK2, hI2, hs2⟩ := HX.out
          obtain ⟨hbest, hb2⟩ := HBB.out
          obtain ⟨hF, hwe, hpe, hms, hnl, hpq, hal, e10⟩ := HF.out
          obtain ⟨hS, hxl, hfk, hr, hw⟩ := HB.out
          have hE := hEq.out
          have hml : E.ms = ms ∧ E.mq = mq ∧ E.bs = w6.heap.size ∧ E.bp = bp := by rw [hE]; exact ⟨rfl, rfl, rfl, rfl⟩
          have hEnd : ∀ W' xs', ESafe e E W' tq here2 met2 xs' → xs' = (if okv = true then xs.set tq fb else xs) → KpR w6.heap.size bp W W' ∧ EInv e E (atT_bound (nums e.T)) (pre ++ [x]) W' := by
            intro W' xs' hS' hxs
            refine ⟨?_, tq, here2, met2, xs', hS', ⟨hM2.nodup, hM2.inn, by omega, by rw [hxs]; split <;> simp [hxl]⟩, fun k hk hk2 => ?_⟩
            · have h1 := (hS'.fix _ (.inr (.inr (.inr (.inl rfl))))).trans (hS.fix _ (.inr (.inr (.inr (.inl rfl))))).symm
              have h2 := (hS'.fix _ (.inr (.inr (.inr (.inr (.inl rfl)))))).trans (hS.fix _ (.inr (.inr (.inr (.inr (.inl rfl)))))).symm
              rw [hml.2.2.1] at h1
              rw [hml.2.2.2] at h2
              exact ⟨h1, h2⟩
            · obtain ⟨k', rfl, _, _⟩ := backL_inj hk
              have hfull := HFI.out ⟨k', by omega, hk⟩
              obtain ⟨k0, hk0, hx0, hR, hq⟩ := hfk hfull
              have hkk : k' = k0 := by
                have h1 := congrArg List.length hk
                have h2 := congrArg List.length hx0
                rw [backL_len] at h1 h2
                omega
              subst hkk
              rw [hxs]
              have hst := hs2 hfull
              have hmm : m = ms.length := by have := hF.ml; rw [hml.1, hml.2.1] at this; omega
              rw [hmm, List.take_length, ← hnl] at hst
              exact hR.next hwe hpe hk0 hq hr hms hst hI2 (by rw [hnl]; exact hxl) hbest
          have hKo : KeepsOthers W w2 := hK2.trans (others_below hb2)
          first
            | exact ⟨hKo.trans (KeepsOthers.setCell _ _ _), (hEnd _ _ (by have h := HS2.out.store hF tq fb; rw [e10] at h; exact h) (by rw [if_pos HOK.out])).1, (hEnd _ _ (by have h := HS2.out.store hF tq fb; rw [e10] at h; exact h) (by rw [if_pos HOK.out])).2⟩
            | exact ⟨hKo, (hEnd _ _ HS2.out (by rw [if_neg (by rw [HOK.out]; simp)])).1, (hEnd _ _ HS2.out (by rw [if_neg (by rw [HOK.out]; simp)])).2⟩
  case done =>
    rintro D ys W hD hys hE2 hK
    have hfin : EInv e E (atT_bound (nums e.T)) ys (W.putObj D (.deferred none)) := OwnFrom.putObj hI _ hE2 hD hK rfl
    have c5 : W.cell? ⟨w2.heap.size, 0, none⟩ = some (.slice (some ⟨w.heap.size + 1, 0, none⟩) (e.T.size + 1) (e.T.size + 1)) := by
      obtain ⟨at_, here, met, xs, hS, _⟩ := hE2
      have h5 := (hS.fix _ (.inl rfl)).trans HF.out.1.c5
      have hE := hEq.out
      rw [HE10.out] at h5
      rw [hE] at h5
      exact cell_of_row W w2.heap.size 0 _ _ (0, 0) h5
    have HFin := Lib.hid (And.intro hfin hys)
    clear hfin hys hE2
    gi_wp2
    refine ⟨by simp, .inl ⟨_, _, rfl, run_takeDeferred hK, ?_⟩⟩
    obtain ⟨⟨at_, here, met, xs, hS, ⟨_, _, _, hxl⟩, hreal⟩, hys⟩ := HFin.out
    obtain ⟨hF, hwe, hpe, hms, hnl, hpq, hal, e10⟩ := HF.out
    refine ⟨_, results_tmp rfl _ _ _, e.skip, xs, by rw [e10]; rfl, hxl, by omega, hS.row, ?_, ?_⟩
    · have hR := (hreal ((rsT (nums e.T)).length + 1) (by rw [hys, hpq]) (Nat.le_refl _)).over
      rw [hnl] at hR
      exact hR
    · have h1 := hS.bel
      have hE := hEq.out
      rw [hE] at h1
      exact h1
  case stop =>
    rintro D c pre W hD _ h _
    exact h.elim
end Go.Proofs.YtaapbmdojkjphaaGreat
namespace Go.Proofs.YtaapbmdojkjphaaGreat
open Go Go.RowKit
set_option linter.unusedVariables false
set_option maxRecDepth 20000
theorem cellsG_get (s : List (Int × Int)) {j : Nat} {x : Int × Int} (h : s[j]? = some x) : (cellsG s)[j * 2]? = some (.int .i64 x.1) ∧ (cellsG s)[j * 2 + 1]? = some (.int .i64 x.2) := by
  have hj := (List.getElem?_eq_some_iff.1 h).1
  have := cellsG_at s j hj
  rw [List.getD, h] at this
  exact this
theorem pushP (t e : TypeId) (ht : Tryz.prog.underlying t = some (.slice e)) (hinfo : (Tryz.prog.info? e).map (fun i => (i.zero, i.size, i.bytes)) = some (some (.agg #[.int .i64 0, .int .i64 0]), 2, 16))
    {B : Nat} {w : World} {P : Option Addr} {q pc : Nat} {xs : List (Int × Int)} (h : w.ownsRow B e 2 (.slice P q pc) q (cellsG xs)) (ys : List (Int × Int)) {d : Nat} (hd : w.heap[d]? = some (.cells (cellsG ys).toArray e (0, 0))) (hq : q ≤ 1000000) (hn : ys.length ≤ 100000) (hB : B ≤ w.heap.size) :
    ∃ P' pc' w', (Builtin.append_ #[t, t] t #[.slice P q pc, .slice (some ⟨d, 0, none⟩) ys.length ys.length]).run Tryz.prog w = .ok (.slice P' (q + ys.length) pc') w' ∧ w'.ownsRow B e 2 (.slice P' (q + ys.length) pc') (q + ys.length) (cellsG (xs ++ ys)) ∧ Below B w w' ∧ ∀ g, g < w.heap.size → (Value.slice P q pc).ownBlock ≠ some g → w'.heap[g]? = w.heap[g]? := by
  obtain ⟨i0, hi, hz0, hz1, hz2⟩ := info_parts hinfo
  have hcells : ∀ j u, (cellsG ys)[j]? = some u → w.cell? ((⟨d, 0, none⟩ : Addr).add j) = some u := by
    intro j u hu
    have hadd : (⟨d, 0, none⟩ : Addr).add j = ⟨d, j, none⟩ := by unfold Addr.add; split <;> simp_all
    rw [hadd, cell_of_row _ d j _ _ (0, 0) hd, ← hu]
    simp
  obtain ⟨V', w', h1, h2, h3, _⟩ := run_append_own (P := Tryz.prog) w B t t e i0 _ 2 16 ht hi hz0 hz1 hz2 rfl (by decide) _ q _ h ⟨d, 0, none⟩ ys.length ys.length (cellsG ys) (by rw [cellsG_length]) hcells
    (by intro u hu; obtain ⟨p, _, hp⟩ := List.mem_flatMap.1 hu; simp at hp; rcases hp with rfl | rfl <;> rfl) (by unfold maxLen; omega) (by omega) hB
  have hb' : Below B w w' := (Below.refl _ _).grown h3 hB (by intro k hk; exact (row_lt h hk).1)
  have hk' : ∀ g, g < w.heap.size → (Value.slice P q pc).ownBlock ≠ some g → w'.heap[g]? = w.heap[g]? := fun g hg hne => h3.block g hg fun e => hne e.symm
  rw [← cellsG_append] at h2
  rcases h2.2 with ⟨rfl, h0⟩ | ⟨b, cap, cu, rfl, _⟩
  · rw [h0] at h2 ⊢
    exact ⟨none, 0, w', h1, h2, hb', hk'⟩
  · exact ⟨_, _, w', h1, h2, hb', hk'⟩
theorem pair_at {w : World} {B : Nat} {e : TypeId} {P : Option Addr} {n pc : Nat} {xs : List (Int × Int)} (h : w.ownsRow B e 2 (.slice P n pc) n (cellsG xs)) {j : Nat} {x : Int × Int} (hx : xs[j]? = some x) : ∃ b, P = some ⟨b, 0, none⟩ ∧ j < n ∧ B ≤ b ∧ b < w.heap.size ∧ w.cell? ⟨b, j * 2, none⟩ = some (.int .i64 x.1) ∧ w.cell? ⟨b, j * 2 + 1, none⟩ = some (.int .i64 x.2) := by
  have hj := (List.getElem?_eq_some_iff.1 hx).1
  have hl := h.1
  rw [cellsG_length] at hl
  obtain ⟨e0, e1⟩ := cellsG_get xs hx
  rcases h.2 with ⟨e, h0⟩ | ⟨b, cap, cur, e, hB, hb, hnc, hcm, hcs, ht⟩
  · omega
  · injection e with e1' _ e3
    subst e1'; subst e3
    refine ⟨b, rfl, by omega, hB, (Array.getElem?_eq_some_iff.1 hb).1, ?_, ?_⟩
    · rw [cell_of_row w b (j * 2) cur _ (0, 0) hb, ← e0, ← ht, List.getElem?_take_of_lt (by omega), Array.getElem?_toList]
    · rw [cell_of_row w b (j * 2 + 1) cur _ (0, 0) hb, ← e1, ← ht, List.getElem?_take_of_lt (by omega), Array.getElem?_toList]
theorem pairs_len {w : World} {B : Nat} {e : TypeId} {P : Option Addr} {n pc : Nat} {xs : List (Int × Int)} (h : w.ownsRow B e 2 (.slice P n pc) n (cellsG xs)) : xs.length = n := by have := h.1; rw [cellsG_length] at this; omega
end Go.Proofs.YtaapbmdojkjphaaGreat
