/- Texts. -/
import Derived.Test.YtaapbmdojkjphaaGreatZ03
import Derived.Test.YtaapbmdojkjphaaGreatZ05
import Derived.Test.YtaapbmdojkjphaaGreatZ11
import Derived.Test.YtaapbmdojkjphaaGreatZ12
import Derived.BigQuiet
namespace Go.Proofs.YtaapbmdojkjphaaGreat
open Go Go.RowKit
set_option linter.unusedVariables false
set_option maxRecDepth 20000
def tokC5 (t : TokL) (A : Option Addr) (m c : Nat) : List Value := [.int .i64 t.kind, .int .i64 t.r, .slice A m c, .int .i64 t.mn, .int .i64 t.mx]
def ToksAt (F : Nat → Prop) (w : World) (L : Option Addr) (n : Nat) (ts : List TokL) : Prop :=
  ts.length = n ∧ (0 < n → ∃ b o, L = some ⟨b, o, none⟩ ∧ b < w.heap.size ∧ ∀ j t, ts[j]? = some t → ∃ (A : Option Addr) (m c : Nat), (∀ i v, (tokC5 t A m c)[i]? = some v → w.cell? ⟨b, o + j * 5 + i, none⟩ = some v) ∧ RowF F w A m t.set)
section
variable {F : Nat → Prop} {w w' : World} {L : Option Addr} {n : Nat} {ts : List TokL}
theorem ToksAt.below (h : ToksAt F w L n ts) (hb : Below w.heap.size w w') : ToksAt F w' L n ts := by
  refine ⟨h.1, fun hn => ?_⟩
  obtain ⟨b, o, hL, hlt, hc⟩ := h.2 hn
  refine ⟨b, o, hL, Nat.lt_of_lt_of_le hlt hb.size, fun j t ht => ?_⟩
  obtain ⟨A, m, c, h1, h2⟩ := hc j t ht
  exact ⟨A, m, c, fun i v hv => (hb.cell (p := ⟨b, o + j * 5 + i, none⟩) hlt).trans (h1 i v hv), h2.below hb⟩
theorem ToksAt.cut (h : ToksAt F w L n ts) (k m : Nat) (hk : k + m ≤ n) (b o : Nat) (hL : L = some ⟨b, o, none⟩) : ToksAt F w (some ⟨b, o + k * 5, none⟩) m ((ts.drop k).take m) := by
  refine ⟨by rw [List.length_take, List.length_drop, h.1]; omega, fun hm => ?_⟩
  obtain ⟨b', o', hL', hlt, hc⟩ := h.2 (by omega)
  rw [hL] at hL'
  injection hL' with hL'
  injection hL' with e1 e2
  subst e1; subst e2
  refine ⟨b, o + k * 5, rfl, hlt, fun j t ht => ?_⟩
  have hj : j < m := by have := (List.getElem?_eq_some_iff.1 ht).1; rw [List.length_take] at this; omega
  rw [List.getElem?_take_of_lt hj, List.getElem?_drop] at ht
  obtain ⟨A, m', c, h1, h2⟩ := hc (k + j) t ht
  exact ⟨A, m', c, fun i v hv => by rw [show o + k * 5 + j * 5 + i = o + (k + j) * 5 + i by omega]; exact h1 i v hv, h2⟩
end
def closeR : Nat → List TokL → Option Nat
  | _, [] => none
  | d, t :: l => if isOpen t = true then (closeR (d + 1) l).map (· + 1) else if isShut t = true then (if d = 1 then some 0 else (closeR (d - 1) l).map (· + 1)) else (closeR d l).map (· + 1)
theorem closeR_is : ∀ (l : List TokL) (c : Nat), closeR (c + 1) l = closeL c l
  | [], _ => by rw [closeR, closeL]
  | t :: l, c => by
    rw [closeR, closeL_cons, closeR_is l (c + 1)]
    rcases c with _ | c
    · rw [if_pos rfl, closeR_is l 0]
    · have e : ∀ x : Option Nat, (if c + 1 + 1 = 1 then some 0 else x) = x := fun x => if_neg (by omega)
      rw [e, show c + 1 + 1 - 1 = c + 1 by omega, closeR_is l c, closeR_is l (c + 1)]
def closeI (at' : Nat) (r : Option Nat) : Int := match r with
  | some k => (at' : Int) + (k : Int)
  | none => -1
set_option maxHeartbeats 2000000 in
theorem rclose_any {F : Nat → Prop} {W : World} {L : Option Addr} {n : Nat} {ts : List TokL} (c : Nat) (h : ToksAt F W L n ts) (hn : n ≤ 200) (k : Nat) (t0 : TokL) (hk : ts[k]? = some t0) (h0 : isOpen t0 = true) :
    Calls Tryz.prog 36 #[.slice L n c, .int .i64 (k : Int)] W fun e w' => e = .returned (.int .i64 (closeI k (closeR 0 (ts.drop k)))) ∧ W = w' := by
  have hkn : k < n := by have := (List.getElem?_eq_some_iff.1 hk).1; rw [h.1] at this; exact this
  obtain ⟨b, o, rfl, hlt, hc⟩ := h.2 (by omega)
  have HL := Lib.hid h.1
  have HC := Lib.hid fun j t (ht : ts[j]? = some t) => show W.cell? ⟨b, o + j * 5, none⟩ = some (.int .i64 t.kind) ∧ W.cell? ⟨b, o + j * 5 + 1, none⟩ = some (.int .i64 t.r) from by
    obtain ⟨A, m, c, h1, _⟩ := hc j t ht
    exact ⟨h1 0 _ rfl, h1 1 _ rfl⟩
  have HK := Lib.hid (And.intro hk h0)
  clear h hc hk h0
  go_enter Tryz.func36, Tryz.ntmps36
  go_wp2_with fail
  go_loopw [5, 6] (fun vd vi wr => ∃ (d j : Nat), vd = .int .i64 (d : Int) ∧ vi = .int .i64 (j : Int) ∧ wr = W ∧ j ≤ n ∧ k ≤ j ∧ d ≤ j ∧ Hid ((1 ≤ d ∨ (d = 0 ∧ j = k)) ∧ closeR 0 (ts.drop k) = (closeR d (ts.drop j)).map (· + (j - k)))) (fun _ vi _ => match vi with | .int _ j => n - j.toNat | _ => 0)
  case atStart => exact ⟨0, k, rfl, rfl, rfl, by omega, by omega, by omega, Lib.hid ⟨.inr ⟨rfl, rfl⟩, by simp⟩⟩
  case round =>
    obtain ⟨d, j, rfl, rfl, rfl, hjn, hkj, hdj, H⟩ := hrel
    by_cases hj : j < n
    · obtain ⟨t, ht⟩ : ∃ t, ts[j]? = some t := ⟨_, List.getElem?_eq_getElem (by rw [HL.out]; exact hj)⟩
      obtain ⟨c0, c1⟩ := HC.out j t ht
      have HD := Lib.hid (show ts.drop j = t :: ts.drop (j + 1) by
        obtain ⟨h1, h2⟩ := List.getElem?_eq_some_iff.1 ht
        rw [List.drop_eq_getElem_cons h1, h2])
      have HT := Lib.hid ht
      have hw1 : IntKind.i64.wrap ((d : Int) + 1) = ((d + 1 : Nat) : Int) := by rw [IntKind.wrap_i64]; omega
      clear ht
      have hms : n - (j + 1) < n - j := by omega
      have step : ∀ d' : Nat, (1 ≤ d' ∨ (d' = 0 ∧ j + 1 = k)) → closeR d (t :: ts.drop (j + 1)) = (closeR d' (ts.drop (j + 1))).map (· + 1) → Hid ((1 ≤ d' ∨ (d' = 0 ∧ j + 1 = k)) ∧ closeR 0 (ts.drop k) = (closeR d' (ts.drop (j + 1))).map (· + (j + 1 - k))) := fun d' h1 h2 => Lib.hid ⟨h1, by
        rw [H.out.2, HD.out, h2, Option.map_map]
        congr 1
        funext x
        show x + 1 + (j - k) = x + (j + 1 - k)
        omega⟩
      have HSt := Lib.hid step
      clear step
      by_cases hk1 : t.kind = 1
      · by_cases h40 : t.r = 40
        · have HO := Lib.hid (show isOpen t = true by unfold isOpen; rw [hk1, h40]; rfl)
          rw [hk1] at c0
          rw [h40] at c1
          clear hk1 h40
          go_wp2
          exact ⟨⟨d + 1, j + 1, rfl, rfl, trivial, by omega, by omega, by omega, HSt.out _ (.inl (by omega)) (by rw [closeR, if_pos HO.out])⟩, by show n - ((j : Int) + 1).toNat < n - (j : Int).toNat; omega⟩
        · have HO := Lib.hid (show isOpen t = false from open_no (.inr h40))
          have hd1 : 1 ≤ d := by
            rcases H.out.1 with h | ⟨_, h⟩
            · exact h
            · subst h
              have := HK.out.1
              rw [HT.out] at this
              injection this with this
              rw [this, HK.out.2] at HO
              cases HO.out
          have e40 : (t.r == 40) = false := by simpa using h40
          by_cases h41 : t.r = 41
          · have HS := Lib.hid (show isShut t = true by unfold isShut; rw [hk1, h41]; rfl)
            have hw2 : IntKind.i64.wrap ((d : Int) - 1) = ((d - 1 : Nat) : Int) := by rw [IntKind.wrap_i64]; omega
            rw [hk1] at c0
            rw [h41] at c1
            clear hk1 h40 h41 e40
            by_cases hd : d = 1
            · subst hd
              go_wp2
              go_ret
              have e : closeR 0 (ts.drop k) = some (j - k) := by
                rw [H.out.2, HD.out, closeR, if_neg (by rw [HO.out]; decide), if_pos HS.out, if_pos rfl]
                show some (0 + (j - k)) = _
                rw [Nat.zero_add]
              rw [e]
              refine ⟨?_, rfl⟩
              show _ = Ending.returned (.int .i64 ((k : Int) + ((j - k : Nat) : Int)))
              rw [show (k : Int) + ((j - k : Nat) : Int) = (j : Int) by omega]
              rfl
            · have n1 : ((d : Int) - 1 == 0) = false := by simp; omega
              go_wp2
              exact ⟨⟨d - 1, j + 1, by rw [show ((d - 1 : Nat) : Int) = (d : Int) - 1 by omega], rfl, trivial, by omega, by omega, by omega, HSt.out _ (.inl (by omega)) (by rw [closeR, if_neg (by rw [HO.out]; decide), if_pos HS.out, if_neg hd])⟩, by show n - ((j : Int) + 1).toNat < n - (j : Int).toNat; omega⟩
          · have HS := Lib.hid (show isShut t = false from shut_no (.inr h41))
            have e41 : (t.r == 41) = false := by simpa using h41
            rw [hk1] at c0
            clear hk1 h40 h41
            go_wp2
            exact ⟨⟨d, j + 1, rfl, rfl, trivial, by omega, by omega, by omega, HSt.out _ (.inl hd1) (by rw [closeR, if_neg (by rw [HO.out]; decide), if_neg (by rw [HS.out]; decide)])⟩, by show n - ((j : Int) + 1).toNat < n - (j : Int).toNat; omega⟩
      · have HO := Lib.hid (show isOpen t = false from open_no (.inl hk1))
        have HS := Lib.hid (show isShut t = false from shut_no (.inl hk1))
        have hd1 : 1 ≤ d := by
          rcases H.out.1 with h | ⟨_, h⟩
          · exact h
          · subst h
            have := HK.out.1
            rw [HT.out] at this
            injection this with this
            rw [this, HK.out.2] at HO
            cases HO.out
        have e1 : (t.kind == 1) = false := by simpa using hk1
        clear hk1
        go_wp2
        exact ⟨⟨d, j + 1, rfl, rfl, trivial, by omega, by omega, by omega, HSt.out _ (.inl hd1) (by rw [closeR, if_neg (by rw [HO.out]; decide), if_neg (by rw [HS.out]; decide)])⟩, by show n - ((j : Int) + 1).toNat < n - (j : Int).toNat; omega⟩
    · have hjn' : j = n := by omega
      subst hjn'
      go_wp2
      go_ret
      have e : closeR 0 (ts.drop k) = none := by
        rw [H.out.2, List.drop_eq_nil_of_le (by rw [HL.out]; exact Nat.le_refl _), closeR]
        rfl
      rw [e]
      exact ⟨rfl, rfl⟩
end Go.Proofs.YtaapbmdojkjphaaGreat
namespace Go.Proofs.YtaapbmdojkjphaaGreat
open Go Go.RowKit
set_option linter.unusedVariables false
set_option maxRecDepth 20000
def treeT (D : Nat) (ts : List TokL) : Option Wood := if 10 < D then none else runT D ts [] .nil .nil false
def TreeV (B0 : Nat → Prop) (r : Option Wood) (W : World) (e : Ending) (w' : World) : Prop :=
  match r with
  | none => e = .returned (.tuple #[.agg #[.int .i64 0, .slice none 0 0, .int .i64 0, .int .i64 0, .slice none 0 0], .bool false]) ∧ Below W.heap.size W w'
  | some T => (∃ x : NV, e = .returned (.tuple #[x.val, .bool true]) ∧ NodesIn (fun b => B0 b ∨ W.heap.size ≤ b) w' [x] T) ∧ Below W.heap.size W w'
theorem roomN_world (W : World) : ∃ (W1 : World) (g : Nat), W1 = W.alloc (.cells #[.int .i64 0, .slice none 0 0, .int .i64 0, .int .i64 0, .slice none 0 0] 27) ∧ g = W.heap.size ∧ W1.heap.size = g + 1 ∧
    ∀ wr, Below W1.heap.size W1 wr → wr.heap[g]? = some (.cells #[.int .i64 0, .slice none 0 0, .int .i64 0, .int .i64 0, .slice none 0 0] 27 (0, 0)) ∧ Below W.heap.size W wr :=
  ⟨_, _, rfl, rfl, by simp, fun wr hb => ⟨(hb.block _ (by simp)).trans (heap_alloc_new W _), ((Below.refl _ _).alloc (Nat.le_refl _) _).trans (hb.mono (by simp))⟩⟩
theorem room_cells {w : World} {g : Nat} (h : w.heap[g]? = some (.cells #[.int .i64 0, .slice none 0 0, .int .i64 0, .int .i64 0, .slice none 0 0] 27 (0, 0))) (v0 v1 v2 v3 v4 : Value) :
    (put5 w g v0 v1 v2 v3 v4).cell? ⟨g, 0, none⟩ = some v0 ∧ (put5 w g v0 v1 v2 v3 v4).cell? ⟨g, 1, none⟩ = some v1 ∧ (put5 w g v0 v1 v2 v3 v4).cell? ⟨g, 2, none⟩ = some v2 ∧ (put5 w g v0 v1 v2 v3 v4).cell? ⟨g, 3, none⟩ = some v3 ∧ (put5 w g v0 v1 v2 v3 v4).cell? ⟨g, 4, none⟩ = some v4 ∧ ∀ j, (put5 w g v0 v1 v2 v3 v4).frozen? ⟨g, j, none⟩ = false := box_facts (put5_heap h _ _ _ _ _)
section
variable {B0 : Nat → Prop} {B : Nat} {w X : World} {P1 P2 : Option Addr} {q1 c1 q2 c2 : Nat} {xs ys : List NV} {a p n : Wood} {x : NV}
theorem piece_push (h : TreeSt B0 B w P1 q1 c1 P2 q2 c2 xs ys a p) (o : Obj) (x : NV) (hx : NodesIn (FT B0 B (.slice P1 q1 c1) (.slice P2 q2 c2)) w [x] n) (hq : q2 ≤ 100000) (hB : B ≤ w.heap.size) :
    ∃ P' pc' w', (Builtin.append_ #[25, 25] 25 #[.slice P2 q2 c2, .slice (some ⟨w.heap.size + 1, 0, none⟩) 1 1]).run Tryz.prog ((w.alloc o).alloc (.cells x.cells.toArray 27)) = .ok (.slice P' (q2 + 1) pc') w' ∧
      TreeSt B0 B w' P1 q1 c1 P' (q2 + 1) pc' xs (ys ++ [x]) a (p.app n) ∧ Below B w w' := by
  have hb : Below w.heap.size w ((w.alloc o).alloc (.cells x.cells.toArray 27)) := ((Below.refl _ _).alloc (Nat.le_refl _) _).alloc (by simp) _
  have hd : ((w.alloc o).alloc (.cells x.cells.toArray 27)).heap[w.heap.size + 1]? = some (.cells x.cells.toArray 27 (0, 0)) := by
    have := heap_alloc_new (w.alloc o) (.cells x.cells.toArray 27)
    rwa [show (w.alloc o).heap.size = w.heap.size + 1 by simp] at this
  obtain ⟨P', pc', w', h1, h2, h3⟩ := (h.below hb).push2 hd (hx.move hb.size fun b hF hlt => ⟨hF, hb.block b hlt⟩) hq (Nat.le_trans hB hb.size)
  exact ⟨P', pc', w', h1, h2, (hb.mono hB).trans h3⟩
theorem alt_push (h : TreeSt B0 B w P1 q1 c1 P2 q2 c2 xs ys a p) (hX : Below w.heap.size w X) (x : NV) (hx : NodesIn (fun b => (B0 b ∨ B ≤ b) ∧ (Value.slice P1 q1 c1).ownBlock ≠ some b) X [x] n) (hq : q1 ≤ 100000) (hB : B ≤ w.heap.size) :
    ∃ P' pc' w', (Builtin.append_ #[25, 25] 25 #[.slice P1 q1 c1, .slice (some ⟨X.heap.size, 0, none⟩) 1 1]).run Tryz.prog (X.alloc (.cells x.cells.toArray 27)) = .ok (.slice P' (q1 + 1) pc') w' ∧
      TreeSt B0 B w' P' (q1 + 1) pc' none 0 0 (xs ++ [x]) [] (a.app n) .nil ∧ Below B w w' := by
  have hb : Below X.heap.size X (X.alloc (.cells x.cells.toArray 27)) := (Below.refl _ _).alloc (Nat.le_refl _) _
  obtain ⟨P', pc', w', h1, h2, h3⟩ := ((h.below hX).below hb).push1 (heap_alloc_new X _) (hx.move hb.size fun b hF hlt => ⟨hF, hb.block b hlt⟩) hq (Nat.le_trans hB (Nat.le_trans hX.size hb.size))
  exact ⟨P', pc', w', h1, h2, ((hX.mono hB).trans (hb.mono (Nat.le_trans hB hX.size))).trans h3⟩
end
theorem NodeAlloc {w : World} {g : Nat} {cs : Array Value} {ty : TypeId} {fr : Nat × Nat} (h : w.heap[g]? = some (.cells cs ty fr)) (o : Obj) : (w.alloc o).heap[g]? = some (.cells cs ty fr) :=
  (Below.heap_alloc w o g (Array.getElem?_eq_some_iff.1 h).1).trans h
theorem paren_open {D : Nat} {t : TokL} {rest : List TokL} {a p : Wood} {lo : Bool} (hk : t.kind = 1) (hr : t.r = 40) (hok : ∀ t ∈ rest, TokOk t) (h : closeL 0 rest = none) : runT D (t :: rest) [] a p lo = none := by
  rw [run_paren hk hr]
  split
  · exact run_open D a p [] rest hok [] .nil .nil false h
  · rfl
theorem paren_run {D m : Nat} {t : TokL} {rest : List TokL} {a p : Wood} {lo : Bool} (hk : t.kind = 1) (hr : t.r = 40) (hD : D ≤ 10) (hok : ∀ t ∈ rest, TokOk t) (h : closeL 0 rest = some m) :
    runT D (t :: rest) [] a p lo = (treeT (D + 1) (rest.take m)).bind fun n => runT D (rest.drop (m + 1)) [] a (p.app n) true := by
  rw [run_paren hk hr]
  by_cases h10 : D < 10
  · rw [if_pos (by simpa using h10)]
    unfold treeT
    rw [if_neg (by omega)]
    exact run_close D a p [] rest hok [] .nil .nil false m h
  · rw [if_neg (by simpa using h10)]
    unfold treeT
    rw [if_pos (by omega)]
    rfl
theorem paren_push {B0 : Nat → Prop} {g q1 c1 q2 c2 : Nat} {W W1 wr w2 : World} {P1 P2 : Option Addr} {xs ys : List NV} {a p T : Wood} {x : NV} (hW1 : Below W1.heap.size W1 wr) (h : TreeSt B0 W1.heap.size wr P1 q1 c1 P2 q2 c2 xs ys a p) (hs : W1.heap.size = g + 1) (hg : g = W.heap.size) (hB0 : ∀ b, B0 b → b < W.heap.size) (o : Obj) (hb : Below (wr.alloc o).heap.size (wr.alloc o) w2) (hN : NodesIn (fun b => B0 b ∨ (wr.alloc o).heap.size ≤ b) w2 [x] T) (hq : q2 ≤ 100000) :
    ∃ P' pc' w', (Builtin.append_ #[25, 25] 25 #[.slice P2 q2 c2, .slice (some ⟨w2.heap.size + 1, 0, none⟩) 1 1]).run Tryz.prog ((w2.alloc (.cells x.cells.toArray 27)).alloc (.cells x.cells.toArray 27)) = .ok (.slice P' (q2 + 1) pc') w' ∧
      TreeSt B0 W1.heap.size w' P1 q1 c1 P' (q2 + 1) pc' xs (ys ++ [x]) a (p.app T) ∧ Below W1.heap.size W1 w' := by
  have h1 : Below wr.heap.size wr w2 := ((Below.refl _ _).alloc (Nat.le_refl _) o).trans (hb.mono (by simp))
  have hso : (wr.alloc o).heap.size = wr.heap.size + 1 := by simp
  have hx : NodesIn (FT B0 W1.heap.size (.slice P1 q1 c1) (.slice P2 q2 c2)) w2 [x] T := hN.move (Nat.le_refl _) fun b hF _ => by
    have hz := hW1.size
    have hlt : b < W.heap.size ∨ (wr.alloc o).heap.size ≤ b := hF.elim (fun h => .inl (hB0 b h)) .inr
    refine ⟨⟨hF.elim .inl (fun h => .inr (by omega)), fun e => ?_, fun e => ?_⟩, rfl⟩
    · have := row_lt h.1 e; omega
    · have := row_lt h.2.1 e; omega
  obtain ⟨P', pc', w', k1, k2, k3⟩ := piece_push (h.below h1) (.cells x.cells.toArray 27) x hx hq (Nat.le_trans hW1.size h1.size)
  exact ⟨P', pc', w', k1, k2, hW1.trans ((h1.mono hW1.size).trans k3)⟩
theorem two_boxes {wr w0 : World} {v0 v1 v2 v3 v4 u0 u1 u2 u3 u4 : Value} {ty uy : TypeId} (h : w0 = (wr.alloc (.cells #[v0, v1, v2, v3, v4] ty)).alloc (.cells #[u0, u1, u2, u3, u4] uy)) :
    w0.heap.size = wr.heap.size + 2 ∧ Below wr.heap.size wr w0 ∧
    (∀ w', Below w0.heap.size w0 w' → w'.cell? ⟨wr.heap.size, 0, none⟩ = some v0 ∧ w'.cell? ⟨wr.heap.size, 1, none⟩ = some v1 ∧ w'.cell? ⟨wr.heap.size, 2, none⟩ = some v2 ∧ w'.cell? ⟨wr.heap.size, 3, none⟩ = some v3 ∧ w'.cell? ⟨wr.heap.size, 4, none⟩ = some v4) ∧
    (∀ w', Below w0.heap.size w0 w' → w'.cell? ⟨wr.heap.size + 1, 0, none⟩ = some u0 ∧ w'.cell? ⟨wr.heap.size + 1, 1, none⟩ = some u1 ∧ w'.cell? ⟨wr.heap.size + 1, 2, none⟩ = some u2 ∧ w'.cell? ⟨wr.heap.size + 1, 3, none⟩ = some u3 ∧ w'.cell? ⟨wr.heap.size + 1, 4, none⟩ = some u4) := by
  subst h
  have hs : ((wr.alloc (.cells #[v0, v1, v2, v3, v4] ty)).alloc (.cells #[u0, u1, u2, u3, u4] uy)).heap.size = wr.heap.size + 2 := by simp
  have h1 : ((wr.alloc (.cells #[v0, v1, v2, v3, v4] ty)).alloc (.cells #[u0, u1, u2, u3, u4] uy)).heap[wr.heap.size]? = some (.cells #[v0, v1, v2, v3, v4] ty (0, 0)) := (Below.heap_alloc _ _ _ (by simp)).trans (heap_alloc_new wr _)
  have h2 : ((wr.alloc (.cells #[v0, v1, v2, v3, v4] ty)).alloc (.cells #[u0, u1, u2, u3, u4] uy)).heap[wr.heap.size + 1]? = some (.cells #[u0, u1, u2, u3, u4] uy (0, 0)) := by
    have := heap_alloc_new (wr.alloc (.cells #[v0, v1, v2, v3, v4] ty)) (.cells #[u0, u1, u2, u3, u4] uy)
    rwa [show (wr.alloc (.cells #[v0, v1, v2, v3, v4] ty)).heap.size = wr.heap.size + 1 by simp] at this
  refine ⟨hs, ((Below.refl _ _).alloc (Nat.le_refl _) _).alloc (by simp) _, fun w' h => ?_, fun w' h => ?_⟩
  · have h3 := (h.block wr.heap.size (by omega)).trans h1
    exact ⟨cell_of_row w' _ 0 _ _ (0, 0) h3, cell_of_row w' _ 1 _ _ (0, 0) h3, cell_of_row w' _ 2 _ _ (0, 0) h3, cell_of_row w' _ 3 _ _ (0, 0) h3, cell_of_row w' _ 4 _ _ (0, 0) h3⟩
  · have h3 := (h.block (wr.heap.size + 1) (by omega)).trans h2
    exact ⟨cell_of_row w' _ 0 _ _ (0, 0) h3, cell_of_row w' _ 1 _ _ (0, 0) h3, cell_of_row w' _ 2 _ _ (0, 0) h3, cell_of_row w' _ 3 _ _ (0, 0) h3, cell_of_row w' _ 4 _ _ (0, 0) h3⟩
theorem tree_end {B0 : Nat → Prop} {g : Nat} {W W1 w : World} {x : NV} {T : Wood} (hg : g = W.heap.size) (hs : W1.heap.size = g + 1) (hB0 : ∀ b, B0 b → b < W.heap.size) (hN : NodesIn (fun b => B0 b ∨ W1.heap.size ≤ b) w [x] T) (v0 v1 v2 v3 v4 : Value) :
    NodesIn (fun b => B0 b ∨ W.heap.size ≤ b) (put5 w g v0 v1 v2 v3 v4) [x] T :=
  hN.move (by rw [put5_size]; exact Nat.le_refl _) fun b hF _ => ⟨hF.elim .inl (fun h => .inr (by omega)), put5_other w (hF.elim (fun h => by have := hB0 b h; omega) (fun h => by omega)) _ _ _ _ _⟩
theorem leafN' (F : Nat → Prop) (w : World) (op : Int) : NodesIn F w [⟨op, none, 0, 0, 0, 0, none, 0, 0⟩] (leaf op []) := ⟨⟨rfl, rfl, rfl⟩, ⟨rowF_nil F w, Nat.le_refl 0⟩, kids_nil F w, trivial⟩
def intOfT (v : Value) : Nat := match v with | .int _ j => j.toNat | _ => 0
section
variable {B0 : Nat → Prop} {D n c : Nat} {L : Option Addr} {ts : List TokL} {W : World}
set_option maxHeartbeats 1000000 in
theorem rtree_deep (D : Nat) (hD : 10 < D) (hD2 : D ≤ 1000) (ts : List TokL) (L : Option Addr) (n c : Nat) (W : World) : Calls Tryz.prog 18 #[.slice L n c, .int .i64 (D : Int)] W (TreeV B0 (treeT D ts) W) := by
  have HT := Lib.hid (show treeT D ts = none from if_pos hD)
  have h1 : ((10 : Int) < (D : Int)) := by omega
  clear hD
  go_enter Tryz.func18, Tryz.ntmps18
  go_wp2
  refine bodyPost_ret (v := .tuple #[.agg #[.int .i64 0, .slice none 0 0, .int .i64 0, .int .i64 0, .slice none 0 0], .bool false]) ?_ rfl ?_
  · rw [results_cell_tmp rfl]; go_simp
  · rw [HT.out]; exact ⟨rfl, by go_grown⟩
set_option maxHeartbeats 8000000 in
theorem rtree_step (hB0 : ∀ b, B0 b → b < W.heap.size) (hD : D ≤ 10) (h : ToksAt B0 W L n ts) (hn : n ≤ 200) (hnc : n ≤ c) (hok : ∀ t ∈ ts, TokOk t)
    (IH : ∀ (j m : Nat) (b o c : Nat) (w : World), j + m < n → m ≤ c → L = some ⟨b, o, none⟩ → Below W.heap.size W w → Calls Tryz.prog 18 #[.slice (some ⟨b, o + (j + 1) * 5, none⟩) m c, .int .i64 ((D : Int) + 1)] w (TreeV B0 (treeT (D + 1) ((ts.drop (j + 1)).take m)) w)) :
    Calls Tryz.prog 18 #[.slice L n c, .int .i64 (D : Int)] W (TreeV B0 (runT D ts [] .nil .nil false) W) := by
  have hD1 : ¬ ((10 : Int) < (D : Int)) := by omega
  have HL := Lib.hid h
  have HB0 := Lib.hid hB0
  have HIH := Lib.hid IH
  have HOK := Lib.hid hok
  clear h IH hB0 hok
  go_enter Tryz.func18, Tryz.ntmps18
  obtain ⟨W1, g, hW1, hg, hs1, hroom⟩ := roomN_world W
  have HRM := Lib.hid hroom
  have HG := Lib.hid (And.intro hg hs1)
  go_wp2_with fail
  rw [← hW1, ← hg]
  clear hW1 hg hs1 hroom
  go_loopw [6, 7, 8, 9] (fun va vp vl vi wr => ∃ (q1 c1 q2 c2 j : Nat) (P1 P2 : Option Addr) (xs ys : List NV) (a p : Wood) (lo : Bool), va = .slice P1 q1 c1 ∧ vp = .slice P2 q2 c2 ∧ vl = .bool lo ∧ vi = .int .i64 (j : Int) ∧ j ≤ n + 1 ∧ q1 ≤ j ∧ q2 ≤ j ∧
    Hid (Below W1.heap.size W1 wr ∧ TreeSt B0 W1.heap.size wr P1 q1 c1 P2 q2 c2 xs ys a p ∧ (lo = true → 0 < q2) ∧ ((j ≤ n ∧ runT D ts [] .nil .nil false = runT D (ts.drop j) [] a p lo) ∨ (j = n + 1 ∧ runT D ts [] .nil .nil false = some (oneN 5 a))))) (fun _ _ _ vi _ => n + 1 - intOfT vi)
  case atStart => exact ⟨0, 0, 0, 0, 0, none, none, [], [], .nil, .nil, false, rfl, rfl, rfl, rfl, by omega, by omega, by omega, Lib.hid ⟨Below.refl _ _, TreeSt.start _ _ _, (fun h => by cases h), .inl ⟨by omega, rfl⟩⟩⟩
  case round =>
    obtain ⟨q1, c1, q2, c2, j, P1, P2, xs, ys, a, p, lo, rfl, rfl, rfl, rfl, hj, hq1, hq2, H⟩ := hrel
    by_cases hjn : j = n + 1
    · subst hjn
      have HE := Lib.hid (show runT D ts [] .nil .nil false = some (oneN 5 a) by
        rcases H.out.2.2.2 with ⟨h, _⟩ | ⟨_, h⟩
        · omega
        · exact h)
      have HO := Lib.hid (rone_any (w := wr) 5 (F' := fun b => B0 b ∨ W1.heap.size ≤ b) H.out.2.1.1 H.out.2.1.2.2.1 (fun b hF => hF.1) (fun b hb => .inr (row_lt H.out.2.1.1 hb).1) (by omega))
      have n1 : ¬ (((n + 1 : Nat) : Int) ≤ (n : Int)) := by omega
      go_wp2_with (go_at_call 35; (with_reducible refine HO.out.mono ?_); rintro e w2 ⟨v, rfl, hN, hb⟩; obtain ⟨x, rfl, hN2⟩ := hN.one; have HX := Lib.hid (HRM.out w2 (H.out.1.trans (hb.mono H.out.1.size))); have HN := Lib.hid hN2; obtain ⟨q0, q1', q2', q3, q4, qf⟩ := box_facts HX.out.1; clear hN hN2 hb; simp only [NV.val])
      obtain ⟨z0, z1, z2, z3, z4, _⟩ := room_cells HX.out.1 (.int .i64 x.op) (.slice x.A x.ns x.cs) (.int .i64 x.mn) (.int .i64 x.mx) (.slice x.D x.nk x.ck)
      simp only [put5] at z0 z1 z2 z3 z4
      (try simp only [Exit.inBlock, Exit.then])
      refine bodyPost_ret (v := .tuple #[x.val, .bool true]) ?_ rfl ?_
      · rw [results_cell_tmp rfl]; go_simp
        rfl
      · rw [HE.out]
        exact ⟨⟨x, rfl, tree_end HG.out.1 HG.out.2 HB0.out HN.out _ _ _ _ _⟩, HX.out.2.trans (put5_below w2 (by rw [HG.out.1]; exact Nat.le_refl _) _ _ _ _ _)⟩
    by_cases hjn2 : j = n
    · subst hjn2
      have HE := Lib.hid (show runT D ts [] .nil .nil false = some (oneN 5 (a.app (oneN 4 p))) by
        rcases H.out.2.2.2 with ⟨_, h⟩ | ⟨h, _⟩
        · rw [h, List.drop_eq_nil_of_le (by rw [HL.out.1]; exact Nat.le_refl _)]
          rfl
        · omega)
      have HO := Lib.hid (rone_any (w := wr) 4 (F' := fun b => (B0 b ∨ W1.heap.size ≤ b) ∧ (Value.slice P1 q1 c1).ownBlock ≠ some b) H.out.2.1.2.1 H.out.2.1.2.2.2.1 (fun b hF => ⟨hF.1, hF.2.1⟩) (fun b hb => ⟨.inr (row_lt H.out.2.1.2.1 hb).1, fun e => H.out.2.1.2.2.2.2 b e hb⟩) (by omega))
      go_wp2_with (first
        | (go_at_call 35; (with_reducible refine HO.out.mono ?_); rintro e w2 ⟨v, rfl, hN, hb⟩; obtain ⟨x, rfl, hN2⟩ := hN.one; have HX := Lib.hid (alt_push H.out.2.1 hb x hN2 (by omega) H.out.1.size); obtain ⟨P', pc', w', HA⟩ : ∃ P' pc' w', Hid ((Builtin.append_ #[25, 25] 25 #[.slice P1 q1 c1, .slice (some ⟨w2.heap.size, 0, none⟩) 1 1]).run Tryz.prog (w2.alloc (.cells #[.int .i64 x.op, .slice x.A x.ns x.cs, .int .i64 x.mn, .int .i64 x.mx, .slice x.D x.nk x.ck] 27)) = .ok (.slice P' (q1 + 1) pc') w' ∧ TreeSt B0 W1.heap.size w' P' (q1 + 1) pc' none 0 0 (xs ++ [x]) [] (a.app (oneN 4 p)) .nil ∧ Below W1.heap.size wr w') := (by obtain ⟨P', pc', w', h⟩ := HX.out; exact ⟨P', pc', w', Lib.hid h⟩); clear hN hN2 hb HX; simp only [NV.val])
        | (at_builtin; refine wpList_append_run rfl _ _ 25 rfl rfl _ _ _ _ rfl rfl HA.out.1 ?_))
      exact ⟨⟨q1 + 1, pc', 0, 0, j + 1, P', none, xs ++ [x], [], a.app (oneN 4 p), .nil, false, rfl, rfl, rfl, rfl, by omega, by omega, by omega, Lib.hid ⟨H.out.1.trans HA.out.2.2, HA.out.2.1, (fun h => by cases h), .inr ⟨rfl, HE.out⟩⟩⟩, by show j + 1 - ((j : Int) + 1).toNat < j + 1 - (j : Int).toNat; omega⟩
    have hjn3 : j < n := by omega
    obtain ⟨b, o, rfl, hlt, hc⟩ := HL.out.2 (by omega)
    obtain ⟨t, ht⟩ : ∃ t, ts[j]? = some t := ⟨_, List.getElem?_eq_getElem (by rw [HL.out.1]; exact hjn3)⟩
    obtain ⟨A, m, c', hcs, hrow⟩ := hc j t ht
    have hW := (HRM.out wr H.out.1).2
    have c0 := (hW.cell (p := ⟨b, o + j * 5 + 0, none⟩) hlt).trans (hcs 0 _ rfl)
    have c1' := (hW.cell (p := ⟨b, o + j * 5 + 1, none⟩) hlt).trans (hcs 1 _ rfl)
    have c2' := (hW.cell (p := ⟨b, o + j * 5 + 2, none⟩) hlt).trans (hcs 2 _ rfl)
    have c3 := (hW.cell (p := ⟨b, o + j * 5 + 3, none⟩) hlt).trans (hcs 3 _ rfl)
    have c4 := (hW.cell (p := ⟨b, o + j * 5 + 4, none⟩) hlt).trans (hcs 4 _ rfl)
    rw [Nat.add_zero] at c0
    have HROW : Hid (RowF (FT B0 W1.heap.size (.slice P1 q1 c1) (.slice P2 q2 c2)) wr A m t.set) := Lib.hid ((hrow.below hW).move (Nat.le_refl _) fun k hk _ => ⟨⟨.inl hk, (fun e => by have h1 := (row_lt H.out.2.1.1 e).1; have h2 := HG.out; have h3 := HB0.out k hk; omega), (fun e => by have h1 := (row_lt H.out.2.1.2.1 e).1; have h2 := HG.out; have h3 := HB0.out k hk; omega)⟩, rfl⟩)
    have hE : runT D ts [] .nil .nil false = runT D (t :: ts.drop (j + 1)) [] a p lo := by
      rcases H.out.2.2.2 with ⟨_, h⟩ | ⟨h, _⟩
      · rw [h]
        obtain ⟨h1, h2⟩ := List.getElem?_eq_some_iff.1 ht
        rw [List.drop_eq_getElem_cons h1, h2]
      · omega
    have HE := Lib.hid hE
    have hto := HOK.out t (List.mem_of_getElem? ht)
    have HT := Lib.hid ht
    have n1 : ((j : Int) == (n : Int)) = false := by simp; omega
    have n2 : (j : Int) < (n : Int) := by omega
    clear hjn hjn2 hc hcs hrow hW ht hE
    rcases hto with hk | hk | ⟨hk, hr | hr | hr | hr | hr⟩
    · have HK := Lib.hid hk
      rw [hk] at c0
      clear hk
      obtain ⟨P', pc', w', HA⟩ : ∃ P' pc' w', Hid ((Builtin.append_ #[25, 25] 25 #[.slice P2 q2 c2, .slice (some ⟨wr.heap.size + 1, 0, none⟩) 1 1]).run Tryz.prog ((wr.alloc (.cells #[.int .i64 0, .int .i64 t.r, .slice A m c', .int .i64 t.mn, .int .i64 t.mx] 51)).alloc (.cells #[.int .i64 1, .slice A m c', .int .i64 0, .int .i64 0, .slice none 0 0] 27)) = .ok (.slice P' (q2 + 1) pc') w' ∧ TreeSt B0 W1.heap.size w' P1 q1 c1 P' (q2 + 1) pc' xs (ys ++ [⟨1, A, m, c', 0, 0, none, 0, 0⟩]) a (p.app (leaf 1 t.set)) ∧ Below W1.heap.size wr w') := by
        obtain ⟨P', pc', w', h⟩ := piece_push H.out.2.1 (.cells #[.int .i64 0, .int .i64 t.r, .slice A m c', .int .i64 t.mn, .int .i64 t.mx] 51) ⟨1, A, m, c', 0, 0, none, 0, 0⟩ (n := leaf 1 t.set) (⟨⟨rfl, rfl, rfl⟩, ⟨HROW.out, Nat.le_refl 0⟩, kids_nil _ _, trivial⟩) (by omega) H.out.1.size
        exact ⟨P', pc', w', Lib.hid h⟩
      go_wp2_with (at_builtin; refine wpList_append_run rfl _ _ 25 rfl rfl _ _ _ _ rfl rfl HA.out.1 ?_)
      exact ⟨⟨q1, c1, q2 + 1, pc', j + 1, P1, P', xs, _, a, p.app (leaf 1 t.set), true, rfl, rfl, rfl, rfl, by omega, by omega, by omega, Lib.hid ⟨H.out.1.trans HA.out.2.2, HA.out.2.1, (fun h => by first | omega | cases h), .inl ⟨by omega, by rw [HE.out, run_char HK.out]⟩⟩⟩, by show n + 1 - ((j : Int) + 1).toNat < n + 1 - (j : Int).toNat; omega⟩
    · have HK := Lib.hid hk
      rw [hk] at c0
      clear hk
      cases lo with
      | false =>
        have HX := Lib.hid (HRM.out _ (H.out.1.trans ((Below.refl _ _).alloc H.out.1.size (.cells #[.int .i64 2, .int .i64 t.r, .slice A m c', .int .i64 t.mn, .int .i64 t.mx] 51))))
        obtain ⟨y0, y1, y2, y3, y4, yf⟩ := box_facts HX.out.1
        go_wp2
        obtain ⟨z0, z1, z2, z3, z4, _⟩ := room_cells HX.out.1 (.int .i64 0) (.slice none 0 0) (.int .i64 0) (.int .i64 0) (.slice none 0 0)
        simp only [put5] at z0 z1 z2 z3 z4
        (try simp only [Exit.inBlock, Exit.then])
        refine bodyPost_ret (v := .tuple #[.agg #[.int .i64 0, .slice none 0 0, .int .i64 0, .int .i64 0, .slice none 0 0], .bool false]) ?_ rfl ?_
        · rw [results_cell_tmp rfl]; go_simp
        · rw [HE.out, run_count HK.out, if_neg (by decide)]
          exact ⟨rfl, HX.out.2.trans (put5_below _ (by rw [HG.out.1]; exact Nat.le_refl _) _ _ _ _ _)⟩
      | true =>
        have hq0 : 0 < q2 := H.out.2.2.1 rfl
        obtain ⟨b2, rfl, hb2, hb2l, hq2x, hqc, -, hcy⟩ := row_cellsN H.out.2.1.2.1 hq0
        obtain ⟨zs, y, rfl⟩ : ∃ zs y, ys = zs ++ [y] := ⟨ys.dropLast, ys.getLast (by intro e; rw [e] at hq2x; simp at hq2x; omega), (List.dropLast_concat_getLast _).symm⟩
        have hzs : zs.length = q2 - 1 := by rw [hq2x]; simp
        have hyc := hcy (q2 - 1) y (by rw [← hzs]; simp)
        have d0 := hyc 0 _ rfl
        have d1 := hyc 1 _ rfl
        have d2 := hyc 2 _ rfl
        have d3 := hyc 3 _ rfl
        have d4 := hyc 4 _ rfl
        simp only [Nat.zero_add, Nat.add_zero] at d0 d1 d2 d3 d4
        have e0 := fun o => ((((Below.refl wr.heap.size wr).alloc (Nat.le_refl _) o).cell (p := ⟨b2, (q2 - 1) * 5, none⟩) hb2l).trans d0)
        have e1 := fun o => ((((Below.refl wr.heap.size wr).alloc (Nat.le_refl _) o).cell (p := ⟨b2, (q2 - 1) * 5 + 1, none⟩) hb2l).trans d1)
        have e2 := fun o => ((((Below.refl wr.heap.size wr).alloc (Nat.le_refl _) o).cell (p := ⟨b2, (q2 - 1) * 5 + 2, none⟩) hb2l).trans d2)
        have e3 := fun o => ((((Below.refl wr.heap.size wr).alloc (Nat.le_refl _) o).cell (p := ⟨b2, (q2 - 1) * 5 + 3, none⟩) hb2l).trans d3)
        have e4 := fun o => ((((Below.refl wr.heap.size wr).alloc (Nat.le_refl _) o).cell (p := ⟨b2, (q2 - 1) * 5 + 4, none⟩) hb2l).trans d4)
        obtain ⟨z, hz⟩ : ∃ z, z = q2 - 1 := ⟨_, rfl⟩
        rw [← hz] at d0 d1 d2 d3 d4 e0 e1 e2 e3 e4
        have hzw : IntKind.i64.wrap ((q2 : Int) - 1) = (z : Int) := by rw [IntKind.wrap_i64]; omega
        have hzw2 : (q2 : Int) - 1 = (z : Int) := by omega
        have hzq : z < q2 := by omega
        have HZ := Lib.hid (And.intro hz (And.intro hzs (And.intro hq2x hqc)))
        have HCY := Lib.hid hcy
        clear hz hzs hq2x hqc hcy hyc d0 d1 d2 d3 d4
        go_wp2_with fail
        obtain ⟨w0, hw0⟩ : ∃ w0, w0 = ((wr.alloc (.cells #[.int .i64 2, .int .i64 t.r, .slice A m c', .int .i64 t.mn, .int .i64 t.mx] 51)).alloc (.cells #[.int .i64 y.op, .slice y.A y.ns y.cs, .int .i64 y.mn, .int .i64 y.mx, .slice y.D y.nk y.ck] 27)) := ⟨_, rfl⟩
        rw [← hw0]
        have HW0 := Lib.hid hw0
        have tb := two_boxes hw0
        obtain ⟨hs0, hb0, tb1, tb2⟩ := tb
        have f3 : ∀ w', Below w0.heap.size w0 w' → w'.cell? ⟨wr.heap.size, 3, none⟩ = some (.int .i64 t.mn) := fun w' h => (tb1 w' h).2.2.2.1
        have f4 : ∀ w', Below w0.heap.size w0 w' → w'.cell? ⟨wr.heap.size, 4, none⟩ = some (.int .i64 t.mx) := fun w' h => (tb1 w' h).2.2.2.2
        have k0 : ∀ w', Below w0.heap.size w0 w' → w'.cell? ⟨wr.heap.size + 1, 0, none⟩ = some (.int .i64 y.op) := fun w' h => (tb2 w' h).1
        have k1 : ∀ w', Below w0.heap.size w0 w' → w'.cell? ⟨wr.heap.size + 1, 1, none⟩ = some (.slice y.A y.ns y.cs) := fun w' h => (tb2 w' h).2.1
        have k2 : ∀ w', Below w0.heap.size w0 w' → w'.cell? ⟨wr.heap.size + 1, 2, none⟩ = some (.int .i64 y.mn) := fun w' h => (tb2 w' h).2.2.1
        have k3 : ∀ w', Below w0.heap.size w0 w' → w'.cell? ⟨wr.heap.size + 1, 3, none⟩ = some (.int .i64 y.mx) := fun w' h => (tb2 w' h).2.2.2.1
        have k4 : ∀ w', Below w0.heap.size w0 w' → w'.cell? ⟨wr.heap.size + 1, 4, none⟩ = some (.slice y.D y.nk y.ck) := fun w' h => (tb2 w' h).2.2.2.2
        have HTB := Lib.hid (And.intro hs0 hb0)
        have z0 : (0 : Int) ≤ (z : Int) := by omega
        have z1 : (z : Int) ≤ (c2 : Int) := by have := HZ.out.2.2.2; omega
        have hS0 : Below w0.heap.size w0 w0 := Below.refl _ _
        clear hw0 hs0 hb0 tb1 tb2 e0 e1 e2 e3 e4
        obtain ⟨T0, n0, rfl, hN0, hN1⟩ := H.out.2.1.2.2.2.1.last
        have HTK : Hid (∀ X g, Below w0.heap.size w0 X → X.heap[g]? = some (.cells #[] 27 (0, 0)) → w0.heap.size ≤ g → ∃ v' w', (Builtin.append_ #[25, 25] 25 #[.slice (some ⟨g, 0, none⟩) 0 0, .slice (some ⟨b2, 0, none⟩) z c2]).run Tryz.prog X = .ok v' w' ∧ TakeR w0 z zs g X v' w') := Lib.hid fun X g h1 h2 h3 => take_ex (q2 := q2) (HZ.out.2.1.trans HZ.out.1.symm) (by omega) (by have := HTB.out.1; omega) (fun j x hx i v hv => (HTB.out.2.cell (p := ⟨b2, 0 + j * 5 + i, none⟩) hb2l).trans (HCY.out j x (by rw [List.getElem?_append_left (List.getElem?_eq_some_iff.1 hx).1]; exact hx) i v hv)) h1 h2 h3
        have HRP : Hid (∀ X P' pc' d, Below w0.heap.size w0 X → X.ownsRow w0.heap.size 27 5 (.slice P' z pc') z (cellsN zs) → (∃ c, X.heap[d]? = some (.cells #[.int .i64 6, .slice none 0 0, .int .i64 t.mn, .int .i64 t.mx, .slice (some ⟨c, 0, none⟩) 1 1] 27 (0, 0)) ∧ X.heap[c]? = some (.cells #[.int .i64 y.op, .slice y.A y.ns y.cs, .int .i64 y.mn, .int .i64 y.mx, .slice y.D y.nk y.ck] 27 (0, 0)) ∧ w0.heap.size ≤ c ∧ (Value.slice P' z pc').ownBlock ≠ some c) → ∃ v' w', (Builtin.append_ #[25, 25] 25 #[.slice P' z pc', .slice (some ⟨d, 0, none⟩) 1 1]).run Tryz.prog X = .ok v' w' ∧ RepR B0 W1.heap.size wr w0 P1 q1 c1 z xs zs a (T0.app (.cons 6 [] t.mn t.mx n0 .nil)) v' w') := Lib.hid fun X P' pc' d h1 h2 h3 => rep_at H.out.2.1 hN0 hN1 H.out.1.size HTB.out.2 h1 h2 (by omega) h3
        have HRL := Lib.hid (repLast_app t.mn t.mx n0 hN1.len T0)
        clear hN0 hN1
        go_region_held_law (fun w' => Below w0.heap.size w0 w') (first | assumption | (exact hS0.drew) | (exact Below.drew (by assumption)) | (exact Below.alloc (by assumption) (by first | omega | (simp; done) | (simp; omega)) _) | (exact (Below.alloc (by assumption) (by first | omega | (simp; done) | (simp; omega)) _).drew) | go_keep)
          (first
            | (refine step_append_ex rfl (.tmp 67) (.tmp 70) 25 rfl rfl _ _ (by rfl) (by rfl) _ (HTK.out _ _ (by (first | assumption | (exact hS0.drew) | (exact Below.drew (by assumption)) | (exact Below.alloc (by assumption) (by first | omega | (simp; done) | (simp; omega)) _) | (exact (Below.alloc (by assumption) (by first | omega | (simp; done) | (simp; omega)) _).drew) | go_keep)) (by (repeat (first | ((with_reducible refine hp_new ?_); (first | omega | (simp; done) | (simp; omega))) | (with_reducible refine hp_drew ?_) | (with_reducible refine hp_old ?_)))) (by first | omega | (simp; done) | (simp; omega))) ?_; intro v' w' hR; obtain ⟨P3, pc3, rfl, ho3, hb3, hs3, hk3⟩ := hR; have hz3 := hb3.size)
            | (refine step_append_ex rfl (.tmp 71) (.tmp 79) 25 rfl rfl _ _ (by rfl) (by rfl) _ (HRP.out _ _ _ _ (by (first | assumption | (exact hS0.drew) | (exact Below.drew (by assumption)) | (exact Below.alloc (by assumption) (by first | omega | (simp; done) | (simp; omega)) _) | (exact (Below.alloc (by assumption) (by first | omega | (simp; done) | (simp; omega)) _).drew) | go_keep)) (by repeat (first | with_reducible exact ho3 | with_reducible refine ownN_old ?_ | with_reducible refine ownN_drew ?_)) (by apply Exists.intro; refine ⟨?_, ?_, ?_, ?_⟩; (focus (repeat (first | ((with_reducible refine hp_new ?_); (first | omega | (simp; done) | (simp; omega))) | (with_reducible refine hp_drew ?_) | (with_reducible refine hp_old ?_) | (refine (hk3 _ (by first | omega | (simp; done) | (simp; omega)) (by first | omega | (simp; done) | (simp; omega))).1.trans ?_)))); (focus (repeat (first | ((with_reducible refine hp_new ?_); (first | omega | (simp; done) | (simp; omega))) | (with_reducible refine hp_drew ?_) | (with_reducible refine hp_old ?_) | (refine (hk3 _ (by first | omega | (simp; done) | (simp; omega)) (by first | omega | (simp; done) | (simp; omega))).1.trans ?_)))); (focus (first | omega | (simp; done) | (simp; omega))); (focus first | (exact (hk3 _ (by first | omega | (simp; done) | (simp; omega)) (by first | omega | (simp; done) | (simp; omega))).2) | (intro e; have := (row_lt ho3 e).2; omega)))) ?_; intro v' w' hR; obtain ⟨P4, pc4, cc, mn4, mx4, rfl, hT4, hb4, hb5⟩ := hR))
        all_goals
          have HF := Lib.hid (And.intro hT4 (And.intro hb4 hb5))
          clear hT4 hb4 hb5 hb3 hs3 hk3 hz3 ho3 k0 k1 k2 k3 k4 f3 f4 hS0
          go_wp2
          exact ⟨⟨q1, c1, z + 1, pc4, j + 1, P1, P4, xs, _, a, _, false, rfl, rfl, rfl, rfl, by omega, by omega, by omega, Lib.hid ⟨H.out.1.trans HF.out.2.1, HF.out.1, (fun h => by cases h), .inl ⟨by omega, by rw [HE.out, run_count HK.out, if_pos rfl, HRL.out]⟩⟩⟩, by show n + 1 - ((j : Int) + 1).toNat < n + 1 - (j : Int).toNat; omega⟩
    · have HK := Lib.hid (And.intro hk hr)
      rw [hk] at c0
      rw [hr] at c1'
      clear hk hr
      have HO := Lib.hid (rone_any (w := wr) 4 (F' := fun b => (B0 b ∨ W1.heap.size ≤ b) ∧ (Value.slice P1 q1 c1).ownBlock ≠ some b) H.out.2.1.2.1 H.out.2.1.2.2.2.1 (fun b hF => ⟨hF.1, hF.2.1⟩) (fun b hb => ⟨.inr (row_lt H.out.2.1.2.1 hb).1, fun e => H.out.2.1.2.2.2.2 b e hb⟩) (by omega))
      go_wp2_with (first
        | (go_at_call 35; (with_reducible refine HO.out.mono ?_); rintro e w2 ⟨v, rfl, hN, hb⟩; obtain ⟨x, rfl, hN2⟩ := hN.one; have HX := Lib.hid (alt_push H.out.2.1 hb x hN2 (by omega) H.out.1.size); obtain ⟨P', pc', w', HA⟩ : ∃ P' pc' w', Hid ((Builtin.append_ #[25, 25] 25 #[.slice P1 q1 c1, .slice (some ⟨w2.heap.size, 0, none⟩) 1 1]).run Tryz.prog (w2.alloc (.cells #[.int .i64 x.op, .slice x.A x.ns x.cs, .int .i64 x.mn, .int .i64 x.mx, .slice x.D x.nk x.ck] 27)) = .ok (.slice P' (q1 + 1) pc') w' ∧ TreeSt B0 W1.heap.size w' P' (q1 + 1) pc' none 0 0 (xs ++ [x]) [] (a.app (oneN 4 p)) .nil ∧ Below W1.heap.size wr w') := (by obtain ⟨P', pc', w', h⟩ := HX.out; exact ⟨P', pc', w', Lib.hid h⟩); clear hN hN2 hb HX; simp only [NV.val])
        | (at_builtin; refine wpList_append_run rfl _ _ 25 rfl rfl _ _ _ _ rfl rfl HA.out.1 ?_))
      exact ⟨⟨q1 + 1, pc', 0, 0, j + 1, P', none, xs ++ [x], [], a.app (oneN 4 p), .nil, false, rfl, rfl, rfl, rfl, by omega, by omega, by omega, Lib.hid ⟨H.out.1.trans HA.out.2.2, HA.out.2.1, (fun h => by cases h), .inl ⟨by omega, by rw [HE.out, run_bar HK.out.1 HK.out.2]⟩⟩⟩, by show n + 1 - ((j : Int) + 1).toNat < n + 1 - (j : Int).toNat; omega⟩
    · have HK := Lib.hid (And.intro hk hr)
      rw [hk] at c0
      rw [hr] at c1'
      clear hk hr
      obtain ⟨P', pc', w', HA⟩ : ∃ P' pc' w', Hid ((Builtin.append_ #[25, 25] 25 #[.slice P2 q2 c2, .slice (some ⟨wr.heap.size + 1, 0, none⟩) 1 1]).run Tryz.prog ((wr.alloc (.cells #[.int .i64 1, .int .i64 94, .slice A m c', .int .i64 t.mn, .int .i64 t.mx] 51)).alloc (.cells #[.int .i64 2, .slice none 0 0, .int .i64 0, .int .i64 0, .slice none 0 0] 27)) = .ok (.slice P' (q2 + 1) pc') w' ∧ TreeSt B0 W1.heap.size w' P1 q1 c1 P' (q2 + 1) pc' xs (ys ++ [⟨2, none, 0, 0, 0, 0, none, 0, 0⟩]) a (p.app (leaf 2 [])) ∧ Below W1.heap.size wr w') := by
        obtain ⟨P', pc', w', h⟩ := piece_push H.out.2.1 (.cells #[.int .i64 1, .int .i64 94, .slice A m c', .int .i64 t.mn, .int .i64 t.mx] 51) ⟨2, none, 0, 0, 0, 0, none, 0, 0⟩ (n := leaf 2 []) (leafN' _ _ 2) (by omega) H.out.1.size
        exact ⟨P', pc', w', Lib.hid h⟩
      go_wp2_with (at_builtin; refine wpList_append_run rfl _ _ 25 rfl rfl _ _ _ _ rfl rfl HA.out.1 ?_)
      exact ⟨⟨q1, c1, q2 + 1, pc', j + 1, P1, P', xs, _, a, p.app (leaf 2 []), false, rfl, rfl, rfl, rfl, by omega, by omega, by omega, Lib.hid ⟨H.out.1.trans HA.out.2.2, HA.out.2.1, (fun h => by first | omega | cases h), .inl ⟨by omega, by rw [HE.out, run_begin HK.out.1 HK.out.2]⟩⟩⟩, by show n + 1 - ((j : Int) + 1).toNat < n + 1 - (j : Int).toNat; omega⟩
    · have HK := Lib.hid (And.intro hk hr)
      rw [hk] at c0
      rw [hr] at c1'
      clear hk hr
      obtain ⟨P', pc', w', HA⟩ : ∃ P' pc' w', Hid ((Builtin.append_ #[25, 25] 25 #[.slice P2 q2 c2, .slice (some ⟨wr.heap.size + 1, 0, none⟩) 1 1]).run Tryz.prog ((wr.alloc (.cells #[.int .i64 1, .int .i64 36, .slice A m c', .int .i64 t.mn, .int .i64 t.mx] 51)).alloc (.cells #[.int .i64 3, .slice none 0 0, .int .i64 0, .int .i64 0, .slice none 0 0] 27)) = .ok (.slice P' (q2 + 1) pc') w' ∧ TreeSt B0 W1.heap.size w' P1 q1 c1 P' (q2 + 1) pc' xs (ys ++ [⟨3, none, 0, 0, 0, 0, none, 0, 0⟩]) a (p.app (leaf 3 [])) ∧ Below W1.heap.size wr w') := by
        obtain ⟨P', pc', w', h⟩ := piece_push H.out.2.1 (.cells #[.int .i64 1, .int .i64 36, .slice A m c', .int .i64 t.mn, .int .i64 t.mx] 51) ⟨3, none, 0, 0, 0, 0, none, 0, 0⟩ (n := leaf 3 []) (leafN' _ _ 3) (by omega) H.out.1.size
        exact ⟨P', pc', w', Lib.hid h⟩
      go_wp2_with (at_builtin; refine wpList_append_run rfl _ _ 25 rfl rfl _ _ _ _ rfl rfl HA.out.1 ?_)
      exact ⟨⟨q1, c1, q2 + 1, pc', j + 1, P1, P', xs, _, a, p.app (leaf 3 []), false, rfl, rfl, rfl, rfl, by omega, by omega, by omega, Lib.hid ⟨H.out.1.trans HA.out.2.2, HA.out.2.1, (fun h => by first | omega | cases h), .inl ⟨by omega, by rw [HE.out, run_end HK.out.1 HK.out.2]⟩⟩⟩, by show n + 1 - ((j : Int) + 1).toNat < n + 1 - (j : Int).toNat; omega⟩
    · have HK := Lib.hid (And.intro hk hr)
      have HX := Lib.hid (HRM.out _ (H.out.1.trans ((Below.refl _ _).alloc H.out.1.size (.cells #[.int .i64 1, .int .i64 40, .slice A m c', .int .i64 t.mn, .int .i64 t.mx] 51))))
      obtain ⟨y0, y1, y2, y3, y4, yf⟩ := box_facts HX.out.1
      have HCl := Lib.hid (rclose_any (W := wr.alloc (.cells #[.int .i64 1, .int .i64 40, .slice A m c', .int .i64 t.mn, .int .i64 t.mx] 51)) c (HL.out.below (HX.out.2)) hn j t HT.out (by unfold isOpen; rw [hk, hr]; rfl))
      have hcl : closeR 0 (ts.drop j) = (closeL 0 (ts.drop (j + 1))).map (· + 1) := by
        obtain ⟨h1, h2⟩ := List.getElem?_eq_some_iff.1 HT.out
        rw [List.drop_eq_getElem_cons h1, h2, closeR, if_pos (by unfold isOpen; rw [hk, hr]; rfl), closeR_is]
      rw [hk] at c0
      rw [hr] at c1'
      clear hk hr
      rcases hcc : closeL 0 (ts.drop (j + 1)) with _ | m2
      · rw [hcl, hcc] at HCl
        have HN := Lib.hid (show runT D (t :: ts.drop (j + 1)) [] a p lo = none from paren_open HK.out.1 HK.out.2 (fun t ht => HOK.out t (List.mem_of_mem_drop ht)) hcc)
        clear hcl hcc
        go_wp2_with (go_at_call 36; (with_reducible refine HCl.out.mono ?_); rintro e w2 ⟨rfl, rfl⟩; simp only [Option.map, closeI])
        obtain ⟨z0, z1, z2, z3, z4, _⟩ := room_cells HX.out.1 (.int .i64 0) (.slice none 0 0) (.int .i64 0) (.int .i64 0) (.slice none 0 0)
        simp only [put5] at z0 z1 z2 z3 z4
        (try simp only [Exit.inBlock, Exit.then])
        refine bodyPost_ret (v := .tuple #[.agg #[.int .i64 0, .slice none 0 0, .int .i64 0, .int .i64 0, .slice none 0 0], .bool false]) ?_ rfl ?_
        · rw [results_cell_tmp rfl]; go_simp
        · rw [HE.out, HN.out]
          exact ⟨rfl, HX.out.2.trans (put5_below _ (by rw [HG.out.1]; exact Nat.le_refl _) _ _ _ _ _)⟩
      · have hm2 := closeL_lt _ _ _ hcc
        rw [List.length_drop, HL.out.1] at hm2
        rw [hcl, hcc] at HCl
        have HN := Lib.hid (show runT D (t :: ts.drop (j + 1)) [] a p lo = (treeT (D + 1) ((ts.drop (j + 1)).take m2)).bind fun n => runT D ((ts.drop (j + 1)).drop (m2 + 1)) [] a (p.app n) true from paren_run HK.out.1 HK.out.2 hD (fun t ht => HOK.out t (List.mem_of_mem_drop ht)) hcc)
        clear hcl hcc
        obtain ⟨k, hk⟩ : ∃ k, k = j + 1 + m2 := ⟨_, rfl⟩
        have HCl2 : Hid (Calls Tryz.prog 36 #[.slice (some ⟨b, o, none⟩) n c, .int .i64 (j : Int)] (wr.alloc (.cells #[.int .i64 1, .int .i64 40, .slice A m c', .int .i64 t.mn, .int .i64 t.mx] 51)) fun e w' => e = .returned (.int .i64 (k : Int)) ∧ (wr.alloc (.cells #[.int .i64 1, .int .i64 40, .slice A m c', .int .i64 t.mn, .int .i64 t.mx] 51)) = w') := Lib.hid (HCl.out.mono fun e w' h => ⟨by rw [h.1]; show Ending.returned (.int .i64 ((j : Int) + ((m2 + 1 : Nat) : Int))) = _; rw [show (j : Int) + ((m2 + 1 : Nat) : Int) = (k : Int) by omega], h.2⟩)
        have HTr : Hid (∀ w, Below W.heap.size W w → Calls Tryz.prog 18 #[.slice (some ⟨b, o + (j + 1) * 5, none⟩) (k - (j + 1)) (c - (j + 1)), .int .i64 ((D : Int) + 1)] w (TreeV B0 (treeT (D + 1) ((ts.drop (j + 1)).take m2)) w)) := Lib.hid fun w hw => by
          rw [show k - (j + 1) = m2 by omega]
          exact HIH.out j m2 b o (c - (j + 1)) w (by omega) (by omega) rfl hw
        have hk1 : j + 1 ≤ k := by omega
        have hk2 : k < n := by omega
        have HKm := Lib.hid hk
        clear hk HCl hm2
        have k0 : ¬ (k : Int) < 0 := by omega
        have kw : IntKind.i64.wrap ((j : Int) + 1) = (j : Int) + 1 := by rw [IntKind.wrap_i64]; omega
        have kw2 : IntKind.i64.wrap ((D : Int) + 1) = (D : Int) + 1 := by rw [IntKind.wrap_i64]; omega
        rcases htr : treeT (D + 1) ((ts.drop (j + 1)).take m2) with _ | T
        · rw [htr] at HTr HN
          clear htr y0 y1 y2 y3 y4 yf
          go_wp2_with (first
            | (go_at_call 36; (with_reducible refine HCl2.out.mono ?_); rintro e w2 ⟨rfl, rfl⟩)
            | (go_at_call 18; (with_reducible refine (HTr.out _ HX.out.2).mono ?_); rintro e w2 ⟨rfl, hb⟩; have HB2 := Lib.hid (((H.out.1.trans ((Below.refl _ _).alloc H.out.1.size (.cells #[.int .i64 1, .int .i64 40, .slice A m c', .int .i64 t.mn, .int .i64 t.mx] 51))).trans (hb.mono (Nat.le_trans H.out.1.size (by simp))))); have HYb := Lib.hid (HRM.out _ HB2.out).1; have HY := Lib.hid (HRM.out _ (HB2.out.alloc HB2.out.size (.cells #[.int .i64 0, .slice none 0 0, .int .i64 0, .int .i64 0, .slice none 0 0] 27))); clear hb; have y := (fun o => box_facts (NodeAlloc HYb.out o)); have y0 := fun o => (y o).1; have y1 := fun o => (y o).2.1; have y2 := fun o => (y o).2.2.1; have y3 := fun o => (y o).2.2.2.1; have y4 := fun o => (y o).2.2.2.2.1; have yf := fun o => (y o).2.2.2.2.2; clear y))
          obtain ⟨z0, z1, z2, z3, z4, _⟩ := room_cells HY.out.1 (.int .i64 0) (.slice none 0 0) (.int .i64 0) (.int .i64 0) (.slice none 0 0)
          simp only [put5] at z0 z1 z2 z3 z4
          (try simp only [Exit.inBlock, Exit.then])
          refine bodyPost_ret (v := .tuple #[.agg #[.int .i64 0, .slice none 0 0, .int .i64 0, .int .i64 0, .slice none 0 0], .bool false]) ?_ rfl ?_
          · rw [results_cell_tmp rfl]; go_simp
          · rw [HE.out, HN.out, Option.bind_none]
            exact ⟨rfl, HY.out.2.trans (put5_below _ (by rw [HG.out.1]; exact Nat.le_refl _) _ _ _ _ _)⟩
        · rw [htr] at HTr HN
          clear htr y0 y1 y2 y3 y4 yf
          go_wp2_with (first
            | (go_at_call 36; (with_reducible refine HCl2.out.mono ?_); rintro e w2 ⟨rfl, rfl⟩)
            | (go_at_call 18; (with_reducible refine (HTr.out _ HX.out.2).mono ?_); rintro e w2 ⟨⟨x, rfl, hN⟩, hb⟩; have HP := Lib.hid (paren_push H.out.1 H.out.2.1 HG.out.2 HG.out.1 HB0.out (.cells #[.int .i64 1, .int .i64 40, .slice A m c', .int .i64 t.mn, .int .i64 t.mx] 51) hb hN (by omega)); obtain ⟨P', pc', w', HA⟩ : ∃ P' pc' w', Hid ((Builtin.append_ #[25, 25] 25 #[.slice P2 q2 c2, .slice (some ⟨w2.heap.size + 1, 0, none⟩) 1 1]).run Tryz.prog ((w2.alloc (.cells #[.int .i64 x.op, .slice x.A x.ns x.cs, .int .i64 x.mn, .int .i64 x.mx, .slice x.D x.nk x.ck] 27)).alloc (.cells #[.int .i64 x.op, .slice x.A x.ns x.cs, .int .i64 x.mn, .int .i64 x.mx, .slice x.D x.nk x.ck] 27)) = .ok (.slice P' (q2 + 1) pc') w' ∧ TreeSt B0 W1.heap.size w' P1 q1 c1 P' (q2 + 1) pc' xs (ys ++ [x]) a (p.app T) ∧ Below W1.heap.size W1 w') := (by obtain ⟨P', pc', w', h⟩ := HP.out; exact ⟨P', pc', w', Lib.hid h⟩); clear hN hb HP; simp only [NV.val])
            | (at_builtin; refine wpList_append_run rfl _ _ 25 rfl rfl _ _ _ _ rfl rfl HA.out.1 ?_))
          exact ⟨⟨q1, c1, q2 + 1, pc', k + 1, P1, P', xs, _, a, p.app T, true, rfl, rfl, rfl, rfl, by omega, by omega, by omega, Lib.hid ⟨HA.out.2.2, HA.out.2.1, (fun _ => by omega), .inl ⟨by omega, by rw [HE.out, HN.out, Option.bind_some, List.drop_drop, show j + 1 + (m2 + 1) = k + 1 by have := HKm.out; omega]⟩⟩⟩, by show n + 1 - ((k : Int) + 1).toNat < n + 1 - (j : Int).toNat; omega⟩
    · have HK := Lib.hid (And.intro hk hr)
      rw [hk] at c0
      rw [hr] at c1'
      clear hk hr
      have HX := Lib.hid (HRM.out _ (H.out.1.trans ((Below.refl _ _).alloc H.out.1.size (.cells #[.int .i64 1, .int .i64 41, .slice A m c', .int .i64 t.mn, .int .i64 t.mx] 51))))
      obtain ⟨y0, y1, y2, y3, y4, yf⟩ := box_facts HX.out.1
      go_wp2
      obtain ⟨z0, z1, z2, z3, z4, _⟩ := room_cells HX.out.1 (.int .i64 0) (.slice none 0 0) (.int .i64 0) (.int .i64 0) (.slice none 0 0)
      simp only [put5] at z0 z1 z2 z3 z4
      refine bodyPost_ret (v := .tuple #[.agg #[.int .i64 0, .slice none 0 0, .int .i64 0, .int .i64 0, .slice none 0 0], .bool false]) ?_ rfl ?_
      · rw [results_cell_tmp rfl]; go_simp
      · rw [HE.out, run_shut_nil HK.out.1 HK.out.2]
        exact ⟨rfl, HX.out.2.trans (put5_below _ (by rw [HG.out.1]; exact Nat.le_refl _) _ _ _ _ _)⟩
end
theorem rtree_any (N : Nat) : ∀ (ts : List TokL) (D : Nat) (L : Option Addr) (n c : Nat) (W : World) (B0 : Nat → Prop), ts.length ≤ N → (∀ b, B0 b → b < W.heap.size) → D ≤ 11 → ToksAt B0 W L n ts → n ≤ 200 → n ≤ c → (∀ t ∈ ts, TokOk t) →
    Calls Tryz.prog 18 #[.slice L n c, .int .i64 (D : Int)] W (TreeV B0 (treeT D ts) W) := by
  induction N with
  | zero =>
    intro ts D L n c W B0 hN hB hD h hn hnc hok
    by_cases h10 : 10 < D
    · exact rtree_deep D h10 (by omega) ts L n c W
    · have e : treeT D ts = runT D ts [] .nil .nil false := if_neg h10
      rw [e]
      exact rtree_step hB (by omega) h hn hnc hok fun j m b o c' w hj _ _ _ => by have := h.1; omega
  | succ N ih =>
    intro ts D L n c W B0 hN hB hD h hn hnc hok
    by_cases h10 : 10 < D
    · exact rtree_deep D h10 (by omega) ts L n c W
    · have e : treeT D ts = runT D ts [] .nil .nil false := if_neg h10
      rw [e]
      refine rtree_step hB (by omega) h hn hnc hok fun j m b o c' w hj hmc hL hw => ?_
      have hl := h.1
      refine ih ((ts.drop (j + 1)).take m) (D + 1) (some ⟨b, o + (j + 1) * 5, none⟩) m c' w B0 (by rw [List.length_take, List.length_drop]; omega) (fun b hb => Nat.lt_of_lt_of_le (hB b hb) hw.size) (by omega) ((h.cut (j + 1) m (by omega) b o hL).below ?_) (by omega) hmc fun t ht => hok t (List.mem_of_mem_drop (List.mem_of_mem_take ht))
      exact hw
end Go.Proofs.YtaapbmdojkjphaaGreat
namespace Go.Proofs.YtaapbmdojkjphaaGreat
open Go Go.RowKit
set_option linter.unusedVariables false
set_option maxRecDepth 20000
def ptV (W w' : World) (e : Ending) (l : List Int) : Prop :=
  match ptL l with
  | none => e = .returned (.tuple #[.slice none 0 0, .bool false, .int .i64 0])
  | some (s, is, rest) => ∃ (P : Option Addr) (q pc k : Nat), e = .returned (.tuple #[.slice P q pc, .bool is, .int .i64 (k : Int)]) ∧ 1 ≤ k ∧ k ≤ l.length ∧ rest = l.drop k ∧ w'.ownsRow W.heap.size 74 2 (.slice P q pc) q (cellsG s)
theorem ptV_none {W w' : World} {l : List Int} (h : ptL l = none) : ptV W w' (.returned (.tuple #[.slice none 0 0, .bool false, .int .i64 0])) l := by
  unfold ptV; rw [h]
theorem ptV_some {W w' : World} {l : List Int} {s : List (Int × Int)} {is : Bool} {rest : List Int} {P : Option Addr} {q pc k : Nat} (h : ptL l = some (s, is, rest)) (h1 : 1 ≤ k) (h2 : k ≤ l.length) (h3 : rest = l.drop k) (ho : w'.ownsRow W.heap.size 74 2 (.slice P q pc) q (cellsG s)) :
    ptV W w' (.returned (.tuple #[.slice P q pc, .bool is, .int .i64 (k : Int)])) l := by
  unfold ptV; rw [h]; exact ⟨P, q, pc, k, rfl, h1, h2, h3, ho⟩
theorem brk_nums : nums ⟨#[91, 93, 94, 45]⟩ = [91, 93, 94, 45] := rfl
set_option maxHeartbeats 2000000 in
theorem rpoint_nil (A : Option Addr) (c : Nat) (W : World) :
    Calls Tryz.prog 57 #[.slice A 0 c] W fun e w' => ptV W w' e [] ∧ Below W.heap.size W w' := by
  go_enter Tryz.func57, Tryz.ntmps57
  go_wp2
  go_ret3
  exact ⟨ptV_none rfl, Below.refl _ _⟩
set_option maxHeartbeats 4000000 in
theorem rpoint_cons (r : Int) (l : List Int) (A : Option Addr) (n c : Nat) (W : World) (hr : RowI .i64 W A n (r :: l)) (hn : n ≤ 1000) :
    Calls Tryz.prog 57 #[.slice A n c] W fun e w' => ptV W w' e (r :: l) ∧ Below W.heap.size W w' := by
  have H1 := Lib.hid fun w => rin_any ⟨#[91, 93, 94, 45]⟩ r w (by decide)
  obtain ⟨b, o, rfl, hb, hc⟩ := hr.2 (by have := hr.1; rw [List.length_cons] at this; omega)
  have hlen := hr.1
  rw [List.length_cons] at hlen
  have c0 := hc 0 (by omega)
  rw [Nat.add_zero, show (r :: l).getD 0 0 = r from rfl] at c0
  have n0 : 0 < n := by omega
  have n1 : ¬ (n : Int) = 0 := by omega
  have n2 : ((n : Int) == 0) = false := by simpa using n1
  by_cases hs : r = 91 ∨ r = 93 ∨ r = 94 ∨ r = 45
  · have HIN := Lib.hid (show decide (r ∈ nums ⟨#[91, 93, 94, 45]⟩) = true from decide_eq_true (by rw [brk_nums]; simp; omega))
    have HV := Lib.hid (show ptL (r :: l) = none by unfold ptL; dsimp only; rw [if_pos hs])
    clear hs hr hc hlen
    go_enter Tryz.func57, Tryz.ntmps57
    go_wp2_with (go_at_call 58; (with_reducible refine (H1.out _).mono ?_); rintro e w1 ⟨rfl, rfl⟩; rw [HIN.out])
    go_ret3
    exact ⟨ptV_none HV.out, Below.refl _ _⟩
  · have HIN := Lib.hid (show decide (r ∈ nums ⟨#[91, 93, 94, 45]⟩) = false from decide_eq_false (by rw [brk_nums]; simp; omega))
    by_cases hb2 : r = 92
    · subst hb2
      rcases l with _ | ⟨x, l⟩
      · have HV := Lib.hid (show ptL [92] = none from rfl)
        have hn1 : n = 1 := by simpa using hlen.symm
        subst hn1
        clear hs hr hc hlen n0 n1 n2
        go_enter Tryz.func57, Tryz.ntmps57
        go_wp2_with (go_at_call 58; (with_reducible refine (H1.out _).mono ?_); rintro e w1 ⟨rfl, rfl⟩; rw [HIN.out])
        go_ret3
        exact ⟨ptV_none HV.out, Below.refl _ _⟩
      · have c1 := hc 1 (by rw [List.length_cons] at hlen; omega)
        rw [show (92 :: x :: l).getD 1 0 = x from rfl] at c1
        have n3 : 1 < n := by rw [List.length_cons] at hlen; omega
        have n4 : ¬ (n : Int) < 2 := by omega
        have HE := Lib.hid fun w => resc_any x w
        have HP := Lib.hid (show ptL (92 :: x :: l) = (escL x).map fun p => (p.1, p.2, l) from rfl)
        clear hs hr hc hlen
        rcases he : escL x with _ | ⟨s, is⟩
        · have HV := Lib.hid (show ptL (92 :: x :: l) = none by rw [HP.out, he]; rfl)
          have HX := Lib.hid he
          clear he
          go_enter Tryz.func57, Tryz.ntmps57
          go_wp2_with (first
            | (go_at_call 58; (with_reducible refine (H1.out _).mono ?_); rintro e w1 ⟨rfl, rfl⟩; rw [HIN.out])
            | (go_at_call 34; (with_reducible refine (HE.out _).mono ?_); rintro e w2 ⟨hv, hb⟩; unfold escV at hv; rw [HX.out] at hv; dsimp only at hv; subst hv; have HB := Lib.hid hb; clear hb))
          go_ret3
          exact ⟨ptV_none HV.out, HB.out⟩
        · have HV := Lib.hid (show ptL (92 :: x :: l) = some (s, is, l) by rw [HP.out, he]; rfl)
          have HX := Lib.hid he
          clear he
          go_enter Tryz.func57, Tryz.ntmps57
          go_wp2_with (first
            | (go_at_call 58; (with_reducible refine (H1.out _).mono ?_); rintro e w1 ⟨rfl, rfl⟩; rw [HIN.out])
            | (go_at_call 34; (with_reducible refine (HE.out _).mono ?_); rintro e w2 ⟨hv, hb⟩; unfold escV at hv; rw [HX.out] at hv; dsimp only at hv; obtain ⟨P, q, pc, rfl, ho⟩ := hv; have HB := Lib.hid (And.intro ho hb); clear ho hb))
          go_ret3
          exact ⟨ptV_some (k := 2) HV.out (by omega) (by simp) rfl HB.out.1, HB.out.2⟩
    · have HV := Lib.hid (show ptL (r :: l) = some ([(r, r)], true, l) by unfold ptL; dsimp only; rw [if_neg hs, if_neg hb2])
      have e1 : (r != 92) = true := by simpa using hb2
      clear hs hr hc hlen
      go_enter Tryz.func57, Tryz.ntmps57
      go_wp2_with (go_at_call 58; (with_reducible refine (H1.out _).mono ?_); rintro e w1 ⟨rfl, rfl⟩; rw [HIN.out])
      go_region
      go_wp2
      go_ret3
      exact ⟨ptV_some (k := 1) HV.out (by omega) (by simp) rfl (ownG_kept (ownG_made W [(r, r)] (by simp)) ((Below.refl _ _).drew)), ((Below.refl _ _).alloc (Nat.le_refl _) _).drew⟩
theorem rpoint_any (l : List Int) (A : Option Addr) (n c : Nat) (W : World) (hr : RowI .i64 W A n l) (hn : n ≤ 1000) :
    Calls Tryz.prog 57 #[.slice A n c] W fun e w' => ptV W w' e l ∧ Below W.heap.size W w' := by
  rcases l with _ | ⟨r, l⟩
  · have h := hr.1
    rw [List.length_nil] at h
    subst h
    exact rpoint_nil A c W
  · exact rpoint_cons r l A n c W hr hn
end Go.Proofs.YtaapbmdojkjphaaGreat
namespace Go.Proofs.YtaapbmdojkjphaaGreat
open Go Go.RowKit
set_option linter.unusedVariables false
def WfP (s : List (Int × Int)) : Prop := ∀ p ∈ s, 0 ≤ p.1 ∧ p.1 ≤ p.2 ∧ p.2 ≤ 1114111
theorem WfP.append {s t : List (Int × Int)} (h1 : WfP s) (h2 : WfP t) : WfP (s ++ t) := fun p hp => (List.mem_append.1 hp).elim (h1 p) (h2 p)
theorem wfP_one {a b : Int} (h0 : 0 ≤ a) (h1 : a ≤ b) (h2 : b ≤ 1114111) : WfP [(a, b)] := fun p hp => by
  rw [List.mem_singleton] at hp; subst hp; exact ⟨h0, h1, h2⟩
theorem setOf_digits : setOf (fun x => !hasL (namedS 100) x) = [(0, 47), (58, 1114111)] :=
  (setOf_one (by simp [Canon, CanonF]) fun r => by
    rw [Bool.eq_iff_iff]
    simp [namedS, hasL, List.any]
    omega).symm
theorem setOf_words : setOf (fun x => !hasL (namedS 119) x) = [(0, 47), (58, 64), (91, 94), (96, 96), (123, 1114111)] :=
  (setOf_one (by simp [Canon, CanonF]) fun r => by
    rw [Bool.eq_iff_iff]
    simp [namedS, hasL, List.any]
    omega).symm
theorem setOf_spaces : setOf (fun x => !hasL (namedS 115) x) = [(0, 8), (14, 31), (33, 1114111)] :=
  (setOf_one (by simp [Canon, CanonF]) fun r => by
    rw [Bool.eq_iff_iff]
    simp [namedS, hasL, List.any]
    omega).symm
theorem escL_is {r : Int} {s : List (Int × Int)} {is : Bool} (h : escL r = some (s, is)) : WfP s ∧ s.length ≤ 5 ∧ (is = true → ∃ x, s = [(x, x)]) := by
  unfold escL at h
  split at h
  · rename_i hr
    injection h with h; injection h with h1 h2
    subst h1; subst h2
    refine ⟨?_, ?_, fun h => by cases h⟩
    · rcases hr with rfl | rfl | rfl <;> intro p hp <;> simp [namedS] at hp <;> first | (rcases hp with rfl | rfl | rfl | rfl <;> decide) | (rcases hp with rfl | rfl <;> decide) | (subst hp; decide)
    · rcases hr with rfl | rfl | rfl <;> decide
  split at h
  · rename_i hr
    injection h with h; injection h with h1 h2
    subst h1; subst h2
    rcases hr with rfl | rfl | rfl
    · rw [show (68 : Int) + 32 = 100 from rfl, setOf_digits]
      exact ⟨by intro p hp; simp at hp; rcases hp with rfl | rfl <;> decide, by decide, fun h => by cases h⟩
    · rw [show (87 : Int) + 32 = 119 from rfl, setOf_words]
      exact ⟨by intro p hp; simp at hp; rcases hp with rfl | rfl | rfl | rfl | rfl <;> decide, by decide, fun h => by cases h⟩
    · rw [show (83 : Int) + 32 = 115 from rfl, setOf_spaces]
      exact ⟨by intro p hp; simp at hp; rcases hp with rfl | rfl | rfl <;> decide, by decide, fun h => by cases h⟩
  split at h
  · injection h with h; injection h with h1 h2; subst h1; exact ⟨wfP_one (by decide) (by decide) (by decide), by simp, fun _ => ⟨_, rfl⟩⟩
  split at h
  · injection h with h; injection h with h1 h2; subst h1; exact ⟨wfP_one (by decide) (by decide) (by decide), by simp, fun _ => ⟨_, rfl⟩⟩
  split at h
  · injection h with h; injection h with h1 h2; subst h1; exact ⟨wfP_one (by decide) (by decide) (by decide), by simp, fun _ => ⟨_, rfl⟩⟩
  split at h
  · rename_i hs
    injection h with h; injection h with h1 h2; subst h1
    simp [signL] at hs
    exact ⟨wfP_one (by omega) (by omega) (by omega), by simp, fun _ => ⟨_, rfl⟩⟩
  · cases h
theorem ptL_is {l : List Int} (hl : ∀ x ∈ l, 0 ≤ x ∧ x ≤ 1114111) {s : List (Int × Int)} {is : Bool} {rest : List Int} (h : ptL l = some (s, is, rest)) : WfP s ∧ s.length ≤ 5 ∧ (is = true → ∃ x, s = [(x, x)]) ∧ ∃ k, 1 ≤ k ∧ k ≤ l.length ∧ rest = l.drop k := by
  rcases l with _ | ⟨r, l⟩
  · cases h
  unfold ptL at h
  dsimp only at h
  split at h
  · cases h
  split at h
  · rcases l with _ | ⟨e, l⟩
    · cases h
    · dsimp only at h
      rcases he : escL e with _ | ⟨t, b⟩
      · rw [he] at h; cases h
      · rw [he] at h
        injection h with h; injection h with h1 h2; injection h2 with h2 h3
        subst h1; subst h2; subst h3
        obtain ⟨a, b, c⟩ := escL_is he
        exact ⟨a, b, c, 2, by omega, by simp, rfl⟩
  · injection h with h; injection h with h1 h2; injection h2 with h2 h3
    subst h1; subst h2; subst h3
    have := hl r (List.mem_cons_self ..)
    exact ⟨wfP_one this.1 (Int.le_refl _) this.2, by simp, fun _ => ⟨_, rfl⟩, 1, by omega, by simp, rfl⟩
theorem partsL_part (f : Nat) {l : List Int} (xs : List (Int × Int)) {more : Bool} (h : ¬ (more = true ∧ l.headD 0 = 93)) :
    partsL (f + 1) l xs more = match partL l with
      | none => none
      | some (s, l1) => partsL f l1 (xs ++ s) true := by
  rw [partsL]
  · rcases partL l with _ | ⟨s, l1⟩ <;> rfl
  · intro l' hm hl
    exact h ⟨hm, by rw [hl]; rfl⟩
theorem partL_none {l : List Int} (h : ptL l = none) : partL l = none := by unfold partL; rw [h]
theorem partL_plain {l : List Int} {s : List (Int × Int)} {is : Bool} {l1 : List Int} (h : ptL l = some (s, is, l1)) (h2 : is = false ∨ l1.headD 0 ≠ 45) : partL l = some (s, l1) := by
  unfold partL
  rw [h]
  dsimp only
  split
  · rename_i l2
    rcases h2 with h2 | h2
    · rw [if_neg (by rw [h2]; exact Bool.noConfusion)]
    · exact absurd rfl h2
  · rfl
theorem partL_dash {l : List Int} {x : Int} {l2 : List Int} (h : ptL l = some ([(x, x)], true, 45 :: l2)) : partL l = match ptL l2 with
    | some (t, true, l3) => if (t.headD (0, 0)).1 < x then none else some ([(x, (t.headD (0, 0)).1)], l3)
    | _ => none := by
  unfold partL
  rw [h]
  rfl
end Go.Proofs.YtaapbmdojkjphaaGreat
namespace Go.Proofs.YtaapbmdojkjphaaGreat
open Go Go.RowKit
set_option linter.unusedVariables false
set_option maxRecDepth 20000
theorem own_none {w : World} {B : Nat} {e : TypeId} {sz : Nat} {P : Option Addr} {q pc n : Nat} {xs : List Value} (h : w.ownsRow B e sz (.slice P q pc) n xs) : P = none → q = 0 ∧ pc = 0 := fun hP => by
  rcases h.2 with ⟨h, _⟩ | ⟨g, cap, cur, h, _⟩
  · injection h with h1 h2 h3; exact ⟨h2, h3⟩
  · injection h with h1; rw [hP] at h1; cases h1
def clsV (W w' : World) (e : Ending) (r : Option (List (Int × Int) × List Int)) (l : List Int) : Prop :=
  match r with
  | none => e = .returned (.tuple #[.slice none 0 0, .int .i64 0])
  | some (s, rest) => ∃ (P : Option Addr) (q pc k : Nat), e = .returned (.tuple #[.slice P q pc, .int .i64 (k : Int)]) ∧ 1 ≤ k ∧ k ≤ l.length ∧ rest = l.drop k ∧ w'.ownsRow W.heap.size 74 2 (.slice P q pc) q (cellsG s)
def ClsAt (R : Option (List (Int × Int) × List Int)) (l : List Int) (j : Nat) (xs : List (Int × Int)) (p : Nat) : Prop :=
  ∃ f, l.length - j + 1 ≤ f ∧ R = partsL f (l.drop j) xs (decide (0 < p))
theorem getD_drop9 (l : List Int) (j : Nat) : (l.drop j).headD 0 = l.getD j 0 := by
  rw [List.headD_eq_head?_getD, List.head?_drop]; rfl
theorem ClsAt.shut {R : Option (List (Int × Int) × List Int)} {l : List Int} {j : Nat} {xs : List (Int × Int)} {p : Nat} (h : ClsAt R l j xs p) (hj : j < l.length) (h93 : l.getD j 0 = 93) (hp : 0 < p) : R = some (xs, l.drop (j + 1)) := by
  obtain ⟨f, hf, rfl⟩ := h
  obtain ⟨f, rfl⟩ : ∃ g, f = g + 1 := ⟨f - 1, by omega⟩
  rw [List.drop_eq_getElem_cons hj, show l[j] = 93 by rw [← h93]; simp [List.getD, hj], decide_eq_true hp]
  rfl
theorem ClsAt.none_ {R : Option (List (Int × Int) × List Int)} {l : List Int} {j : Nat} {xs : List (Int × Int)} {p : Nat} (h : ClsAt R l j xs p) (hno : ¬ (0 < p ∧ l.getD j 0 = 93)) (hp : partL (l.drop j) = none) : R = none := by
  obtain ⟨f, hf, rfl⟩ := h
  obtain ⟨f, rfl⟩ : ∃ g, f = g + 1 := ⟨f - 1, by omega⟩
  rw [partsL_part f xs (by rw [decide_eq_true_iff, getD_drop9]; exact hno), hp]
theorem ClsAt.next {R : Option (List (Int × Int) × List Int)} {l : List Int} {j : Nat} {xs : List (Int × Int)} {p : Nat} (h : ClsAt R l j xs p) (hno : ¬ (0 < p ∧ l.getD j 0 = 93)) {s : List (Int × Int)} {k : Nat} (hk : 0 < k) (hkl : j + k ≤ l.length) (hp : partL (l.drop j) = some (s, l.drop (j + k))) : ClsAt R l (j + k) (xs ++ s) (p + 1) := by
  obtain ⟨f, hf, rfl⟩ := h
  obtain ⟨f, rfl⟩ : ∃ g, f = g + 1 := ⟨f - 1, by omega⟩
  refine ⟨f, by omega, ?_⟩
  rw [partsL_part f xs (by rw [decide_eq_true_iff, getD_drop9]; exact hno), hp, decide_eq_true (show 0 < p + 1 by omega)]
end Go.Proofs.YtaapbmdojkjphaaGreat
namespace Go.Proofs.YtaapbmdojkjphaaGreat
open Go Go.RowKit
set_option linter.unusedVariables false
set_option maxRecDepth 20000
set_option maxHeartbeats 8000000 in
theorem rclass_yes (l : List Int) (A : Option Addr) (n c : Nat) (W : World) (hr : RowI .i64 W A n l) (hn : n ≤ 200) (hnc : n ≤ c) (hw : ∀ x ∈ l, 0 ≤ x ∧ x ≤ 1114111) (h0 : 0 < n) (e0 : l.getD 0 0 ≠ 94)
    (R : Option (List (Int × Int) × List Int)) (hR : ClsAt R l 0 [] 0) :
    Calls Tryz.prog 33 #[.slice A n c] W fun e w' => clsV W w' e (R.map fun p => (setOf fun r => hasL p.1 r != false, p.2)) l ∧ Below W.heap.size W w' := by
  have hlen := hr.1
  obtain ⟨b, o, rfl, hb, hc⟩ := hr.2 h0
  have c0 := hc 0 h0
  rw [Nat.add_zero] at c0
  obtain ⟨x, hx⟩ : ∃ x, x = l.getD 0 0 := ⟨_, rfl⟩
  rw [← hx] at c0 e0
  have e1 : (x == 94) = false := by simpa using e0
  have HC := Lib.hid hc
  have HRW := Lib.hid hr
  have HL := Lib.hid hlen
  have HWF := Lib.hid hw
  have HR := Lib.hid hR
  clear hr hc hx hlen hw hR
  go_enter Tryz.func33, Tryz.ntmps33
  go_wp2_with fail
  go_loopw [4, 6, 7] (fun va vs vp wr => ∃ (j q pc p : Nat) (P : Option Addr) (xs : List (Int × Int)), va = .int .i64 (j : Int) ∧ vs = .slice P q pc ∧ vp = .int .i64 (p : Int) ∧ j ≤ n ∧ p ≤ j ∧ q ≤ 5 * j ∧
    Hid (wr.ownsRow W.heap.size 74 2 (.slice P q pc) q (cellsG xs) ∧ Below W.heap.size W wr ∧ WfP xs ∧ ClsAt R l j xs p)) (fun va _ _ _ => n - (intOf va).toNat)
  case atStart => exact ⟨0, 0, 0, 0, none, [], rfl, rfl, rfl, by omega, by omega, by omega, Lib.hid ⟨nilG _ _, Below.refl _ _, fun p hp => absurd hp (by simp), HR.out⟩⟩
  case round =>
    obtain ⟨j, q, pc, p, P, xs, rfl, rfl, rfl, hj, hp, hq, HO⟩ := hrel
    by_cases hjn : j < n
    · have cj := (HO.out.2.1.cell (p := ⟨b, o + j, none⟩) hb).trans (HC.out j hjn)
      obtain ⟨y, hy⟩ : ∃ y, y = l.getD j 0 := ⟨_, rfl⟩
      rw [← hy] at cj
      by_cases hsh : 0 < p ∧ y = 93
      · obtain ⟨hp0, rfl⟩ := hsh
        have HE := Lib.hid (HO.out.2.2.2.shut (by rw [HL.out]; exact hjn) hy.symm hp0)
        have HM := Lib.hid (made_any xs P q pc false wr (rowG_own9 HO.out.1) (by omega) HO.out.2.2.1)
        clear hy
        go_wp2_with (go_at_call 56; (with_reducible refine HM.out.mono ?_); rintro e w2 ⟨P2, q2, pc2, rfl, ho, hb2⟩; have HO2 := Lib.hid (And.intro ho hb2); clear ho hb2)
        go_ret2
        refine ⟨?_, HO.out.2.1.trans (HO2.out.2.mono HO.out.2.1.size)⟩
        rw [HE.out]
        exact ⟨P2, q2, pc2, j + 1, by go_num, by omega, by rw [HL.out]; omega, rfl, row_base HO2.out.1 (fun x hx => Nat.le_trans HO.out.2.1.size (row_lt HO2.out.1 hx).1)⟩
      · have HNO := Lib.hid (show ¬ (0 < p ∧ l.getD j 0 = 93) by rw [← hy]; exact hsh)
        have hsub : RowI .i64 W (some ⟨b, o + j, none⟩) (n - j) (l.drop j) := by
          have h := rowI_from HRW.out hj
          rwa [show Option.map (fun x => x.add j) (some (⟨b, o, none⟩ : Addr)) = some ⟨b, o + j, none⟩ by simp [Addr.add]] at h
        have HP := Lib.hid fun w (h : Below W.heap.size W w) => rpoint_any (l.drop j) (some ⟨b, o + j, none⟩) (n - j) (c - j) w (hsub.below h (Nat.le_refl _)) (by omega)
        have h3 : ¬ (y = 93 ∧ 0 < p) := fun h => hsh ⟨h.2, h.1⟩
        have HPB := Lib.hid (HP.out wr HO.out.2.1)
        clear HP hsub
        rcases hpt : ptL (l.drop j) with _ | ⟨s, is, l1⟩
        · have HE := Lib.hid (HO.out.2.2.2.none_ HNO.out (partL_none hpt))
          have HX := Lib.hid hpt
          clear hpt hy hsh
          by_cases hy93 : y = 93
          · subst hy93
            have hp0 : ¬ 0 < p := fun h => h3 ⟨rfl, h⟩
            clear h3
            go_wp2_with (go_at_call 57; (with_reducible refine HPB.out.mono ?_); rintro e w2 ⟨hv, hb2⟩; unfold ptV at hv; rw [HX.out] at hv; dsimp only at hv; subst hv; have HB2 := Lib.hid hb2; clear hb2)
            go_ret2
            refine ⟨?_, HO.out.2.1.trans (HB2.out.mono HO.out.2.1.size)⟩
            rw [HE.out]
            rfl
          · have e93 : (y == 93) = false := by simpa using hy93
            clear h3
            go_wp2_with (go_at_call 57; (with_reducible refine HPB.out.mono ?_); rintro e w2 ⟨hv, hb2⟩; unfold ptV at hv; rw [HX.out] at hv; dsimp only at hv; subst hv; have HB2 := Lib.hid hb2; clear hb2)
            go_ret2
            refine ⟨?_, HO.out.2.1.trans (HB2.out.mono HO.out.2.1.size)⟩
            rw [HE.out]
            rfl
        · obtain ⟨hws, hsl, his, k, k1, k2, hl1⟩ := ptL_is (fun z hz => HWF.out z (List.mem_of_mem_drop hz)) hpt
          rw [List.length_drop, HL.out] at k2
          rw [List.drop_drop] at hl1
          have HX := Lib.hid hpt
          have HWS := Lib.hid hws
          have h93 : y ≠ 93 ∨ ¬ 0 < p := by
            by_cases h : y = 93
            · exact .inr fun h2 => h3 ⟨h, h2⟩
            · exact .inl h
          clear h3 hsh hy hpt hws
          by_cases hjk : is = true ∧ j + k < n ∧ l.getD (j + k) 0 = 45
          · obtain ⟨rfl, hjk2, hz⟩ := hjk
            obtain ⟨v, rfl⟩ := his rfl
            have hwv := HWS.out (v, v) (by simp)
            have hl2 : l.drop (j + k) = 45 :: l.drop (j + k + 1) := by
              have h : j + k < l.length := by rw [HL.out]; exact hjk2
              rw [List.drop_eq_getElem_cons h, show l[j + k] = 45 by rw [← hz]; simp [List.getD, h]]
            have HPL := Lib.hid (partL_dash (l := l.drop j) (x := v) (l2 := l.drop (j + k + 1)) (by rw [HX.out, hl1, hl2]))
            have ck := (HO.out.2.1.cell (p := ⟨b, o + (j + k), none⟩) hb).trans (HC.out (j + k) hjk2)
            rw [hz] at ck
            have hkk : Hid (∀ k', 1 ≤ k' → k' ≤ (l.drop j).length → l1 = (l.drop j).drop k' → k' = k) := Lib.hid fun k' h1 h2 h3 => by
              have h4 := congrArg List.length (hl1.symm.trans h3)
              rw [List.drop_drop, List.length_drop, List.length_drop, HL.out] at h4
              rw [List.length_drop, HL.out] at h2
              omega
            have HPI := Lib.hid fun (e : Ending) (w2 : World) (hv : ptV wr w2 e (l.drop j)) (hb2 : Below wr.heap.size wr w2) => show ∃ (g2 pc2 : Nat), e = .returned (.tuple #[.slice (some ⟨g2, 0, none⟩) 1 pc2, .bool true, .int .i64 (k : Int)]) ∧ g2 < w2.heap.size ∧ w2.cell? ⟨g2, 0, none⟩ = some (.int .i64 v) by
              unfold ptV at hv
              rw [HX.out] at hv
              dsimp only at hv
              obtain ⟨P2, q2, pc2, k', rfl, h1, h2, h3, ho⟩ := hv
              obtain ⟨g, rfl, hn1, hg1, hg2, _, _, hc1, _⟩ := last_own (v := []) (q := (v, v)) ho hb2
              rw [hkk.out k' h1 h2 h3]
              subst hn1
              exact ⟨g, pc2, rfl, hg2, hc1⟩
            clear hl2 hz hl1 his hsl hkk
            have hsub2 : RowI .i64 W (some ⟨b, o + (j + k + 1), none⟩) (n - (j + k + 1)) (l.drop (j + k + 1)) := by
              have h := rowI_from HRW.out (m := j + k + 1) (by omega)
              rwa [show Option.map (fun x => x.add (j + k + 1)) (some (⟨b, o, none⟩ : Addr)) = some ⟨b, o + (j + k + 1), none⟩ by simp [Addr.add]] at h
            have HP2 := Lib.hid fun w (h : Below W.heap.size W w) => rpoint_any (l.drop (j + k + 1)) (some ⟨b, o + (j + k + 1), none⟩) (n - (j + k + 1)) (c - (j + k + 1)) w (hsub2.below h (Nat.le_refl _)) (by omega)
            clear hsub2
            by_cases hj3 : j + k + 1 < n
            · rcases hpt2 : ptL (l.drop (j + k + 1)) with _ | ⟨t, too, l3⟩
              · have HE := Lib.hid (HO.out.2.2.2.none_ HNO.out (by rw [HPL.out, hpt2]))
                have HX2 := Lib.hid hpt2
                clear hpt2
                go_wp2_with (first
                  | (go_at_call 57; (with_reducible refine HPB.out.mono ?_); rintro e w2 ⟨hv, hb2⟩; obtain ⟨g2, pc2, rfl, hg2, cv⟩ := HPI.out _ _ hv hb2; clear hv; have ck2 := (hb2.cell (p := ⟨b, o + (j + k), none⟩) (Nat.lt_of_lt_of_le hb HO.out.2.1.size)).trans ck; have HB2 := Lib.hid (HO.out.2.1.trans (hb2.mono HO.out.2.1.size)); clear hb2)
                  | (go_at_call 57; (with_reducible refine (HP2.out _ HB2.out).mono ?_); rintro e w3 ⟨hv, hb3⟩; unfold ptV at hv; rw [HX2.out] at hv; dsimp only at hv; subst hv; have HB3 := Lib.hid (HB2.out.trans (hb3.mono HB2.out.size)); clear hb3))
                all_goals
                  go_quiet (fail)
                  go_wp2
                  go_ret2
                  refine ⟨?_, below_drewN HB3.out _⟩
                  rw [HE.out]
                  rfl
              · obtain ⟨_, _, his2, k', k3, k4, hl3⟩ := ptL_is (fun z hz => HWF.out z (List.mem_of_mem_drop hz)) hpt2
                rw [List.length_drop, HL.out] at k4
                rw [List.drop_drop] at hl3
                cases too with
                | false =>
                  have HE := Lib.hid (HO.out.2.2.2.none_ HNO.out (by rw [HPL.out, hpt2]))
                  have HX2 := Lib.hid hpt2
                  clear hpt2 hl3 his2
                  have HPI2 := Lib.hid fun (w2 : World) (e : Ending) (w3 : World) (hv : ptV w2 w3 e (l.drop (j + k + 1))) => show ∃ (P3 : Option Addr) (q3 pc3 m : Nat), e = .returned (.tuple #[.slice P3 q3 pc3, .bool false, .int .i64 (m : Int)]) ∧ 1 ≤ m by
                    unfold ptV at hv
                    rw [HX2.out] at hv
                    dsimp only at hv
                    obtain ⟨P3, q3, pc3, m, rfl, h1, _⟩ := hv
                    exact ⟨P3, q3, pc3, m, rfl, h1⟩
                  go_wp2_with (first
                    | (go_at_call 57; (with_reducible refine HPB.out.mono ?_); rintro e w2 ⟨hv, hb2⟩; obtain ⟨g2, pc2, rfl, hg2, cv⟩ := HPI.out _ _ hv hb2; clear hv; have ck2 := (hb2.cell (p := ⟨b, o + (j + k), none⟩) (Nat.lt_of_lt_of_le hb HO.out.2.1.size)).trans ck; have HB2 := Lib.hid (HO.out.2.1.trans (hb2.mono HO.out.2.1.size)); have HBW2 := Lib.hid hb2; clear hb2)
                    | (go_at_call 57; (with_reducible refine (HP2.out _ HB2.out).mono ?_); rintro e w3 ⟨hv, hb3⟩; obtain ⟨P3, q3, pc3, m, rfl, hm1⟩ := HPI2.out _ _ _ hv; clear hv; have hm2 : ¬ (m : Int) = 0 := by omega
                       have hm3 : ((m : Int) == 0) = false := by simpa using hm2
                       have HB3 := Lib.hid (HB2.out.trans (hb3.mono HB2.out.size)); clear hb3))
                  all_goals
                    go_quiet (fail)
                    go_wp2
                    go_ret2
                    refine ⟨?_, below_drewN HB3.out _⟩
                    rw [HE.out]
                    rfl
                | true =>
                  obtain ⟨u, rfl⟩ := his2 rfl
                  have HX2 := Lib.hid hpt2
                  have HPI2 := Lib.hid fun (w2 : World) (e : Ending) (w3 : World) (hv : ptV w2 w3 e (l.drop (j + k + 1))) (hb3 : Below w2.heap.size w2 w3) => show ∃ (g3 pc3 : Nat), e = .returned (.tuple #[.slice (some ⟨g3, 0, none⟩) 1 pc3, .bool true, .int .i64 (k' : Int)]) ∧ g3 < w3.heap.size ∧ w3.cell? ⟨g3, 0, none⟩ = some (.int .i64 u) by
                    unfold ptV at hv
                    rw [HX2.out] at hv
                    dsimp only at hv
                    obtain ⟨P2, q2, pc2, m, rfl, h1, h2, h3, ho⟩ := hv
                    obtain ⟨g, rfl, hn1, hg1, hg2, _, _, hc1, _⟩ := last_own (v := []) (q := (u, u)) ho hb3
                    have hmk : m = k' := by
                      have h4 := congrArg List.length (hl3.symm.trans h3)
                      rw [List.drop_drop, List.length_drop, List.length_drop, HL.out] at h4
                      rw [List.length_drop, HL.out] at h2
                      omega
                    subst hmk
                    subst hn1
                    exact ⟨g, pc2, rfl, hg2, hc1⟩
                  have hm2 : ¬ (k' : Int) = 0 := by omega
                  have hm3 : ((k' : Int) == 0) = false := by simpa using hm2
                  by_cases huv : u < v
                  · have HE := Lib.hid (HO.out.2.2.2.none_ HNO.out (by rw [HPL.out, hpt2]; dsimp only; rw [if_pos (by exact huv)]))
                    clear hpt2 hl3 his2
                    go_wp2_with (first
                      | (go_at_call 57; (with_reducible refine HPB.out.mono ?_); rintro e w2 ⟨hv, hb2⟩; obtain ⟨g2, pc2, rfl, hg2, cv⟩ := HPI.out _ _ hv hb2; clear hv; have ck2 := (hb2.cell (p := ⟨b, o + (j + k), none⟩) (Nat.lt_of_lt_of_le hb HO.out.2.1.size)).trans ck; have HB2 := Lib.hid (HO.out.2.1.trans (hb2.mono HO.out.2.1.size)); have HBW2 := Lib.hid hb2; clear hb2)
                      | (go_at_call 57; (with_reducible refine (HP2.out _ HB2.out).mono ?_); rintro e w3 ⟨hv, hb3⟩; obtain ⟨g3, pc3, rfl, hg3, cu⟩ := HPI2.out _ _ _ hv hb3; clear hv; have cv3 := (hb3.cell (p := ⟨g2, 0, none⟩) hg2).trans cv; have HS23 := Lib.hid hb3.size; have HB3 := Lib.hid (HB2.out.trans (hb3.mono HB2.out.size)); have HBW3 := Lib.hid (HBW2.out.trans (hb3.mono HBW2.out.size)); clear hb3))
                    all_goals
                      go_quiet (fail)
                      go_wp2
                      go_ret2
                      refine ⟨?_, below_drewN HB3.out _⟩
                      rw [HE.out]
                      rfl
                  · have HN := Lib.hid (HO.out.2.2.2.next (s := [(v, u)]) (k := k + 1 + k') HNO.out (by omega) (by rw [HL.out]; omega) (by rw [HPL.out, hpt2]; dsimp only; rw [if_neg (by exact huv), hl3, show j + (k + 1 + k') = j + k + 1 + k' by omega]; rfl))
                    have hwu := (ptL_is (fun z hz => HWF.out z (List.mem_of_mem_drop hz)) hpt2).1 (u, u) (by simp)
                    have HWU := Lib.hid (wfP_one (a := v) (b := u) hwv.1 (by omega) hwu.2.2)
                    clear hpt2 hl3 his2 hwu hwv
                    go_wp2_with (first
                      | (go_at_call 57; (with_reducible refine HPB.out.mono ?_); rintro e w2 ⟨hv, hb2⟩; obtain ⟨g2, pc2, rfl, hg2, cv⟩ := HPI.out _ _ hv hb2; clear hv; have ck2 := (hb2.cell (p := ⟨b, o + (j + k), none⟩) (Nat.lt_of_lt_of_le hb HO.out.2.1.size)).trans ck; have HB2 := Lib.hid (HO.out.2.1.trans (hb2.mono HO.out.2.1.size)); have HBW2 := Lib.hid hb2; clear hb2)
                      | (go_at_call 57; (with_reducible refine (HP2.out _ HB2.out).mono ?_); rintro e w3 ⟨hv, hb3⟩; obtain ⟨g3, pc3, rfl, hg3, cu⟩ := HPI2.out _ _ _ hv hb3; clear hv; have cv3 := (hb3.cell (p := ⟨g2, 0, none⟩) hg2).trans cv; have HS23 := Lib.hid hb3.size; have HB3 := Lib.hid (HB2.out.trans (hb3.mono HB2.out.size)); have HBW3 := Lib.hid (HBW2.out.trans (hb3.mono HBW2.out.size)); clear hb3))
                    all_goals
                      go_quiet (fail)
                      obtain ⟨X, hX⟩ : ∃ X, X = w3.drewN nq := ⟨_, rfl⟩
                      rw [← hX]
                      have hXb : Below w3.heap.size w3 X := by rw [hX]; exact below_drewN (Below.refl _ _) nq
                      have cvX := (hXb.cell (p := ⟨g2, 0, none⟩) (Nat.lt_of_lt_of_le hg2 (show w2.heap.size ≤ w3.heap.size from HS23.out))).trans cv3
                      have cuX := (hXb.cell (p := ⟨g3, 0, none⟩) hg3).trans cu
                      have HXW := Lib.hid (HB3.out.trans (hXb.mono HB3.out.size))
                      have HXR := Lib.hid (HBW3.out.trans (hXb.mono HBW3.out.size))
                      clear hX hXb
                      go_wp2_with fail
                      go_region
                      obtain ⟨P', pc', w', happ, hown, hbel⟩ := app_inG (W := W) (ownG_kept (ownG_alloc (row_base (ownG_kept HO.out.1 HXR.out) (fun x hx => (row_lt HO.out.1 hx).1)) (.cells (cellsG [(v, u)]).toArray 74)) ((Below.refl _ _).drew)) ((rowG_made X [(v, u)]).below ((Below.refl _ _).drew) (Nat.le_refl _)) (c := 1) (fun e => by cases e) (by omega) (by simp) ((HXW.out.alloc HXW.out.size _).drew)
                      simp only [List.length_cons, List.length_nil, Nat.zero_add] at happ hown
                      have HA := Lib.hid happ
                      have HOC := Lib.hid (And.intro hown hbel)
                      clear happ hown hbel
                      go_wp2_with (at_builtin; refine wpList_append_run rfl _ _ 24 rfl rfl _ _ _ _ rfl rfl HA.out ?_)
                      exact ⟨⟨j + (k + 1 + k'), q + 1, pc', p + 1, P', xs ++ [(v, u)], by go_num, rfl, by go_num, by omega, by omega, by omega, Lib.hid ⟨HOC.out.1, HOC.out.2, HO.out.2.2.1.append HWU.out, HN.out⟩⟩, by simp [intOf]; omega⟩
            · have HE := Lib.hid (HO.out.2.2.2.none_ HNO.out (by rw [HPL.out, List.drop_eq_nil_of_le (by rw [HL.out]; omega)]; rfl))
              have HPN := Lib.hid fun (A : Option Addr) (N C : Nat) (w : World) (hN : N = 0) (_ : Below W.heap.size W w) => rpoint_any [] A N C w ⟨hN.symm, fun h => absurd h (by omega)⟩ (by omega)
              clear HP2
              rcases Nat.lt_or_ge (j + k + 1) c with hjc | hjc
              · go_wp2_with (first
                  | (go_at_call 57; (with_reducible refine HPB.out.mono ?_); rintro e w2 ⟨hv, hb2⟩; obtain ⟨g2, pc2, rfl, hg2, cv⟩ := HPI.out _ _ hv hb2; clear hv; have ck2 := (hb2.cell (p := ⟨b, o + (j + k), none⟩) (Nat.lt_of_lt_of_le hb HO.out.2.1.size)).trans ck; have HB2 := Lib.hid (HO.out.2.1.trans (hb2.mono HO.out.2.1.size)); have HBW2 := Lib.hid hb2; clear hb2)
                  | (go_at_call 57; refine (HPN.out _ _ _ _ (by omega) HB2.out).mono ?_; rintro e w3 ⟨hv, hb3⟩; unfold ptV at hv; dsimp only [ptL] at hv; subst hv; have HB3 := Lib.hid (HB2.out.trans (hb3.mono HB2.out.size)); clear hb3))
                all_goals
                  go_quiet (fail)
                  go_wp2
                  go_ret2
                  refine ⟨?_, below_drewN HB3.out _⟩
                  rw [HE.out]
                  rfl
              · have hjc2 : c = j + k + 1 := by omega
                subst hjc2
                go_wp2_with (first
                  | (go_at_call 57; (with_reducible refine HPB.out.mono ?_); rintro e w2 ⟨hv, hb2⟩; obtain ⟨g2, pc2, rfl, hg2, cv⟩ := HPI.out _ _ hv hb2; clear hv; have ck2 := (hb2.cell (p := ⟨b, o + (j + k), none⟩) (Nat.lt_of_lt_of_le hb HO.out.2.1.size)).trans ck; have HB2 := Lib.hid (HO.out.2.1.trans (hb2.mono HO.out.2.1.size)); have HBW2 := Lib.hid hb2; clear hb2)
                  | (go_at_call 57; refine (HPN.out _ _ _ _ (by omega) HB2.out).mono ?_; rintro e w3 ⟨hv, hb3⟩; unfold ptV at hv; dsimp only [ptL] at hv; subst hv; have HB3 := Lib.hid (HB2.out.trans (hb3.mono HB2.out.size)); clear hb3))
                all_goals
                  go_quiet (fail)
                  go_wp2
                  go_ret2
                  refine ⟨?_, below_drewN HB3.out _⟩
                  rw [HE.out]
                  rfl
          · have HPL := Lib.hid (partL_plain HX.out (by
              rw [hl1, getD_drop9]
              rcases Bool.eq_false_or_eq_true is with h | h
              · refine .inr fun h2 => hjk ⟨h, ?_, h2⟩
                rcases Nat.lt_or_ge (j + k) n with h4 | h4
                · exact h4
                · rw [show l.getD (j + k) 0 = 0 by simp [List.getD, List.getElem?_eq_none (show l.length ≤ j + k by rw [HL.out]; exact h4)]] at h2; exact absurd h2 (by decide)
              · exact .inl h))
            rw [hl1] at HPL HX
            have HN := Lib.hid (HO.out.2.2.2.next HNO.out k1 (by rw [HL.out]; omega) HPL.out)
            have HPI := Lib.hid fun (e : Ending) (w2 : World) (hv : ptV wr w2 e (l.drop j)) => show ∃ (P2 : Option Addr) (q2 pc2 : Nat), e = .returned (.tuple #[.slice P2 q2 pc2, .bool is, .int .i64 (k : Int)]) ∧ q2 ≤ 5 ∧ w2.ownsRow wr.heap.size 74 2 (.slice P2 q2 pc2) q2 (cellsG s) by
              unfold ptV at hv
              rw [HX.out] at hv
              dsimp only at hv
              obtain ⟨P2, q2, pc2, k', rfl, h1, h2, h3, ho⟩ := hv
              have hkk : k' = k := by
                have h4 := congrArg List.length h3
                rw [List.drop_drop, List.length_drop, List.length_drop, HL.out] at h4
                rw [List.length_drop, HL.out] at h2
                omega
              subst hkk
              exact ⟨P2, q2, pc2, rfl, by have h := ho.1; rw [cellsG_length] at h; omega, ho⟩
            have hcl := cj
            by_cases hjk2 : j + k < n
            · have ck := (HO.out.2.1.cell (p := ⟨b, o + (j + k), none⟩) hb).trans (HC.out (j + k) hjk2)
              obtain ⟨z, hz⟩ : ∃ z, z = l.getD (j + k) 0 := ⟨_, rfl⟩
              rw [← hz] at ck hjk
              clear hz
              cases is with
              | false =>
                clear hjk
                go_wp2_with (first
                  | (go_at_call 57; (with_reducible refine HPB.out.mono ?_); rintro e w2 ⟨hv, hb2⟩; obtain ⟨P2, q2, pc2, rfl, hq2, ho2⟩ := HPI.out _ _ hv; clear hv; obtain ⟨P', pc', w', happ, hown, hbel⟩ := app_inG (W := W) (c := pc2) (row_base (ownG_kept HO.out.1 hb2) (fun x hx => (row_lt HO.out.1 hx).1)) (rowG_own9 ho2) (own_none ho2) (by omega) (by omega) (HO.out.2.1.trans (hb2.mono HO.out.2.1.size)); have HA := Lib.hid happ; have HOC := Lib.hid (And.intro hown hbel); clear happ hown hbel ho2 hb2)
                  | (at_builtin; refine wpList_append_run rfl _ _ 24 rfl rfl _ _ _ _ rfl rfl HA.out ?_))
                all_goals exact ⟨⟨j + k, q + q2, pc', p + 1, P', xs ++ s, by go_num, rfl, by go_num, by omega, by omega, by omega, Lib.hid ⟨HOC.out.1, HOC.out.2, HO.out.2.2.1.append HWS.out, HN.out⟩⟩, by simp [intOf]; omega⟩
              | true =>
                have e45 : (z == 45) = false := by
                  have h : z ≠ 45 := fun h => hjk ⟨rfl, hjk2, h⟩
                  simpa using h
                clear hjk
                go_wp2_with (first
                  | (go_at_call 57; (with_reducible refine HPB.out.mono ?_); rintro e w2 ⟨hv, hb2⟩; obtain ⟨P2, q2, pc2, rfl, hq2, ho2⟩ := HPI.out _ _ hv; clear hv; have ck2 := (hb2.cell (p := ⟨b, o + (j + k), none⟩) (Nat.lt_of_lt_of_le hb HO.out.2.1.size)).trans ck; obtain ⟨P', pc', w', happ, hown, hbel⟩ := app_inG (W := W) (c := pc2) (row_base (ownG_kept HO.out.1 hb2) (fun x hx => (row_lt HO.out.1 hx).1)) (rowG_own9 ho2) (own_none ho2) (by omega) (by omega) (HO.out.2.1.trans (hb2.mono HO.out.2.1.size)); have HA := Lib.hid happ; have HOC := Lib.hid (And.intro hown hbel); clear happ hown hbel ho2 hb2)
                  | (at_builtin; refine wpList_append_run rfl _ _ 24 rfl rfl _ _ _ _ rfl rfl HA.out ?_))
                all_goals exact ⟨⟨j + k, q + q2, pc', p + 1, P', xs ++ s, by go_num, rfl, by go_num, by omega, by omega, by omega, Lib.hid ⟨HOC.out.1, HOC.out.2, HO.out.2.2.1.append HWS.out, HN.out⟩⟩, by simp [intOf]; omega⟩
            · have HXX := HPI
              clear hjk
              go_wp2_with (first
                | (go_at_call 57; (with_reducible refine HPB.out.mono ?_); rintro e w2 ⟨hv, hb2⟩; obtain ⟨P2, q2, pc2, rfl, hq2, ho2⟩ := HPI.out _ _ hv; clear hv; obtain ⟨P', pc', w', happ, hown, hbel⟩ := app_inG (W := W) (c := pc2) (row_base (ownG_kept HO.out.1 hb2) (fun x hx => (row_lt HO.out.1 hx).1)) (rowG_own9 ho2) (own_none ho2) (by omega) (by omega) (HO.out.2.1.trans (hb2.mono HO.out.2.1.size)); have HA := Lib.hid happ; have HOC := Lib.hid (And.intro hown hbel); clear happ hown hbel ho2 hb2)
                | (at_builtin; refine wpList_append_run rfl _ _ 24 rfl rfl _ _ _ _ rfl rfl HA.out ?_))
              all_goals exact ⟨⟨j + k, q + q2, pc', p + 1, P', xs ++ s, by go_num, rfl, by go_num, by omega, by omega, by omega, Lib.hid ⟨HOC.out.1, HOC.out.2, HO.out.2.2.1.append HWS.out, HN.out⟩⟩, by simp [intOf]; omega⟩
    · have hjn2 : j = n := by omega
      subst hjn2
      have HE := Lib.hid (HO.out.2.2.2.none_ (fun h => by have h2 := h.2; rw [show l.getD j 0 = 0 by simp [List.getD, List.getElem?_eq_none (Nat.le_of_eq HL.out)]] at h2; exact absurd h2 (by decide)) (by rw [List.drop_eq_nil_of_le (by rw [HL.out]; exact Nat.le_refl _)]; rfl))
      have HP := Lib.hid fun (A : Option Addr) (C : Nat) => rpoint_any [] A 0 C wr ⟨rfl, fun h => absurd h (by omega)⟩ (by omega)
      rcases Nat.lt_or_ge j c with hjc | hjc
      · go_wp2_with (go_at_call 57; refine (HP.out _ _).mono ?_; rintro e w2 ⟨hv, hb2⟩; have HB2 := Lib.hid hb2; clear hb2; unfold ptV at hv; dsimp only [ptL] at hv; subst hv)
        go_ret2
        refine ⟨?_, HO.out.2.1.trans (HB2.out.mono HO.out.2.1.size)⟩
        rw [HE.out]
        rfl
      · have hjc2 : c = j := by omega
        subst hjc2
        go_wp2_with (go_at_call 57; refine (HP.out _ _).mono ?_; rintro e w2 ⟨hv, hb2⟩; have HB2 := Lib.hid hb2; clear hb2; unfold ptV at hv; dsimp only [ptL] at hv; subst hv)
        go_ret2
        refine ⟨?_, HO.out.2.1.trans (HB2.out.mono HO.out.2.1.size)⟩
        rw [HE.out]
        rfl
end Go.Proofs.YtaapbmdojkjphaaGreat
