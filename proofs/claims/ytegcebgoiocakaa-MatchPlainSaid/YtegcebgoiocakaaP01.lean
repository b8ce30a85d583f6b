/- The writer's trees: right instructions, so many. -/
import Derived.Test.YtegcebgoiocakaaO01
namespace Go.Proofs.Ytegcebgoiocakaa
open Go Go.RowKit
set_option linter.unusedVariables false
set_option maxRecDepth 20000

/-- An instruction that goes on, up to b. -/
def OkI (b : Nat) (v : InstL) : Prop := (v.op = 1 ∨ v.op = 2 ∨ v.op = 3 ∨ v.op = 4) ∧ 0 ≤ v.x ∧ v.x ≤ (b : Int) ∧ 0 ≤ v.y ∧ v.y ≤ (b : Int) ∧ v.set.length ≤ 1000000
def OkL (b : Nat) (ys : List InstL) : Prop := ∀ v ∈ ys, OkI b v
theorem OkI.mono {a b : Nat} {v : InstL} (h : OkI a v) (hab : a ≤ b) : OkI b v := by
  obtain ⟨h1, h2, h3, h4, h5, h6⟩ := h
  exact ⟨h1, h2, by omega, h4, by omega, h6⟩
theorem OkL.mono {a b : Nat} {ys : List InstL} (h : OkL a ys) (hab : a ≤ b) : OkL b ys := fun v hv => (h v hv).mono hab
theorem OkL.app {b : Nat} {xs ys : List InstL} (h : OkL b xs) (k : OkL b ys) : OkL b (xs ++ ys) := fun v hv => by
  rcases List.mem_append.1 hv with hv | hv
  · exact h v hv
  · exact k v hv
theorem OkL.one {b : Nat} {v : InstL} (h : OkI b v) : OkL b [v] := fun u hu => by rw [List.mem_singleton] at hu; subst hu; exact h
theorem OkL.modify {b i : Nat} {f : InstL → InstL} {ys : List InstL} (h : OkL b ys) (hf : ∀ v, OkI b v → OkI b (f v)) : OkL b (ys.modify i f) := fun u hu => by
  obtain ⟨j, hj⟩ := List.getElem?_of_mem hu
  simp only [List.getElem?_modify, Option.map_eq_map] at hj
  obtain ⟨y, hy, e⟩ := Option.map_eq_some_iff.1 hj
  have hy' := h y (List.mem_of_getElem? hy)
  by_cases hij : i = j
  · rw [if_pos hij] at e; rw [← e]; exact hf y hy'
  · rw [if_neg hij] at e; rw [← e]; exact hy'
theorem OkI.y {b q : Nat} {v : InstL} (h : OkI b v) (hq : q ≤ b) : OkI b { v with y := (q : Int) } := ⟨h.1, h.2.1, h.2.2.1, by show (0 : Int) ≤ (q : Int); omega, by show (q : Int) ≤ (b : Int); omega, h.2.2.2.2.2⟩
theorem OkI.xy {b q : Nat} {v : InstL} (h : OkI b v) (hq : q ≤ b) : OkI b { v with x := (q : Int), y := (q : Int) } := ⟨h.1, by show (0 : Int) ≤ (q : Int); omega, by show (q : Int) ≤ (b : Int); omega, by show (0 : Int) ≤ (q : Int); omega, by show (q : Int) ≤ (b : Int); omega, h.2.2.2.2.2⟩
/-- Sets lie where some lay, or in new memory. -/
def NewS (w : World) (xs xs' : List IV) : Prop := ∀ x ∈ xs', ∀ b o, 0 < x.n → x.A = some ⟨b, o, none⟩ → (∃ y ∈ xs, 0 < y.n ∧ ∃ o', y.A = some ⟨b, o', none⟩) ∨ w.heap.size ≤ b
theorem NewS.refl (w : World) (xs : List IV) : NewS w xs xs := fun x hx b o hn hA => .inl ⟨x, hx, hn, o, hA⟩
theorem NewS.trans {w w' : World} {xs xs' xs'' : List IV} (hs : w.heap.size ≤ w'.heap.size) (h : NewS w xs xs') (k : NewS w' xs' xs'') : NewS w xs xs'' := fun x hx b o hn hA => by
  rcases k x hx b o hn hA with ⟨y, hy, hyn, o', hyA⟩ | h1
  · exact h y hy b o' hyn hyA
  · exact .inr (by omega)
theorem NewS.turned (w : World) (f : InstL → InstL) (i : Nat) (xs : List IV) : NewS w xs (setIV f i xs) := fun x hx b o hn hA => by
  obtain ⟨y, hy, rfl | rfl⟩ := setIV_mem f i xs x hx
  · exact .inl ⟨_, hy, hn, o, hA⟩
  · exact .inl ⟨y, hy, hn, o, hA⟩
theorem NewS.put (w : World) (xs : List IV) (v : IV) (hv : ∀ b o, 0 < v.n → v.A = some ⟨b, o, none⟩ → w.heap.size ≤ b) : NewS w xs (xs ++ [v]) := fun x hx b o hn hA => by
  rcases List.mem_append.1 hx with hx | hx
  · exact .inl ⟨x, hx, hn, o, hA⟩
  · rw [List.mem_singleton] at hx; subst hx; exact .inr (hv b o hn hA)
/-- Where a writer stands, c instructions on. -/
def StY (B g : Nat) (w : World) (P : Option Addr) (q pc : Nat) (xs : List IV) (c : Nat) (w' : World) (P' : Option Addr) (pc' : Nat) (xs' : List IV) : Prop :=
  WrS B g w' P' (q + c) pc' xs' ∧ (∃ ys, codes xs' = codes xs ++ ys ∧ ys.length = c ∧ OkL (q + c) ys ∧ NewS w xs xs') ∧ Wk B g (.slice P q pc) w w' ∧ Vk w (.slice P q pc) (.slice P' (q + c) pc')
def AddedY (B g : Nat) (w : World) (P : Option Addr) (q pc : Nat) (xs : List IV) (c : Nat) (e : Ending) (w' : World) : Prop :=
  e = .returned (.tuple #[]) ∧ ∃ P' pc' xs', StY B g w P q pc xs c w' P' pc' xs'
section
variable {B g q pc c d pc' pc'' : Nat} {w w' w'' : World} {P P' P'' : Option Addr} {xs xs' xs'' : List IV}
theorem StY.refl (h : WrS B g w P q pc xs) : StY B g w P q pc xs 0 w P pc xs := ⟨h, ⟨[], (List.append_nil _).symm, rfl, (fun _ h => nomatch h), NewS.refl _ _⟩, Wk.refl _ _ _ _, Vk.refl _ _⟩
theorem StY.trans (h : StY B g w P q pc xs c w' P' pc' xs') (k : StY B g w' P' (q + c) pc' xs' d w'' P'' pc'' xs'') : StY B g w P q pc xs (c + d) w'' P'' pc'' xs'' := by
  obtain ⟨h1, ⟨ys, h2, h3, h4, h7⟩, h5, h6⟩ := h
  obtain ⟨k1, ⟨zs, k2, k3, k4, k7⟩, k5, k6⟩ := k
  unfold StY
  rw [← Nat.add_assoc]
  exact ⟨k1, ⟨ys ++ zs, by rw [k2, h2, List.append_assoc], by rw [List.length_append]; omega, (h4.mono (by omega)).app k4, h7.trans h5.2.1 k7⟩, h5.trans h6 k5, h6.trans h5.2.1 k6⟩
theorem StY.behind (hB : B ≤ w.heap.size) (hb : Below w.heap.size w w') (h : StY B g w' P q pc xs c w'' P'' pc'' xs'') : StY B g w P q pc xs c w'' P'' pc'' xs'' :=
  ⟨h.1, (by obtain ⟨ys, k1, k2, k3, k4⟩ := h.2.1; exact ⟨ys, k1, k2, k3, (NewS.refl _ _).trans hb.size k4⟩), (Wk.of_below hB hb).trans (Vk.refl _ _) h.2.2.1, fun b hb' hn => h.2.2.2 b (Nat.lt_of_lt_of_le hb' hb.size) hn⟩
theorem StY.turn {f : InstL → InstL} {i : Nat} (h : StY B g w P q pc xs c w' P' pc' xs') (hi : q ≤ i) (hx : xs.length = q) (hf : ∀ v, OkI (q + c) v → OkI (q + c) (f v)) (h1 : WrS B g w'' P' (q + c) pc' (setIV f i xs')) (h2 : Wk B g (.slice P' (q + c) pc') w' w'') : StY B g w P q pc xs c w'' P' pc' (setIV f i xs') := by
  obtain ⟨k1, ⟨ys, k2, k3, k4, k7⟩, k5, k6⟩ := h
  exact ⟨h1, ⟨_, setIV_app f i xs xs' ys k2 (by omega), by rw [List.length_modify]; exact k3, k4.modify hf, k7.trans k5.2.1 (NewS.turned _ _ _ _)⟩, k5.trans k6 h2, k6⟩
theorem AddedY.behind (hB : B ≤ w.heap.size) (hb : Below w.heap.size w w') {e : Ending} (h : AddedY B g w' P q pc xs c e w'') : AddedY B g w P q pc xs c e w'' := by
  obtain ⟨he, P1, pc1, xs1, h1⟩ := h
  exact ⟨he, P1, pc1, xs1, h1.behind hB hb⟩
theorem StY.one {v : IV} (hv : OkI (q + 1) v.i) (hb : ∀ b o, 0 < v.n → v.A = some ⟨b, o, none⟩ → w.heap.size ≤ b) (h1 : WrS B g w' P' (q + 1) pc' (xs ++ [v])) (h2 : Wk B g (.slice P q pc) w w') (h3 : Vk w (.slice P q pc) (.slice P' (q + 1) pc')) : StY B g w P q pc xs 1 w' P' pc' (xs ++ [v]) :=
  ⟨h1, ⟨[v.i], by rw [codes_app]; rfl, rfl, OkL.one hv, NewS.put _ _ _ hb⟩, h2, h3⟩
end
/-- A tree of c instructions, among memory that stays. -/
def TreeY (B g : Nat) (w0 : World) (v : Value) (c : Nat) : Prop :=
  ∀ w P q pc xs, Below B w0 w → WrS B g w P q pc xs → q + c ≤ 20000 → Calls Try.prog 37 #[.pointer (some ⟨g, 0, none⟩), v] w (AddedY B g w P q pc xs c)
def RowY (B g : Nat) (w0 : World) (v : Value) (c : Nat) : Prop :=
  ∀ w P q pc xs, Below B w0 w → WrS B g w P q pc xs → q + c ≤ 20000 → Calls Try.prog 66 #[.pointer (some ⟨g, 0, none⟩), v] w (AddedY B g w P q pc xs c)
theorem okI_put {q : Nat} {op : Int} {s : List (Int × Int)} (ho : op = 1 ∨ op = 2 ∨ op = 3 ∨ op = 4) (hs : s.length ≤ 1000000) : OkI (q + 1) ⟨op, s, (q : Int) + 1, 0⟩ :=
  ⟨ho, by show (0 : Int) ≤ (q : Int) + 1; omega, by show (q : Int) + 1 ≤ ((q + 1 : Nat) : Int); omega, Int.le_refl 0, by show (0 : Int) ≤ ((q + 1 : Nat) : Int); omega, hs⟩
set_option maxHeartbeats 4000000 in
theorem tree_charY {B g : Nat} {w0 : World} {A D : Option Addr} {ns cs nk ck : Nat} {mn mx : Int} {s : List (Int × Int)} (hr : RowF (fun b => b < B) w0 A ns s) (hn : ns ≤ 1000000) (hBw : B ≤ w0.heap.size) : TreeY B g w0 (.agg #[.int .i64 1, .slice A ns cs, .int .i64 mn, .int .i64 mx, .slice D nk ck]) 1 := by
  intro w P q pc xs hb0 h hq
  have hq : q + 1 ≤ 20000 := hq
  have HLn := Lib.hid hr.1.1
  have hBg := h.hB
  have hgl := h.lt
  have HS := Lib.hid h
  have HC := Lib.hid (gclone_any A ns cs s (w.alloc (.cells #[.int .i64 1, .slice A ns cs, .int .i64 mn, .int .i64 mx, .slice D nk ck] 52)) ((hr.keep hb0.size fun b hb _ => hb0.block b hb).below ((Below.refl _ _).alloc (Nat.le_refl _) _)) (by omega))
  clear h hr
  go_enter Try.func37, Try.ntmps37
  go_wp2_with (first
    | (go_at_call 65; (with_reducible refine HC.out.mono ?_); rintro e w1 ⟨P1, q1, pc1, rfl, ho, hb⟩; have hb1 : Below w.heap.size w w1 := ((Below.refl _ _).alloc (Nat.le_refl _) _).trans (hb.mono (by simp)); have HB1 := Lib.hid hb1; have HF1 := Lib.hid (show ∀ b o, 0 < q1 → P1 = some ⟨b, o, none⟩ → w.heap.size ≤ b from fun b o h1 h2 => by have h3 := (rowF_own ho).2 b o h1 h2; simp at h3; omega); have HB1 := Lib.hid hb1; have HPu := Lib.hid (put_any (HS.out.below hb1) 1 0 0 P1 q1 pc1 s ((rowF_own ho).move (Nat.le_refl _) fun b hF hlt => ⟨⟨by have hF : (w.alloc (.cells #[.int .i64 1, .slice A ns cs, .int .i64 mn, .int .i64 mx, .slice D nk ck] 52)).heap.size ≤ b := hF; simp at hF; omega, by have hF : (w.alloc (.cells #[.int .i64 1, .slice A ns cs, .int .i64 mn, .int .i64 mx, .slice D nk ck] 52)).heap.size ≤ b := hF; simp at hF; omega, fun e => by have hF : (w.alloc (.cells #[.int .i64 1, .slice A ns cs, .int .i64 mn, .int .i64 mx, .slice D nk ck] 52)).heap.size ≤ b := hF; simp at hF; have := (row_lt HS.out.row e).2; omega⟩, rfl⟩) (by omega)); clear ho hb hb1)
    | (go_at_call 64; (with_reducible refine HPu.out.mono ?_); rintro e w2 ⟨rfl, P', pc', hR1, hR2, hR3⟩; have HR := Lib.hid (And.intro hR1 (And.intro hR2 hR3)); clear hR1 hR2 hR3))
  go_end0
  exact ⟨rfl, P', pc', _, HR.out.1, ⟨[⟨1, s, (q : Int) + 1, 0⟩], by rw [codes_app]; rfl, rfl, OkL.one (okI_put (.inl rfl) (by have := HLn.out; omega)), NewS.put _ _ _ HF1.out⟩, (Wk.of_below (by omega) HB1.out).trans (Vk.refl _ _) HR.out.2.1, fun b hb' hn => HR.out.2.2 b (Nat.lt_of_lt_of_le hb' HB1.out.size) hn⟩
set_option maxHeartbeats 4000000 in
theorem tree_emptyY {B g : Nat} {w0 : World} {A D : Option Addr} {ns cs nk ck : Nat} {mn mx : Int} (hBw : B ≤ w0.heap.size) : TreeY B g w0 (.agg #[.int .i64 0, .slice A ns cs, .int .i64 mn, .int .i64 mx, .slice D nk ck]) 0 := by
  intro w P q pc xs hb0 h hq
  have hgl := h.lt
  have hB : B ≤ w.heap.size := by have := h.hB; omega
  have HS := Lib.hid (h.below (w' := w.alloc (.cells #[.int .i64 0, .slice A ns cs, .int .i64 mn, .int .i64 mx, .slice D nk ck] 52)) ((Below.refl _ _).alloc (Nat.le_refl _) _))
  have HB := Lib.hid hB
  clear h hB
  go_enter Try.func37, Try.ntmps37
  go_wp2
  go_end0
  exact AddedY.behind HB.out ((Below.refl _ _).alloc (Nat.le_refl _) _) ⟨rfl, P, pc, xs, StY.refl HS.out⟩
set_option maxHeartbeats 4000000 in
theorem tree_beginY {B g : Nat} {w0 : World} {A D : Option Addr} {ns cs nk ck : Nat} {mn mx : Int} (hBw : B ≤ w0.heap.size) : TreeY B g w0 (.agg #[.int .i64 2, .slice A ns cs, .int .i64 mn, .int .i64 mx, .slice D nk ck]) 1 := by
  intro w P q pc xs hb0 h hq
  have hgl := h.lt
  have hB : B ≤ w.heap.size := by have := h.hB; omega
  have HPu := Lib.hid (put_any (h.below (w' := w.alloc (.cells #[.int .i64 2, .slice A ns cs, .int .i64 mn, .int .i64 mx, .slice D nk ck] 52)) ((Below.refl _ _).alloc (Nat.le_refl _) _)) 3 0 0 none 0 0 [] (rowF_nil _ _) (by omega))
  have HB := Lib.hid hB
  clear h hB
  go_enter Try.func37, Try.ntmps37
  go_wp2_with (go_at_call 64; (with_reducible refine HPu.out.mono ?_); rintro e w2 ⟨rfl, P', pc', hR1, hR2, hR3⟩; have HR := Lib.hid (And.intro hR1 (And.intro hR2 hR3)); clear hR1 hR2 hR3)
  go_end0
  exact AddedY.behind HB.out ((Below.refl _ _).alloc (Nat.le_refl _) _) ⟨rfl, P', pc', _, StY.one (okI_put (by decide) (by decide)) (fun _ _ h => absurd h (Nat.lt_irrefl 0)) HR.out.1 HR.out.2.1 HR.out.2.2⟩
set_option maxHeartbeats 4000000 in
theorem tree_endY {B g : Nat} {w0 : World} {A D : Option Addr} {ns cs nk ck : Nat} {mn mx : Int} (hBw : B ≤ w0.heap.size) : TreeY B g w0 (.agg #[.int .i64 3, .slice A ns cs, .int .i64 mn, .int .i64 mx, .slice D nk ck]) 1 := by
  intro w P q pc xs hb0 h hq
  have hgl := h.lt
  have hB : B ≤ w.heap.size := by have := h.hB; omega
  have HPu := Lib.hid (put_any (h.below (w' := w.alloc (.cells #[.int .i64 3, .slice A ns cs, .int .i64 mn, .int .i64 mx, .slice D nk ck] 52)) ((Below.refl _ _).alloc (Nat.le_refl _) _)) 4 0 0 none 0 0 [] (rowF_nil _ _) (by omega))
  have HB := Lib.hid hB
  clear h hB
  go_enter Try.func37, Try.ntmps37
  go_wp2_with (go_at_call 64; (with_reducible refine HPu.out.mono ?_); rintro e w2 ⟨rfl, P', pc', hR1, hR2, hR3⟩; have HR := Lib.hid (And.intro hR1 (And.intro hR2 hR3)); clear hR1 hR2 hR3)
  go_end0
  exact AddedY.behind HB.out ((Below.refl _ _).alloc (Nat.le_refl _) _) ⟨rfl, P', pc', _, StY.one (okI_put (by decide) (by decide)) (fun _ _ h => absurd h (Nat.lt_irrefl 0)) HR.out.1 HR.out.2.1 HR.out.2.2⟩
set_option maxHeartbeats 4000000 in
theorem tree_catY {B g c : Nat} {w0 : World} {A D : Option Addr} {ns cs nk ck : Nat} {mn mx : Int} (hBw : B ≤ w0.heap.size)
    (HR : RowY B g w0 (.slice D nk ck) c) : TreeY B g w0 (.agg #[.int .i64 4, .slice A ns cs, .int .i64 mn, .int .i64 mx, .slice D nk ck]) c := by
  intro w P q pc xs hb0 h hq
  have hgl := h.lt
  have hB : B ≤ w.heap.size := by have := h.hB; omega
  have HC := Lib.hid (HR (w.alloc (.cells #[.int .i64 4, .slice A ns cs, .int .i64 mn, .int .i64 mx, .slice D nk ck] 52)) P q pc xs (hb0.alloc (by have := hb0.size; omega) _) (h.below ((Below.refl _ _).alloc (Nat.le_refl _) _)) hq)
  have HB := Lib.hid hB
  clear h HR hB
  go_enter Try.func37, Try.ntmps37
  go_wp2_with (go_at_call 66; (with_reducible refine HC.out.mono ?_); rintro e w2 hv; have HV := Lib.hid hv; obtain ⟨rfl, -⟩ := hv)
  go_end0
  exact AddedY.behind HB.out ((Below.refl _ _).alloc (Nat.le_refl _) _) HV.out
/-- What stands of a row's kid is what stood of it. -/
theorem kid_then {B : Nat} {w0 wr : World} {D : Option Addr} {nk : Nat} {K : Wood} (hk : KidsAt (fun b => b < B) w0 D nk K) (hbr : Below B w0 wr) {j : Nat} (hlt : j < nk) : ∃ (b o : Nat) (op mn mx : Int) (A' D' : Option Addr) (ns cs nk' ck' : Nat), D = some ⟨b, o, none⟩ ∧ b < B ∧ b < wr.heap.size ∧
    wr.cell? ⟨b, o + j * 5, none⟩ = some (.int .i64 op) ∧ wr.cell? ⟨b, o + j * 5 + 1, none⟩ = some (.slice A' ns cs) ∧ wr.cell? ⟨b, o + j * 5 + 2, none⟩ = some (.int .i64 mn) ∧ wr.cell? ⟨b, o + j * 5 + 3, none⟩ = some (.int .i64 mx) ∧ wr.cell? ⟨b, o + j * 5 + 4, none⟩ = some (.slice D' nk' ck') ∧
    NodeIn (fun b => b < B) w0 (.agg #[.int .i64 op, .slice A' ns cs, .int .i64 mn, .int .i64 mx, .slice D' nk' ck']) (K.nth j) := by
  obtain ⟨b2, o2, op2, s2, mn2, mx2, k2, A2, D2, ns2, cs2, nk2, ck2, hD2, hbl2, e2, d0, d1, d2, d3, d4, hin2⟩ := hk.kid hlt
  have hbB : b2 < B := by
    obtain ⟨b5, o5, hD5, hF5, _⟩ := hk.2 (by omega)
    rw [hD2] at hD5
    injection hD5 with hD5
    injection hD5 with e5 _
    subst e5
    exact hF5
  have up : ∀ x, wr.cell? ⟨b2, x, none⟩ = w0.cell? ⟨b2, x, none⟩ := fun x => hbr.cell (p := ⟨b2, x, none⟩) hbB
  exact ⟨b2, o2, op2, mn2, mx2, A2, D2, ns2, cs2, nk2, ck2, hD2, hbB, Nat.lt_of_lt_of_le hbl2 hbr.size, (up _).trans d0, (up _).trans d1, (up _).trans d2, (up _).trans d3, (up _).trans d4, hin2⟩
set_option maxHeartbeats 4000000 in
theorem row_addsY {B g : Nat} {w0 : World} {D : Option Addr} {nk ck : Nat} {K : Wood} (hk : KidsAt (fun b => b < B) w0 D nk K) (hnk : nk ≤ 1000) (hBw : B ≤ w0.heap.size) (cf : Nat → Nat) (hc : ∀ j, cf j ≤ cf (j + 1)) (hc0 : cf 0 = 0)
    (HT : ∀ j, j < nk → ∀ v, NodeIn (fun b => b < B) w0 v (K.nth j) → TreeY B g w0 v (cf (j + 1) - cf j)) : RowY B g w0 (.slice D nk ck) (cf nk) := by
  intro w P q pc xs hb0 h hq
  have hmono : ∀ a b, a ≤ b → cf a ≤ cf b := fun a b hab => by
    induction hab with
    | refl => exact Nat.le_refl _
    | step _ ih => exact Nat.le_trans ih (hc _)
  have HS := Lib.hid h
  have HK := Lib.hid hk
  have HTr := Lib.hid HT
  have HQ := Lib.hid (And.intro hq (And.intro hmono (And.intro hc hc0)))
  have HB := Lib.hid (And.intro hb0 hBw)
  clear h hk HT hb0 hBw hq hmono hc hc0
  go_enter Try.func66, Try.ntmps66
  go_wp2_with fail
  go_loopw [8] (fun vi wr => ∃ (j pc' : Nat) (P' : Option Addr) (xs' : List IV), vi = .int .i64 (j : Int) ∧ j ≤ nk ∧ Hid (StY B g w P q pc xs (cf j) wr P' pc' xs')) (fun vi _ => nk - (match vi with | .int _ j => j.toNat | _ => 0))
  case atStart => exact ⟨0, pc, P, xs, rfl, Nat.zero_le _, Lib.hid (by rw [HQ.out.2.2.2]; exact StY.refl HS.out)⟩
  case round =>
    obtain ⟨j, pc', P', xs', rfl, hj, H⟩ := hrel
    by_cases hlt : j < nk
    · have hbr : Below B w0 wr := HB.out.1.trans H.out.2.2.1.1
      obtain ⟨b, o, op, mn, mx, A', D', ns, cs, nk', ck', rfl, hbB, hbl, c0, c1, c2, c3, c4, hin⟩ := kid_then HK.out hbr hlt
      have h1 := HQ.out.2.1 (j + 1) nk hlt
      have h2 := HQ.out.2.2.1 j
      have h3 := HQ.out.1
      have HC := Lib.hid (HTr.out j hlt _ hin (wr.alloc (.cells #[.int .i64 op, .slice A' ns cs, .int .i64 mn, .int .i64 mx, .slice D' nk' ck'] 52)) P' (q + cf j) pc' xs' (hbr.alloc (by have := hbr.size; have := HB.out.2; omega) _) (H.out.1.below ((Below.refl _ _).alloc (Nat.le_refl _) _)) (by omega))
      have HBR := Lib.hid hbr
      clear hin hbr h1 h2 h3 hbB
      go_wp2_with (go_at_call 37; (with_reducible refine HC.out.mono ?_); rintro e w2 hv; have HV := Lib.hid hv; obtain ⟨rfl, -⟩ := hv)
      obtain ⟨_, P2, pc2, xs2, k1⟩ := AddedY.behind (B := B) (by have := HBR.out.size; have := HB.out.2; omega) ((Below.refl wr.heap.size wr).alloc (Nat.le_refl _) _) HV.out
      have k2 := H.out.trans k1
      rw [show cf j + (cf (j + 1) - cf j) = cf (j + 1) by have := HQ.out.2.2.1 j; omega] at k2
      exact ⟨⟨j + 1, pc2, P2, xs2, rfl, hlt, Lib.hid k2⟩, by show nk - ((j : Int) + 1).toNat < nk - (j : Int).toNat; omega⟩
    · obtain rfl : j = nk := by omega
      go_wp2
      go_end0
      exact ⟨rfl, P', pc', xs', H.out⟩
end Go.Proofs.Ytegcebgoiocakaa
