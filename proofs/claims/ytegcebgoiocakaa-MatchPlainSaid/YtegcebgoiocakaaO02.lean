/- The document's example of matches. -/
import Derived.Test.YtegcebgoiocakaaM07
import Derived.Test.YtegcebgoiocakaaM12
import Derived.Test.YtegcebgoiocakaaM20
import Derived.Test.YtegcebgoiocakaaN04
import Derived.Test.YtegcebgoiocakaaN05
import Derived.Test.YtegcebgoiocakaaN06
import Derived.Test.YtegcebgoiocakaaO01
import Derived.BigQuiet
namespace Go.Proofs.Ytegcebgoiocakaa
open Go Go.RowKit
set_option linter.unusedVariables false
set_option maxRecDepth 20000

theorem star_parse : parseT ⟨#[97, 42]⟩ = some starT := by kernel_rfl
theorem star_len : rowLen starT = 3 := by decide
theorem star_ok : LenOk starT := ⟨by decide, fun h => by decide, fun h => ⟨by decide, by decide, .inl rfl⟩, ⟨by decide, fun h => absurd h (by decide), fun h => absurd h (by decide), trivial, trivial⟩, trivial⟩
theorem rparse_star (w : World) : Calls Try.prog 22 #[.string ⟨#[97, 42]⟩] w fun e w' => ∃ x : NV, e = .returned (.tuple #[x.val, .int .i64 0]) ∧ NodesIn (fun _ => True) w' [x] starT ∧ Below w.heap.size w w' := by
  refine (rparse_any ⟨#[97, 42]⟩ w).mono fun e w' hv => ?_
  obtain ⟨hb, ⟨h1, _⟩ | ⟨_, h2, _⟩ | ⟨x, n, h1, h2, he, hN⟩⟩ := hv
  · exact absurd h1 (by decide)
  · rw [star_parse] at h2; cases h2
  · rw [star_parse] at h2
    injection h2 with h2
    subst h2
    exact ⟨x, he, hN, hb⟩
/-- The example's tree, wherever it stays: its length, its program. -/
theorem star_at {F : Nat → Prop} {w1 : World} {x : NV} (h : NodesIn F w1 [x] starT) : ∀ w2, Below w1.heap.size w1 w2 →
    (Calls Try.prog 23 #[.agg #[.int .i64 x.op, .slice x.A x.ns x.cs, .int .i64 x.mn, .int .i64 x.mx, .slice x.D x.nk x.ck]] w2 fun e w' => e = .returned (.int .i64 3) ∧ Below w2.heap.size w2 w') ∧
    (Calls Try.prog 24 #[.agg #[.int .i64 x.op, .slice x.A x.ns x.cs, .int .i64 x.mn, .int .i64 x.mx, .slice x.D x.nk x.ck]] w2 fun e w' => ∃ P pc l, e = .returned (.tuple #[.slice P 4 pc, .int .i64 0]) ∧ InsF (fun b => w2.heap.size ≤ b) w' P 4 l ∧ codes l = starP ∧ Below w2.heap.size w2 w') := fun w2 hb => by
  have h2 : NodesIn (fun b => b < w2.heap.size) w2 [x] starT := h.move hb.size fun b _ hlt => ⟨Nat.lt_of_lt_of_le hlt hb.size, hb.block b hlt⟩
  refine ⟨?_, star_compile h2⟩
  have := rlen_any starT.size starT (Nat.le_refl _) _ w2 _ h2.one star_ok
  rwa [star_len] at this
set_option maxHeartbeats 4000000 in
theorem made_star (w : World) : Calls Try.prog 9 #[.string ⟨#[97, 42]⟩] w fun e w' => ∃ P pc l, e = .returned (.slice P 4 pc) ∧ InsF (fun b => w.heap.size ≤ b) w' P 4 l ∧ codes l = starP ∧ Below w.heap.size w w' := by
  have HP := Lib.hid (rparse_star w)
  go_enter Try.func9, Try.ntmps9
  go_wp2_with (first
    | (go_at_call 22; (with_reducible refine HP.out.mono ?_); rintro e w1 ⟨x, rfl, hN, hb⟩; have H1 := Lib.hid hb; have HC := Lib.hid (star_at hN); have HC1 := Lib.hid (HC.out (w1.alloc (.cells #[.int .i64 x.op, .slice x.A x.ns x.cs, .int .i64 x.mn, .int .i64 x.mx, .slice x.D x.nk x.ck] 52)) ((Below.refl _ _).alloc (Nat.le_refl _) _)).1; clear hN hb; simp only [NV.val])
    | (go_at_call 23; (with_reducible refine HC1.out.mono ?_); rintro e w2 ⟨rfl, hb⟩; have H2 := Lib.hid hb; have hbx := Lib.hid (show w2.heap[w1.heap.size]? = some (.cells #[.int .i64 x.op, .slice x.A x.ns x.cs, .int .i64 x.mn, .int .i64 x.mx, .slice x.D x.nk x.ck] 52 (0, 0)) from (hb.block _ (by simp)).trans (heap_alloc_new w1 _)); obtain ⟨y0, y1, y2, y3, y4, yf⟩ := box_facts hbx.out; have HB2 := Lib.hid (((Below.refl w1.heap.size w1).alloc (Nat.le_refl _) (.cells #[.int .i64 x.op, .slice x.A x.ns x.cs, .int .i64 x.mn, .int .i64 x.mx, .slice x.D x.nk x.ck] 52)).trans (hb.mono (by simp))); have HC2 := Lib.hid (HC.out w2 HB2.out).2; clear hb)
    | (go_at_call 24; (with_reducible refine HC2.out.mono ?_); rintro e w3 ⟨P, pc, l, rfl, hI, hcl, hb⟩; have H3 := Lib.hid (And.intro hI (And.intro hcl hb)); clear hI hcl hb))
  go_ret
  exact ⟨P, pc, l, rfl, H3.out.1.mono fun b hF _ => Nat.le_trans (Nat.le_trans H1.out.size HB2.out.size) hF, H3.out.2.1, (H1.out.trans (HB2.out.mono H1.out.size)).trans (H3.out.2.2.mono (Nat.le_trans H1.out.size HB2.out.size))⟩
theorem rightB_codes (n : Nat) (l : List IV) : rightB n l = ((codes l).all (okB n) && decide (0 < n)) := by
  unfold rightB codes
  rw [List.all_map]
  rfl
theorem star_text : rsT (nums ⟨#[98, 97, 97, 99]⟩) = [98, 97, 97, 99] := by kernel_rfl
theorem star_hits : [(0, 0), (1, 3), (4, 4)].map (hitI (nums ⟨#[98, 97, 97, 99]⟩)) = [(0, 0), (1, 3), (4, 4)] := by kernel_rfl
theorem all_star {F : Nat → Prop} {P : Option Addr} {pc : Nat} {l : List IV} {w : World} (h : InsF F w P 4 l) (hc : codes l = starP) : Calls Try.prog 19 #[.slice P 4 pc, .string ⟨#[98, 97, 97, 99]⟩] w fun e w' => ∃ Q q qc, e = .returned (.slice Q q qc) ∧ RowH w' Q q [(0, 0), (1, 3), (4, 4)] ∧ Below w.heap.size w w' := by
  refine (all_match P 4 pc l ⟨#[98, 97, 97, 99]⟩ w h (by rw [rightB_codes, hc]; rfl) (by decide) (by decide)).mono ?_
  rintro e w' ⟨Q, q, qc, hs, rfl, hA, ho, hb⟩
  refine ⟨Q, q, qc, rfl, ?_, hb⟩
  have e : (l.map fun v => v.i) = starP := hc
  rw [e, star_text] at hA
  obtain rfl := hA.uniq star_all
  rw [star_hits] at ho
  exact rowH_own ho
set_option maxHeartbeats 4000000 in
theorem awake11_any (w : World) : Calls Try.prog 8 #[] w fun e w' => e = .returned (.bool true) ∧ Below w.heap.size w w' := by
  have HM := Lib.hid (made_star w)
  go_enter Try.func8, Try.ntmps8
  go_wp2_with (first
    | (go_at_call 9; (with_reducible refine HM.out.mono ?_); rintro e w1 ⟨P, pc, l, rfl, hI, hcl, hb⟩; have H1 := Lib.hid hb; have HA := Lib.hid (all_star (pc := pc) hI hcl); clear hI hcl hb)
    | (go_at_call 19; (with_reducible refine HA.out.mono ?_); rintro e w2 ⟨Q, q, qc, rfl, hR, hb⟩; have H2 := Lib.hid hb; obtain rfl : q = 3 := hR.1.symm; have HS := Lib.hid (hsame_any _ Q (some ⟨w2.heap.size, 0, none⟩) 3 qc 3 (w2.alloc (.cells #[.int .i64 0, .int .i64 0, .int .i64 1, .int .i64 3, .int .i64 4, .int .i64 4] 35)) (hR.below ((Below.refl _ _).alloc (Nat.le_refl _) _)) (rowH_made rfl (heap_alloc_new w2 _)) (by decide)); clear hR hb)
    | (go_at_call 18; (with_reducible refine HS.out.mono ?_); rintro e w3 ⟨rfl, qq, rfl⟩))
  go_ret
  exact ⟨rfl, below_drewN ((H1.out.trans (H2.out.mono H1.out.size)).alloc (Nat.le_trans H1.out.size H2.out.size) _) qq⟩
end Go.Proofs.Ytegcebgoiocakaa
/- The document's matches: the walk. -/
namespace Go.Proofs.Ytegcebgoiocakaa
open Go Go.RowKit
set_option linter.unusedVariables false
set_option maxRecDepth 20000

def AllE (p : List InstL) (T : List Int) (w : World) (e : Ending) (w' : World) : Prop := ∃ P q pc hs, e = .returned (.slice P q pc) ∧ AllR p (rsT T) 0 none hs ∧ w'.ownsRow w.heap.size 35 2 (.slice P q pc) q (cellsG (hs.map (hitI T))) ∧ Below w.heap.size w w'
def gap (z : Nat) (v6 v7 : Value) : Nat := (2 * z + 4 - lenV v6) + 4 * (z + 1 - (intOf v7).toNat)
theorem row_hits {B : Nat} {w w' : World} {e : TypeId} {P : Option Addr} {q pc : Nat} {xs : List Value} (h : w.ownsRow B e 2 (.slice P q pc) q xs) (hb : Below w.heap.size w w') : w'.ownsRow B e 2 (.slice P q pc) q xs := row_keep h fun k hk _ => hb.block k hk
theorem own_down {w : World} {B B' : Nat} {e : TypeId} {k : Nat} {v : Value} {n : Nat} {xs : List Value} (h : w.ownsRow B e k v n xs) (hB : B' ≤ B) : w.ownsRow B' e k v n xs := by
  refine ⟨h.1, ?_⟩
  rcases h.2 with h | ⟨b, cap, cu, e, hb, rest⟩
  · exact .inl h
  · exact .inr ⟨b, cap, cu, e, Nat.le_trans hB hb, rest⟩
set_option maxHeartbeats 8000000 in
theorem rall_match {F : Nat → Prop} (A : Option Addr) (n c : Nat) (l : List IV) (T : ByteArray) (w : World) (hi0 : InsF F w A n l) (hr : rightB n l = true) (hset : ∀ v ∈ l, v.n ≤ 1000000) (hmn : (T.size + 1) * n ≤ 50000) (hT : T.size ≤ 1000) :
    Calls Try.prog 20 #[.slice A n c, .string T] w (AllE (l.map fun v => v.i) (nums T) w) := by
  have hnl := nums_length T
  have HO := Lib.hid (rof_any T w hT)
  have hrl := rsT_le (T := nums T)
  have HLo := Lib.hid fun (w2 : World) (hb : Below w.heap.size w w2) (a : Int) => rfirst_any A n c l T a w2 ((hi0.mono (F' := fun b => b < w.heap.size) fun b _ h => h).belowB hb) hr hset hmn hT
  have HN := Lib.hid (And.intro hnl hrl)
  clear hi0 hr hset hnl hrl hmn
  go_enter Try.func20, Try.ntmps20
  go_wp2_with (go_at_call 13; (with_reducible refine HO.out.mono ?_); rintro e w1 ⟨P, kt, pc, Q, m, qc, rfl, hTV, hb⟩; have H1 := Lib.hid (And.intro hTV hb); clear hTV hb)
  obtain ⟨W, hW⟩ : ∃ W, W = w1.alloc (.cells #[.slice P kt pc, .slice Q m qc] 30) := ⟨_, rfl⟩
  rw [← hW]
  have hbW : Below w1.heap.size w1 W := by rw [hW]; exact (Below.refl _ _).alloc (Nat.le_refl _) _
  obtain ⟨bq, hQ, hm, hbq, hAt⟩ := atRow H1.out.1.2
  have hbx : W.heap[w1.heap.size]? = some (.cells #[.slice P kt pc, .slice Q m qc] 30 (0, 0)) := by rw [hW]; exact hp_new rfl
  have hs1 : w.heap.size ≤ w1.heap.size := H1.out.2.size
  have hbT : Below w.heap.size w W := H1.out.2.trans (hbW.mono hs1)
  subst hQ; subst hm
  have hsz : w1.heap.size < W.heap.size := by rw [hW]; simp
  have HW := Lib.hid (And.intro hbT (And.intro hbx (And.intro (fun j hj => (hbW.cell (p := ⟨bq, j, none⟩) hbq).trans (hAt j hj)) (And.intro hsz (Nat.lt_of_lt_of_le hbq hbW.size)))))
  clear hbW hbq hAt hbx hbT hsz hW hs1
  go_loopw [6, 7] (fun v6 v7 wr => ∃ (P2 : Option Addr) (q pc2 : Nat) (fv : Int), v6 = .slice P2 q pc2 ∧ v7 = .int .i64 fv ∧ fv ≤ (T.size : Int) ∧ q ≤ 2 * T.size + 1 ∧ Hid (∃ k b hs, fv = (atF (nums T) k : Int) ∧ RInv (l.map fun v => v.i) (nums T) k b hs ∧ hs.length = q ∧ wr.ownsRow W.heap.size 35 2 (.slice P2 q pc2) q (cellsG (hs.map (hitI (nums T)))) ∧ Below W.heap.size W wr)) (fun v6 v7 _ => gap T.size v6 v7)
  case atStart => exact ⟨none, 0, 0, 0, rfl, rfl, by omega, by omega, Lib.hid ⟨0, none, [], rfl, RInv.begin, rfl, nilP _ _ _, Below.refl _ _⟩⟩
  case round =>
    obtain ⟨P2, q, pc2, fv, rfl, rfl, hfv, hq, H⟩ := hrel
    obtain ⟨k, b, hs, hfk, hR, hl, ho, hbr⟩ := H.out
    have HFi := Lib.hid (HLo.out wr (HW.out.1.trans (hbr.mono HW.out.1.size)) fv)
    have HR := Lib.hid (And.intro hfk (And.intro hR (And.intro hl (And.intro ho hbr))))
    clear hfk hR hl ho hbr H
    go_wp2_with (go_at_call 17; (with_reducible refine HFi.out.mono ?_); rintro e w3 ⟨x, y, ok, rfl, hv, hb3⟩; have H3 := Lib.hid (And.intro hv hb3); have H4 := Lib.hid (firstV_at HR.out.2.1.kl (HR.out.1 ▸ H3.out.1)); clear hv hb3; rcases H4.out with ⟨hh, rfl, hno⟩ | ⟨f, e2, hh, rfl, g1, g2, g3, g4, g5, g6⟩ <;> (injection hh with hx hy; subst hx; subst hy; clear H4))
    · go_ret
      obtain ⟨-, hR, -, ho, hb⟩ := HR.out
      have hb3 : Below wr.heap.size wr (w3.alloc (.cells #[.int .i64 0, .int .i64 0] 35)) := (H3.out.2).alloc H3.out.2.size _
      exact ⟨P2, q, pc2, hs, rfl, hR.over hno, own_down (row_hits ho hb3) HW.out.1.size, HW.out.1.trans ((hb.trans (hb3.mono hb.size)).mono HW.out.1.size)⟩
    · obtain ⟨X, hX⟩ : ∃ X, X = w3.alloc (.cells #[.int .i64 (atF (nums T) f : Int), .int .i64 (atF (nums T) e2 : Int)] 35) := ⟨_, rfl⟩
      rw [← hX]
      have hb3 : Below wr.heap.size wr X := by rw [hX]; exact (H3.out.2).alloc H3.out.2.size _
      have hbox : X.heap[w3.heap.size]? = some (.cells #[.int .i64 (atF (nums T) f : Int), .int .i64 (atF (nums T) e2 : Int)] 35 (0, 0)) := by rw [hX]; exact hp_new rfl
      obtain ⟨hfk, hR, hl, ho, hb⟩ := HR.out
      have hoX := row_hits ho hb3
      have hbX : Below W.heap.size W X := hb.trans (hb3.mono hb.size)
      obtain ⟨x0, x1, _, _⟩ := box_two hbox
      obtain ⟨av, hav⟩ : ∃ av : Int, av = (atF (nums T) f : Int) := ⟨_, rfl⟩
      obtain ⟨ev, hev⟩ : ∃ ev : Int, ev = (atF (nums T) e2 : Int) := ⟨_, rfl⟩
      rw [← hav] at x0
      rw [← hev] at x1
      have hbd := atF_max (T := nums T) g4
      have HG := Lib.hid (And.intro g1 (And.intro g2 (And.intro g3 (And.intro g4 (And.intro g5 g6)))))
      have HX := Lib.hid (And.intro hbX (And.intro hoX (And.intro hR (And.intro hl (And.intro hbox (And.intro hfk (And.intro hav (And.intro hev hbd))))))))
      have hszX : w3.heap.size < X.heap.size := by rw [hX]; simp
      have hXs : w3.heap.size ≤ X.heap.size := by omega
      have HSZ := Lib.hid (And.intro hszX (And.intro H3.out.2.size (And.intro hb.size hX)))
      clear hX hb3 hfk hR hl ho hb hoX hbX hav hev hbd g1 g2 g3 g4 g5 g6 hszX hXs H3 HFi
      by_cases hfe : av = ev
      · rcases q with _ | z
        · have HC := Lib.hid (show ¬ (e2 = f ∧ b = some f) from fun h => by
            have hl := HX.out.2.2.2.1
            have hb := HX.out.2.2.1.bl
            rw [List.eq_nil_of_length_eq_zero hl] at hb
            rw [hb] at h
            exact absurd h.2 (by simp))
          have d1 : (av == ev) = true := beq_iff_eq.2 hfe
          have d2 : decide (av = ev) = true := decide_eq_true hfe
          have HFE := Lib.hid hfe
          clear hfe
          go_quiet (fail)
          obtain ⟨Y, hY⟩ : ∃ Y, Y = X.drewN nq := ⟨_, rfl⟩
          rw [← hY]
          have hYh : Y.heap = X.heap := by rw [hY]; rfl
          have y0 : Y.cell? ⟨w3.heap.size, 0, none⟩ = some (.int .i64 av) := by unfold World.cell?; rw [hYh]; exact x0
          have y1 : Y.cell? ⟨w3.heap.size, 1, none⟩ = some (.int .i64 ev) := by unfold World.cell?; rw [hYh]; exact x1
          have hoY : Y.ownsRow W.heap.size 35 2 (.slice P2 0 pc2) 0 (cellsG (hs.map (hitI (nums T)))) := row_keep HX.out.2.1 fun k _ _ => by rw [hYh]
          have hbY : Below W.heap.size W Y := HX.out.1.trans ⟨by rw [hY]; rfl, by rw [hY]; rfl, by rw [hY]; rfl, by rw [hYh]; exact Nat.le_refl _, fun _ _ => by rw [hYh]⟩
          obtain ⟨P', pc', w4, happ, ho4, hb4, hk4⟩ := pushP 40 35 Try.underlying40 info_hit (w := Y.alloc (.cells #[.int .i64 av, .int .i64 ev] 35)) (B := W.heap.size) (row_keep hoY fun i hi _ => Below.heap_alloc Y _ i hi) [(av, ev)] (d := Y.heap.size) (hp_new rfl) (by omega) (by simp) (by have := hbY.size; simp; omega)
          have hb5 : Below W.heap.size W w4 := (hbY.alloc hbY.size _).trans hb4
          have hh4 : ∀ g, g < Y.heap.size → (Value.slice P2 0 pc2).ownBlock ≠ some g → w4.heap[g]? = Y.heap[g]? := fun g hg hne => (hk4 g (by simp; omega) hne).trans (Below.heap_alloc Y _ g hg)
          have z1 : w4.cell? ⟨w3.heap.size, 1, none⟩ = some (.int .i64 ev) := by
            have hlt : w3.heap.size < Y.heap.size := by rw [hYh]; exact HSZ.out.1
            have := hh4 _ hlt (fun e => by have := (row_lt HR.out.2.2.2.1 e).2; have := HSZ.out.2.1; omega)
            unfold World.cell?; rw [this]; exact y1
          have HAPP := Lib.hid happ
          have HN4 := Lib.hid (And.intro ho4 hb5)
          clear happ ho4 hb4 hk4 hb5 hY hYh hoY hbY hh4
          go_wp2_with (at_builtin; refine wpList_append_run rfl _ _ 40 rfl rfl _ _ _ _ rfl rfl HAPP.out ?_)
          have hf := HX.out
          have hG := HG.out
          have hP := hf.2.2.1.push hG.1 hG.2.1 hG.2.2.1 hG.2.2.2.1 hG.2.2.2.2.1 hG.2.2.2.2.2 HC.out
          have hkf := atF_le (T := nums T) hG.2.2.2.1 (Nat.le_trans hG.1 hG.2.2.1)
          have hfk := hf.2.2.2.2.2.1
          have hev := hf.2.2.2.2.2.2.2.1
          have hbd := hf.2.2.2.2.2.2.2.2
          have hnl := HN.out.1
          have hct := hP.cnt.1
          have hls := hf.2.2.2.1
          rw [List.length_append, List.length_singleton] at hct
          refine ⟨⟨P', 0 + 1, pc', ev, rfl, rfl, by omega, by omega, Lib.hid ⟨e2, some e2, hs ++ [(f, e2)], hev, hP, by simp [hls], ?_, HN4.out.2⟩⟩, ?_⟩
          · rw [List.map_append, List.map_singleton, show hitI (nums T) (f, e2) = (av, ev) by rw [hev, hf.2.2.2.2.2.2.1]; rfl]
            exact HN4.out.1
          · simp only [gap, lenV, intOf]
            omega
        · obtain ⟨⟨f', e'⟩, hy⟩ : ∃ y, hs[z]? = some y := ⟨_, List.getElem?_eq_getElem (by rw [HX.out.2.2.2.1]; omega)⟩
          have hbe : b = some e' := by
            rw [HX.out.2.2.1.bl, List.getLast?_eq_getElem?, HX.out.2.2.2.1, Nat.add_sub_cancel, hy]; rfl
          obtain ⟨pb, rfl, _, _, hpl, cA, cB0⟩ := pair_at HX.out.2.1 (j := z) (x := hitI (nums T) (f', e')) (by rw [List.getElem?_map, hy]; rfl)
          obtain ⟨le, hle⟩ : ∃ le : Int, le = (atF (nums T) e' : Int) := ⟨_, rfl⟩
          have cB : X.cell? ⟨pb, z * 2 + 1, none⟩ = some (.int .i64 le) := by rw [cB0, hle]; rfl
          have HLE := Lib.hid (And.intro hle hbe)
          have d1 : (av == ev) = true := beq_iff_eq.2 hfe
          have d2 : decide (av = ev) = true := decide_eq_true hfe
          have HFE := Lib.hid hfe
          clear hfe
          have hz1 : (z : Int) < (z : Int) + 1 := by omega
          have hz0 : (0 : Int) ≤ (z : Int) := by omega
          have hz2 : (0 : Int) < (z : Int) + 1 := by omega
          clear hle hbe cA cB0 hpl hy
          by_cases hce : le = ev
          · have e1 : (le == ev) = true := beq_iff_eq.2 hce
            have e2' : decide (le = ev) = true := decide_eq_true hce
            have HCE := Lib.hid hce
            clear hce
            go_quiet (fail)
            obtain ⟨Y, hY⟩ : ∃ Y, Y = X.drewN nq := ⟨_, rfl⟩
            rw [← hY]
            have hYh : Y.heap = X.heap := by rw [hY]; rfl
            have hbXY : Below X.heap.size X Y := ⟨by rw [hY]; rfl, by rw [hY]; rfl, by rw [hY]; rfl, by rw [hYh]; exact Nat.le_refl _, fun _ _ => by rw [hYh]⟩
            have HY := Lib.hid (And.intro hYh hbXY)
            clear hY hYh hbXY
            have hef : e2 = f ∧ b = some f := by
              have h1 := HFE.out
              have h2 := HX.out.2.2.2.2.2.2
              have h3 := HLE.out
              have h4 := HCE.out
              have hG := HG.out
              have : atF (nums T) f = atF (nums T) e2 := by omega
              have h5 := atF_inj hG.2.1 hG.2.2.2.1 this
              have h6 : e' ≤ (rsT (nums T)).length := by have := HX.out.2.2.1.bk e' h3.2; have := HX.out.2.2.1.kl; omega
              have : atF (nums T) e' = atF (nums T) e2 := by omega
              have h7 := atF_inj h6 hG.2.2.2.1 this
              exact ⟨h5.symm, by rw [h3.2, h7, h5]⟩
            have HEF := Lib.hid hef
            clear hef
            go_wp2_with fail
            go_loopw [7, 11] (fun v7 v11 wr2 => ∃ i : Nat, v11 = .int .i64 (i : Int) ∧ i ≤ (rsT (nums T)).length + 1 ∧ v7 = .int .i64 (if f + 1 < i then (atF (nums T) (f + 1) : Int) else -1) ∧ ∃ m, wr2 = Y.drewN m) (fun _ v11 _ => (rsT (nums T)).length + 1 - (intOf v11).toNat)
            case atStart => exact ⟨0, rfl, Nat.zero_le _, by rw [if_neg (by omega)], 0, rfl⟩
            case round =>
              obtain ⟨i, rfl, hi, rfl, m, rfl⟩ := hrel
              have hG := HG.out
              have hXo := HX.out
              have hY := HY.out
              have hbt : Y.heap[w1.heap.size]? = some (.cells #[.slice P kt pc, .slice (some ⟨bq, 0, none⟩) ((rsT (nums T)).length + 1) qc] 30 (0, 0)) := by rw [hY.1]; exact (hXo.1.block _ HW.out.2.2.2.1).trans HW.out.2.1
              obtain ⟨_, tB, _, _⟩ := box_two' hbt
              have hbh : Y.heap[w3.heap.size]? = some (.cells #[.int .i64 (atF (nums T) f : Int), .int .i64 (atF (nums T) e2 : Int)] 35 (0, 0)) := by rw [hY.1]; exact hXo.2.2.2.2.1
              obtain ⟨_, hB, _, _⟩ := box_two hbh
              have hev := hXo.2.2.2.2.2.2.2.1
              rw [← hev] at hB
              have hef := HEF.out
              have hev2 : ev = (atF (nums T) f : Int) := by rw [hev, hef.1]
              clear hbt hbh x0 x1 cB
              by_cases hlt : i < (rsT (nums T)).length + 1
              · have hiI : (i : Int) < ((rsT (nums T)).length : Int) + 1 := by omega
                have hi0 : (0 : Int) ≤ (i : Int) := by omega
                have cAt : Y.cell? ⟨bq, i, none⟩ = some (.int .i64 (atF (nums T) i : Int)) := by
                  have h1 := hXo.1.cell (p := ⟨bq, i, none⟩) HW.out.2.2.2.2
                  have h2 := HW.out.2.2.1 i (by omega)
                  unfold World.cell? at h1 h2 ⊢
                  rw [hY.1, h1]; exact h2
                obtain ⟨ai, hai⟩ : ∃ ai : Int, ai = (atF (nums T) i : Int) := ⟨_, rfl⟩
                rw [← hai] at cAt
                have hi1 : (i : Int) ≤ 1000 := by have := HN.out; omega
                have HAI := Lib.hid hai
                have HE2 := Lib.hid (And.intro hev2 hev)
                rcases Nat.lt_trichotomy i (f + 1) with h1 | h1 | h1
                · have hcmp : ¬ ev < ai := by have := atF_le (T := nums T) hG.2.1 (Nat.le_of_lt_succ h1); omega
                  have hcd : decide (ev < ai) = false := decide_eq_false hcmp
                  rw [if_neg (by omega)]
                  have H1 := Lib.hid h1
                  clear hcmp hG hXo hY hev hef hev2 hai h1
                  go_wp2
                  go_quiet (fail)
                  go_wp2
                  exact ⟨⟨i + 1, rfl, by omega, by rw [if_neg (by have := H1.out; omega)], _, rfl⟩, by simp [intOf]; omega⟩
                · have hcmp : ev < ai := by have := atF_lt (T := nums T) (i := f) (j := i) (by omega) (by omega); omega
                  rw [if_neg (by omega)]
                  have H1 := Lib.hid h1
                  clear hG hXo hY hev hef hev2 hai h1
                  go_wp2
                  go_quiet (fail)
                  go_wp2
                  refine ⟨⟨i + 1, rfl, by omega, ?_, _, rfl⟩, by simp [intOf]; omega⟩
                  rw [if_pos (by have := H1.out; omega), HAI.out, H1.out]
                · have hcmp : ev < ai := by have := atF_lt (T := nums T) (i := f) (j := i) (by omega) (by omega); omega
                  rw [if_pos h1]
                  have H1 := Lib.hid h1
                  clear hG hXo hY hev hef hev2 hai h1
                  go_wp2
                  go_quiet (fail)
                  go_wp2
                  exact ⟨⟨i + 1, rfl, by omega, by rw [if_pos (by have := H1.out; omega)], _, rfl⟩, by simp [intOf]; omega⟩
              · have hiI : ¬ (i : Int) < ((rsT (nums T)).length : Int) + 1 := by omega
                obtain rfl : i = (rsT (nums T)).length + 1 := by omega
                by_cases hfl : f = (rsT (nums T)).length
                · rw [if_neg (by omega)]
                  have HFL := Lib.hid hfl
                  clear hG hXo hY hev hef hev2 hfl
                  go_wp2
                  go_ret
                  have hX := HX.out
                  have hG := HG.out
                  have hef := HEF.out
                  have hbY : Below W.heap.size W (Y.drewN m) := below_drewN (hX.1.trans (HY.out.2.mono hX.1.size)) m
                  have hrow : (Y.drewN m).ownsRow W.heap.size 35 2 (.slice (some ⟨pb, 0, none⟩) (z + 1) pc2) (z + 1) (cellsG (hs.map (hitI (nums T)))) := row_keep hX.2.1 fun k _ _ => by show Y.heap[k]? = _; rw [HY.out.1]
                  exact ⟨some ⟨pb, 0, none⟩, z + 1, pc2, hs, rfl, hX.2.2.1.last hG.1 HFL.out (by have := hG.2.2.2.2.1; rwa [hef.1] at this) hG.2.2.2.2.2 hef.2, own_down hrow HW.out.1.size, HW.out.1.trans (hbY.mono HW.out.1.size)⟩
                · have hfl2 : f + 1 < (rsT (nums T)).length + 1 := by have := hG.2.1; omega
                  rw [if_pos hfl2]
                  have HFL := Lib.hid hfl2
                  clear hG hXo hY hev hef hev2 hfl hfl2
                  go_wp2
                  have hX := HX.out
                  have hG := HG.out
                  have hef := HEF.out
                  have hfl := HFL.out
                  have hbY : Below W.heap.size W (Y.drewN m) := below_drewN (hX.1.trans (HY.out.2.mono hX.1.size)) m
                  have hrow : (Y.drewN m).ownsRow W.heap.size 35 2 (.slice (some ⟨pb, 0, none⟩) (z + 1) pc2) (z + 1) (cellsG (hs.map (hitI (nums T)))) := row_keep hX.2.1 fun k _ _ => by show Y.heap[k]? = _; rw [HY.out.1]
                  have hP := hX.2.2.1.next hG.1 (by omega) (by have := hG.2.2.2.2.1; rwa [hef.1] at this) hG.2.2.2.2.2 hef.2
                  have hmx := atF_max (T := nums T) (show f + 1 ≤ (rsT (nums T)).length by omega)
                  have hlt := atF_lt (T := nums T) (i := k) (show f + 1 ≤ (rsT (nums T)).length by omega) (by have := hG.1; omega)
                  have hfk := hX.2.2.2.2.2.1
                  have hnl := HN.out.1
                  refine ⟨⟨some ⟨pb, 0, none⟩, z + 1, pc2, (atF (nums T) (f + 1) : Int), rfl, rfl, by omega, hq, Lib.hid ⟨f + 1, b, hs, rfl, hP, hX.2.2.2.1, hrow, hbY⟩⟩, ?_⟩
                  simp only [gap, lenV, intOf]
                  omega
          · have e1 : (le == ev) = false := beq_eq_false_iff_ne.2 hce
            have e2' : decide (le = ev) = false := decide_eq_false hce
            have HC := Lib.hid (show ¬ (e2 = f ∧ b = some f) from fun h => hce (by
              have h1 := HLE.out.1
              have h2 := HLE.out.2
              rw [h.2] at h2
              injection h2 with h2
              rw [h1, ← h2, HX.out.2.2.2.2.2.2.2.1, h.1]))
            go_quiet (fail)
            obtain ⟨Y, hY⟩ : ∃ Y, Y = X.drewN nq := ⟨_, rfl⟩
            rw [← hY]
            have hYh : Y.heap = X.heap := by rw [hY]; rfl
            have y0 : Y.cell? ⟨w3.heap.size, 0, none⟩ = some (.int .i64 av) := by unfold World.cell?; rw [hYh]; exact x0
            have y1 : Y.cell? ⟨w3.heap.size, 1, none⟩ = some (.int .i64 ev) := by unfold World.cell?; rw [hYh]; exact x1
            have hoY : Y.ownsRow W.heap.size 35 2 (.slice (some ⟨pb, 0, none⟩) (z + 1) pc2) (z + 1) (cellsG (hs.map (hitI (nums T)))) := row_keep HX.out.2.1 fun k _ _ => by rw [hYh]
            have hbY : Below W.heap.size W Y := HX.out.1.trans ⟨by rw [hY]; rfl, by rw [hY]; rfl, by rw [hY]; rfl, by rw [hYh]; exact Nat.le_refl _, fun _ _ => by rw [hYh]⟩
            obtain ⟨P', pc', w4, happ, ho4, hb4, hk4⟩ := pushP 40 35 Try.underlying40 info_hit (w := Y.alloc (.cells #[.int .i64 av, .int .i64 ev] 35)) (B := W.heap.size) (row_keep hoY fun i hi _ => Below.heap_alloc Y _ i hi) [(av, ev)] (d := Y.heap.size) (hp_new rfl) (by omega) (by simp) (by have := hbY.size; simp; omega)
            have hb5 : Below W.heap.size W w4 := (hbY.alloc hbY.size _).trans hb4
            have hh4 : ∀ g, g < Y.heap.size → (Value.slice (some ⟨pb, 0, none⟩) (z + 1) pc2).ownBlock ≠ some g → w4.heap[g]? = Y.heap[g]? := fun g hg hne => (hk4 g (by simp; omega) hne).trans (Below.heap_alloc Y _ g hg)
            have z1 : w4.cell? ⟨w3.heap.size, 1, none⟩ = some (.int .i64 ev) := by
              have hlt : w3.heap.size < Y.heap.size := by rw [hYh]; exact HSZ.out.1
              have := hh4 _ hlt (fun e => by have := (row_lt HR.out.2.2.2.1 e).2; have := HSZ.out.2.1; omega)
              unfold World.cell?; rw [this]; exact y1
            have HAPP := Lib.hid happ
            have HN4 := Lib.hid (And.intro ho4 hb5)
            clear happ ho4 hb4 hk4 hb5 hY hYh hoY hbY hh4
            go_wp2_with (at_builtin; refine wpList_append_run rfl _ _ 40 rfl rfl _ _ _ _ rfl rfl HAPP.out ?_)
            have hf := HX.out
            have hG := HG.out
            have hP := hf.2.2.1.push hG.1 hG.2.1 hG.2.2.1 hG.2.2.2.1 hG.2.2.2.2.1 hG.2.2.2.2.2 HC.out
            have hkf := atF_le (T := nums T) hG.2.2.2.1 (Nat.le_trans hG.1 hG.2.2.1)
            have hfk := hf.2.2.2.2.2.1
            have hev := hf.2.2.2.2.2.2.2.1
            have hbd := hf.2.2.2.2.2.2.2.2
            have hnl := HN.out.1
            have hct := hP.cnt.1
            have hls := hf.2.2.2.1
            rw [List.length_append, List.length_singleton] at hct
            refine ⟨⟨P', (z + 1) + 1, pc', ev, rfl, rfl, by omega, by omega, Lib.hid ⟨e2, some e2, hs ++ [(f, e2)], hev, hP, by simp [hls], ?_, HN4.out.2⟩⟩, ?_⟩
            · rw [List.map_append, List.map_singleton, show hitI (nums T) (f, e2) = (av, ev) by rw [hev, hf.2.2.2.2.2.2.1]; rfl]
              exact HN4.out.1
            · simp only [gap, lenV, intOf]
              omega
      · have d1 : (av == ev) = false := beq_eq_false_iff_ne.2 hfe
        have d2 : decide (av = ev) = false := decide_eq_false hfe
        have HC := Lib.hid (show ¬ (e2 = f ∧ b = some f) from fun h => hfe (by rw [HX.out.2.2.2.2.2.2.1, HX.out.2.2.2.2.2.2.2.1, h.1]))
        go_quiet (fail)
        obtain ⟨Y, hY⟩ : ∃ Y, Y = X.drewN nq := ⟨_, rfl⟩
        rw [← hY]
        have hYh : Y.heap = X.heap := by rw [hY]; rfl
        have y0 : Y.cell? ⟨w3.heap.size, 0, none⟩ = some (.int .i64 av) := by unfold World.cell?; rw [hYh]; exact x0
        have y1 : Y.cell? ⟨w3.heap.size, 1, none⟩ = some (.int .i64 ev) := by unfold World.cell?; rw [hYh]; exact x1
        have hoY : Y.ownsRow W.heap.size 35 2 (.slice P2 q pc2) q (cellsG (hs.map (hitI (nums T)))) := row_keep HX.out.2.1 fun k _ _ => by rw [hYh]
        have hbY : Below W.heap.size W Y := HX.out.1.trans ⟨by rw [hY]; rfl, by rw [hY]; rfl, by rw [hY]; rfl, by rw [hYh]; exact Nat.le_refl _, fun _ _ => by rw [hYh]⟩
        obtain ⟨P', pc', w4, happ, ho4, hb4, hk4⟩ := pushP 40 35 Try.underlying40 info_hit (w := Y.alloc (.cells #[.int .i64 av, .int .i64 ev] 35)) (B := W.heap.size) (row_keep hoY fun i hi _ => Below.heap_alloc Y _ i hi) [(av, ev)] (d := Y.heap.size) (hp_new rfl) (by omega) (by simp) (by have := hbY.size; simp; omega)
        have hb5 : Below W.heap.size W w4 := (hbY.alloc hbY.size _).trans hb4
        have hh4 : ∀ g, g < Y.heap.size → (Value.slice P2 q pc2).ownBlock ≠ some g → w4.heap[g]? = Y.heap[g]? := fun g hg hne => (hk4 g (by simp; omega) hne).trans (Below.heap_alloc Y _ g hg)
        have z1 : w4.cell? ⟨w3.heap.size, 1, none⟩ = some (.int .i64 ev) := by
          have hlt : w3.heap.size < Y.heap.size := by rw [hYh]; exact HSZ.out.1
          have := hh4 _ hlt (fun e => by have := (row_lt HR.out.2.2.2.1 e).2; have := HSZ.out.2.1; omega)
          unfold World.cell?; rw [this]; exact y1
        have HAPP := Lib.hid happ
        have HN4 := Lib.hid (And.intro ho4 hb5)
        clear happ ho4 hb4 hk4 hb5 hY hYh hoY hbY hh4
        go_wp2_with (at_builtin; refine wpList_append_run rfl _ _ 40 rfl rfl _ _ _ _ rfl rfl HAPP.out ?_)
        have hf := HX.out
        have hG := HG.out
        have hP := hf.2.2.1.push hG.1 hG.2.1 hG.2.2.1 hG.2.2.2.1 hG.2.2.2.2.1 hG.2.2.2.2.2 HC.out
        have hkf := atF_le (T := nums T) hG.2.2.2.1 (Nat.le_trans hG.1 hG.2.2.1)
        have hfk := hf.2.2.2.2.2.1
        have hev := hf.2.2.2.2.2.2.2.1
        have hbd := hf.2.2.2.2.2.2.2.2
        have hnl := HN.out.1
        have hct := hP.cnt.1
        have hls := hf.2.2.2.1
        rw [List.length_append, List.length_singleton] at hct
        refine ⟨⟨P', q + 1, pc', ev, rfl, rfl, by omega, by omega, Lib.hid ⟨e2, some e2, hs ++ [(f, e2)], hev, hP, by simp [hls], ?_, HN4.out.2⟩⟩, ?_⟩
        · rw [List.map_append, List.map_singleton, show hitI (nums T) (f, e2) = (av, ev) by rw [hev, hf.2.2.2.2.2.2.1]; rfl]
          exact HN4.out.1
        · simp only [gap, lenV, intOf]
          omega
end Go.Proofs.Ytegcebgoiocakaa
/- A program that came in: a list of instructions, each a struct of four fields, the sets too. -/
namespace Go.Proofs.Ytegcebgoiocakaa
open Go Go.RowKit Go.ChangeShapes Go.WideShapes Go.ChangeAt
set_option linter.unusedVariables false
set_option maxRecDepth 20000

/-- A program that came in, with its sets. -/
def InsS (w : World) (A : Option Addr) (n : Nat) (l : List IV) : Prop := InsAt w A n l ∧ ∀ v ∈ l, RowG w v.A v.n v.i.set
theorem InsS.insF {w : World} {A : Option Addr} {n : Nat} {l : List IV} (h : InsS w A n l) (hs : ∀ v ∈ l, v.n ≤ 2000000) : InsF (fun _ => True) w A n l := by
  refine ⟨h.1.1, fun hn => ?_, fun v hv => ⟨⟨h.2 v hv, fun _ _ _ _ => trivial⟩, hs v hv⟩⟩
  obtain ⟨b, o, hA, hlt, hc⟩ := h.1.2 hn
  exact ⟨b, o, hA, trivial, hlt, hc⟩
section
variable {H : Type} {enc : TypeId × Value → H} {W : World} {base : Nat} {held : Bool}
theorem ins_ofS {a : Option Addr} {len cap fuel : Nat} {x : DataW H × List MemPlace} (hf : DataW.trod enc Try.prog W base (fun _ => true) held fuel 23 [.slice a len cap] = some x) : ∃ xs, InsS W a len xs := by
  rcases Go.Deep.open_slice Try.underlying23 hf with ⟨hcs, _⟩ | ⟨ad, l, c, m, n, D, Pl, hcs, _, hl, hm, hmm, _, hel⟩
  · simp at hcs
    obtain ⟨rfl, rfl, rfl⟩ := hcs
    exact ⟨[], ⟨rfl, fun h => absurd h (by omega)⟩, by simp⟩
  · simp at hcs
    obtain ⟨rfl, rfl, rfl⟩ := hcs
    simp only [if_true] at hmm
    subst hmm
    rw [ins_cells] at hel
    have each : ∀ i, ∃ y : IV, i < m → W.cell? (ad.add (i * 4)) = some (.int .i64 y.i.op) ∧ W.cell? ((ad.add (i * 4)).add 1) = some (.slice y.A y.n y.c) ∧ W.cell? ((ad.add (i * 4)).add 2) = some (.int .i64 y.i.x) ∧ W.cell? ((ad.add (i * 4)).add 3) = some (.int .i64 y.i.y) ∧ RowG W y.A y.n y.i.set := by
      intro i
      by_cases hi : i < m
      · obtain ⟨cs', hc, ht⟩ := hel i hi
        obtain ⟨_, hcl, hat⟩ := World.cells?_some hc
        obtain ⟨ys, n', _, _, _, hyl, hfl⟩ := DataW.trod_struct Try.underlying45 ht
        match cs', hcl with
        | [c0, c1, c2, c3], _ =>
          match ys, hyl with
          | [y0, y1, y2, y3], _ =>
            have q0 : DataW.trod enc Try.prog W base (fun _ => true) held n' 3 [c0] = some y0 := by
              have h := hfl 0 _ rfl
              change DataW.trod enc Try.prog W base (fun _ => true) held n' 3 (List.take (Try.prog.cellsOf 3) [c0, c1, c2, c3]) = some y0 at h
              rw [ins_int] at h
              exact h
            have q1 : DataW.trod enc Try.prog W base (fun _ => true) held n' 43 [c1] = some y1 := by
              have h := hfl 1 _ rfl
              change DataW.trod enc Try.prog W base (fun _ => true) held n' 43 (List.take (Try.prog.cellsOf 43) [c1, c2, c3]) = some y1 at h
              rw [ins_set] at h
              exact h
            have q2 : DataW.trod enc Try.prog W base (fun _ => true) held n' 3 [c2] = some y2 := by
              have h := hfl 2 _ rfl
              change DataW.trod enc Try.prog W base (fun _ => true) held n' 3 (List.take (Try.prog.cellsOf 3) [c2, c3]) = some y2 at h
              rw [ins_int] at h
              exact h
            have q3 : DataW.trod enc Try.prog W base (fun _ => true) held n' 3 [c3] = some y3 := by
              have h := hfl 3 _ rfl
              change DataW.trod enc Try.prog W base (fun _ => true) held n' 3 (List.take (Try.prog.cellsOf 3) [c3]) = some y3 at h
              rw [ins_int] at h
              exact h
            obtain ⟨k, e0, _, _⟩ := DataW.trod_int Try.underlying3 q0
            obtain ⟨i2, e2, _, _⟩ := DataW.trod_int Try.underlying3 q2
            obtain ⟨i3, e3, _, _⟩ := DataW.trod_int Try.underlying3 q3
            obtain ⟨D', l', d', hc1⟩ : ∃ D' l' d', c1 = .slice D' l' d' := by
              rcases Go.Deep.open_slice Try.underlying43 q1 with ⟨hcs, _⟩ | ⟨ad', l', c', m', n'', D', Pl', hcs, _⟩
              · simp at hcs
                exact ⟨_, _, _, hcs⟩
              · simp at hcs
                exact ⟨_, _, _, hcs⟩
            obtain ⟨st, hst⟩ := rngs_of (hc1 ▸ q1)
            injection e0 with e0
            injection e2 with e2
            injection e3 with e3
            have a0 := hat 0 (by omega)
            have a1 := hat 1 (by omega)
            have a2 := hat 2 (by omega)
            have a3 := hat 3 (by omega)
            have hz : (ad.add (i * 4)).add 0 = ad.add (i * 4) := by simp [Addr.add]
            rw [hz] at a0
            refine ⟨⟨⟨k, st, i2, i3⟩, D', l', d'⟩, fun _ => ⟨?_, ?_, ?_, ?_, hst.1⟩⟩
            · rw [a0, e0]; rfl
            · rw [a1, hc1]; rfl
            · rw [a2, e2]; rfl
            · rw [a3, e3]; rfl
      · exact ⟨⟨⟨0, [], 0, 0⟩, none, 0, 0⟩, fun h => absurd h hi⟩
    obtain ⟨f, hfn⟩ := Classical.axiomOfChoice each
    refine ⟨(List.range len).map f, ⟨by simp, fun hn => ?_⟩, fun v hv => by
      obtain ⟨i, hi, rfl⟩ := List.mem_map.1 hv
      exact (hfn i (by have := List.mem_range.1 hi; omega)).2.2.2.2⟩
    obtain ⟨b, off, spot⟩ := ad
    obtain ⟨h0, _⟩ := hfn 0 (by omega)
    have hspot : spot = none := by simpa [Addr.add] using World.cell?_spot h0
    subst hspot
    refine ⟨b, off, rfl, World.block_lt_of_cell? W (⟨b, off, none⟩ : Addr) (by simpa [Addr.add] using h0), fun j v hv k u hu => ?_⟩
    have hj : j < len := by have := (List.getElem?_eq_some_iff.1 hv).1; simpa using this
    have hvf : v = f j := by
      rw [List.getElem?_map, List.getElem?_range hj] at hv
      injection hv with hv
      exact hv.symm
    subst hvf
    obtain ⟨g0, g1, g2, g3, _⟩ := hfn j (by omega)
    have hadd : ∀ (o i : Nat), (⟨b, o, none⟩ : Addr).add i = ⟨b, o + i, none⟩ := fun o i => by unfold Addr.add; split <;> simp_all
    simp only [hadd] at g0 g1 g2 g3
    have hk : k < 4 := (List.getElem?_eq_some_iff.1 hu).1
    rcases (show k = 0 ∨ k = 1 ∨ k = 2 ∨ k = 3 by omega) with rfl | rfl | rfl | rfl
    · injection hu with hu; subst hu; exact g0
    · injection hu with hu; subst hu; exact g1
    · injection hu with hu; subst hu; exact g2
    · injection hu with hu; subst hu; exact g3
end
end Go.Proofs.Ytegcebgoiocakaa
/- MatchAny: of any program all that is asked is the document's. -/
namespace Go.Proofs.Ytegcebgoiocakaa
open Go Go.RowKit
set_option linter.unusedVariables false
set_option maxRecDepth 20000

theorem AllR.len {p : List InstL} {rs : List Int} {k : Nat} {b : Option Nat} {l : List (Nat × Nat)} (h : AllR p rs k b l) : l.length ≤ 2 * (rs.length + 1 - k) + (if b = some k then 0 else 1) := by
  induction h with
  | stop h => simp
  | skip h _ _ ih =>
    refine Nat.le_trans ih ?_
    split <;> split <;> omega
  | take h hL hc _ ih =>
    rw [if_pos rfl] at ih
    have h1 := hL.1.le
    have h2 := hL.1.lt h
    rw [List.length_cons]
    rcases Nat.eq_or_lt_of_le h1 with h3 | h3
    · rw [if_neg (fun hb => hc ⟨h3.symm, hb⟩)]; omega
    · omega
theorem AllR.len1 {p : List InstL} {T : ByteArray} {l : List (Nat × Nat)} (h : AllR p (rsT (nums T)) 0 none l) (hT : T.size ≤ 1000) : l.length ≤ 3000 := by
  have h1 := h.len
  have h2 := rsT_le (T := nums T)
  rw [nums_length] at h2
  rw [if_neg (by simp)] at h1
  omega
theorem InsS.ofAt {w : World} {A : Option Addr} {n : Nat} {l : List IV} (h : InsS w A n l) (hs : ∀ v ∈ l, v.n ≤ 10) : InsF (fun _ => True) w A n l := h.insF fun v hv => Nat.le_trans (hs v hv) (by decide)
set_option maxHeartbeats 8000000 in
theorem any11 (A : Option Addr) (n c : Nat) (l : List IV) (T : ByteArray) (at_ : Int) (w : World) (h : InsS w A n l) :
    Calls Try.prog 5 #[.slice A n c, .string T, .int .i64 at_] w fun e w' => e = .returned (.bool true) ∧ Below w.heap.size w w' := by
  have HA := Lib.hid (awake11_any w)
  have HA2 := Lib.hid fun w => awake11_any w
  have HI := Lib.hid h
  clear h
  by_cases hbig : 20 < n ∨ 30 < T.size
  · have hdone : ∀ w1, Below w.heap.size w w1 → ∀ w2, Below w1.heap.size w1 w2 → Below w.heap.size w w2 := fun w1 h1 w2 h2 => h1.trans (h2.mono h1.size)
    by_cases h20 : 20 < n
    · have h1 : (20 : Int) < (n : Int) := by omega
      clear hbig h20
      go_enter Try.func5, Try.ntmps5
      go_wp2_with (first
        | (go_at_call 8; (with_reducible refine HA.out.mono ?_); rintro e w1 ⟨rfl, hb⟩; have HB := Lib.hid hb; clear hb)
        | (go_at_call 8; (with_reducible refine (HA2.out _).mono ?_); rintro e w2 ⟨rfl, hb⟩; have HB2 := Lib.hid hb; clear hb))
      go_ret
      exact ⟨rfl, hdone _ HB.out _ HB2.out⟩
    · have h1 : ¬ (20 : Int) < (n : Int) := by omega
      have h2 : (30 : Int) < (T.size : Int) := by omega
      clear hbig h20
      go_enter Try.func5, Try.ntmps5
      go_wp2_with (first
        | (go_at_call 8; (with_reducible refine HA.out.mono ?_); rintro e w1 ⟨rfl, hb⟩; have HB := Lib.hid hb; clear hb)
        | (go_at_call 8; (with_reducible refine (HA2.out _).mono ?_); rintro e w2 ⟨rfl, hb⟩; have HB2 := Lib.hid hb; clear hb))
      go_ret
      exact ⟨rfl, hdone _ HB.out _ HB2.out⟩
  · have h1 : ¬ (20 : Int) < (n : Int) := by omega
    have h2 : ¬ (30 : Int) < (T.size : Int) := by omega
    have HNT := Lib.hid (show n ≤ 20 ∧ T.size ≤ 30 by omega)
    clear hbig
    go_enter Try.func5, Try.ntmps5
    go_wp2_with (go_at_call 8; (with_reducible refine HA.out.mono ?_); rintro e w1 ⟨rfl, hb⟩; have HB := Lib.hid hb; clear hb)
    go_loopw [7] (fun v7 wr => ∃ i : Nat, v7 = .int .i64 (i : Int) ∧ i ≤ n ∧ Hid ((∀ j v, j < i → l[j]? = some v → v.n ≤ 10) ∧ wr = w1)) (fun v7 _ => n - (intOf v7).toNat)
    case atStart => exact ⟨0, rfl, Nat.zero_le _, Lib.hid ⟨fun j v hj => absurd hj (Nat.not_lt_zero _), rfl⟩⟩
    case round =>
      obtain ⟨i, rfl, hi, H⟩ := hrel
      obtain ⟨-, hww⟩ := H.out
      subst hww
      by_cases hlt : i < n
      · have h3 : (i : Int) < (n : Int) := by omega
        have h4 : (0 : Int) ≤ (i : Int) := by omega
        obtain ⟨v, hv⟩ : ∃ v, l[i]? = some v := ⟨_, List.getElem?_eq_getElem (by rw [HI.out.1.1]; exact hlt)⟩
        obtain ⟨b, o, rfl, _, hc⟩ := (HI.out.1.below HB.out).2 (by omega)
        have cS := hc i v hv 1 _ rfl
        by_cases h10 : 10 < v.n
        · have h5 : (10 : Int) < (v.n : Int) := by omega
          clear hc hv h10
          go_wp2
          go_ret
          exact ⟨rfl, HB.out⟩
        · have h5 : ¬ (10 : Int) < (v.n : Int) := by omega
          have HN := Lib.hid (fun j v' (hj : j < i + 1) (hv' : l[j]? = some v') => show v'.n ≤ 10 from by
            rcases Nat.eq_or_lt_of_le (Nat.le_of_lt_succ hj) with rfl | h
            · rw [hv] at hv'; injection hv' with hv'; subst hv'; omega
            · exact H.out.1 j v' h hv')
          clear hc hv h10
          go_wp2
          exact ⟨⟨i + 1, rfl, by omega, Lib.hid ⟨HN.out, trivial⟩⟩, by simp [intOf]; omega⟩
      · obtain rfl : i = n := by omega
        have hs10 : ∀ v ∈ l, v.n ≤ 10 := fun v hv => by
          obtain ⟨j, hj⟩ := List.getElem?_of_mem hv
          exact H.out.1 j v (by have := (List.getElem?_eq_some_iff.1 hj).1; rw [HI.out.1.1] at this; exact this) hj
        have hIF : ∀ w', Below w.heap.size w w' → InsF (fun b => b < w.heap.size) w' A i l := fun w' hb => (HI.out.ofAt hs10).mono (F' := fun b => b < w.heap.size) (fun b _ h => h) |>.belowB hb
        have hmn : (T.size + 1) * i ≤ 50000 := Nat.le_trans (Nat.mul_le_mul (show T.size + 1 ≤ 31 by have := HNT.out; omega) HNT.out.1) (by decide)
        have hT : T.size ≤ 1000 := by have := HNT.out; omega
        have hn : i ≤ 1000 := by have := HNT.out; omega
        have hset : ∀ v ∈ l, v.n ≤ 1000000 := fun v hv => Nat.le_trans (hs10 v hv) (by decide)
        have HRR := Lib.hid fun (w' : World) (hb : Below w.heap.size w w') => rright_any A i c l w' (HI.out.1.below hb) (by omega)
        by_cases hr : rightB i l = true
        · have C1 := Lib.hid fun (w' : World) (hb : Below w.heap.size w w') => all_match A i c l T w' (hIF w' hb) hr hn hT
          have C2 := Lib.hid fun (w' : World) (hb : Below w.heap.size w w') => long_match A i c l T at_ w' (hIF w' hb) hr hn hT
          have C3 := Lib.hid fun (w' : World) (hb : Below w.heap.size w w') => first_match A i c l T at_ w' (hIF w' hb) hr hn hT
          have D1 := Lib.hid fun (w' : World) (hb : Below w.heap.size w w') => rall_match A i c l T w' (hIF w' hb) hr hset hmn hT
          have D2 := Lib.hid fun (w' : World) (hb : Below w.heap.size w w') => rlong_any A i c l T at_ w' (hIF w' hb) hr hset hmn hT
          have D3 := Lib.hid fun (w' : World) (hb : Below w.heap.size w w') => rfirst_any A i c l T at_ w' (hIF w' hb) hr hset hmn hT
          rw [hr] at HRR
          clear hr hset hn hT hmn hIF hs10 hi hlt H
          go_wp2_with (first
            | (go_at_call 19; (with_reducible refine (C1.out _ HB.out).mono ?_); rintro e w2 ⟨P1, q1, p1, hs1, rfl, ha1, ho1, hb1⟩; have HB2 := Lib.hid (HB.out.trans (hb1.mono HB.out.size)); have E1 := Lib.hid ha1; have R2 := Lib.hid (rowH_own ho1); clear ha1 ho1 hb1)
            | (go_at_call 14; (with_reducible refine (C2.out _ HB2.out).mono ?_); rintro e w3 ⟨lv, lok, rfl, hl1, hb1⟩; have HB3 := Lib.hid (HB2.out.trans (hb1.mono HB2.out.size)); have E2 := Lib.hid hl1; have R3 := Lib.hid (R2.out.below hb1); clear hl1 hb1)
            | (go_at_call 16; (with_reducible refine (C3.out _ HB3.out).mono ?_); rintro e w4 ⟨fx, fy, fok, rfl, hf1, hb1⟩; have HB4 := Lib.hid (HB3.out.trans (hb1.mono HB3.out.size)); have E3 := Lib.hid hf1; have R4 := Lib.hid ((R3.out.below hb1).below ((Below.refl _ _).alloc (Nat.le_refl _) (.cells #[.int .i64 fx, .int .i64 fy] 35))); have HB5 := Lib.hid (HB4.out.alloc HB4.out.size (.cells #[.int .i64 fx, .int .i64 fy] 35)); have HBX := Lib.hid (heap_alloc_new w4 (.cells #[.int .i64 fx, .int .i64 fy] 35)); clear hf1 hb1)
            | (go_at_call 10; (with_reducible refine (HRR.out _ HB5.out).mono ?_); rintro e w5 ⟨rfl, hb1⟩; have HB6 := Lib.hid (HB5.out.trans (hb1.mono HB5.out.size)); have R5 := Lib.hid (R4.out.below hb1); have HX5 := Lib.hid ((hb1.block w4.heap.size (by simp)).trans HBX.out); clear hb1)
            | (go_at_call 15; (with_reducible refine (D2.out _ HB6.out).mono ?_); rintro e w6 ⟨rv, rok, rfl, hl2, hb1⟩; have HB7 := Lib.hid (HB6.out.trans (hb1.mono HB6.out.size)); obtain ⟨e1, e2⟩ := E2.out.uniq hl2; have R6 := Lib.hid (R5.out.below hb1); have HX6 := Lib.hid ((hb1.block w4.heap.size (Array.getElem?_eq_some_iff.1 HX5.out).1).trans HX5.out); subst e1; subst e2; clear hl2 hb1)
            | (go_at_call 17; (with_reducible refine (D3.out _ HB7.out).mono ?_); rintro e w7 ⟨gx, gy, gok, rfl, hf2, hb1⟩; have HB8 := Lib.hid (HB7.out.trans (hb1.mono HB7.out.size)); obtain ⟨e3, e4⟩ := E3.out.uniq hf2; have R7 := Lib.hid ((R6.out.below hb1).below ((Below.refl _ _).alloc (Nat.le_refl _) (.cells #[.int .i64 gx, .int .i64 gy] 35))); have HX7 := Lib.hid ((hb1.block w4.heap.size (Array.getElem?_eq_some_iff.1 HX6.out).1).trans HX6.out); injection e3 with e5 e6; subst e4; subst e5; subst e6; have HB9 := Lib.hid (HB8.out.alloc HB8.out.size (.cells #[.int .i64 fx, .int .i64 fy] 35)); have HX8 := Lib.hid (hp_old (o := .cells #[.int .i64 fx, .int .i64 fy] 35) HX7.out); have HG8 := Lib.hid (heap_alloc_new w7 (.cells #[.int .i64 fx, .int .i64 fy] 35)); clear hf2 hb1)
            | (go_at_call 20; (with_reducible refine (D1.out _ HB9.out).mono ?_); rintro e w8 ⟨P2, q2, p2, hs2, rfl, ha2, ho2, hb1⟩; have HB10 := Lib.hid (HB9.out.trans (hb1.mono HB9.out.size)); obtain rfl := E1.out.uniq ha2; have r1 := R7.out.below hb1; have r2 := rowH_own ho2; obtain rfl : q1 = q2 := r1.1.symm.trans r2.1; have HS := Lib.hid (hsame_any _ P1 P2 q1 p1 p2 w8 r1 r2 (by have h3 := ha2.len1 (by have := HNT.out; omega); have h4 := r1.1; rw [List.length_map] at h4; omega)); have hx := (hb1.block w4.heap.size (Array.getElem?_eq_some_iff.1 HX8.out).1).trans HX8.out; have hg := (hb1.block w7.heap.size (Array.getElem?_eq_some_iff.1 HG8.out).1).trans HG8.out; obtain ⟨x0, x1, _, _⟩ := box_two hx; obtain ⟨z0, z1, _, _⟩ := box_two hg; clear hx hg ha2 ho2 hb1 r1 r2)
            | (go_at_call 18; (with_reducible refine HS.out.mono ?_); rintro e w9 ⟨rfl, qq, rfl⟩))
          go_ret
          exact ⟨rfl, below_drewN HB10.out qq⟩
        · have hr : rightB i l = false := by simpa using hr
          have C1 := Lib.hid fun (w' : World) (hb : Below w.heap.size w w') => all_wrong A i c l T w' (HI.out.1.below hb) hr (by omega)
          have C2 := Lib.hid fun (w' : World) (hb : Below w.heap.size w w') => long_wrong A i c l T at_ w' (HI.out.1.below hb) hr (by omega)
          have C3 := Lib.hid fun (w' : World) (hb : Below w.heap.size w w') => first_wrong A i c l T at_ w' (HI.out.1.below hb) hr (by omega)
          rw [hr] at HRR
          clear hr hset hn hT hmn hIF hs10 hi hlt H
          go_wp2_with (first
            | (go_at_call 19; (with_reducible refine (C1.out _ HB.out).mono ?_); rintro e w2 ⟨rfl, hb1⟩; have HB2 := Lib.hid (HB.out.trans (hb1.mono HB.out.size)); clear hb1)
            | (go_at_call 14; (with_reducible refine (C2.out _ HB2.out).mono ?_); rintro e w3 ⟨rfl, hb1⟩; have HB3 := Lib.hid (HB2.out.trans (hb1.mono HB2.out.size)); clear hb1)
            | (go_at_call 16; (with_reducible refine (C3.out _ HB3.out).mono ?_); rintro e w4 ⟨rfl, hb1⟩; have HB4 := Lib.hid (HB3.out.trans (hb1.mono HB3.out.size)); have HB5 := Lib.hid (HB4.out.alloc HB4.out.size (.cells #[.int .i64 0, .int .i64 0] 35)); have HBX := Lib.hid (heap_alloc_new w4 (.cells #[.int .i64 0, .int .i64 0] 35)); clear hb1)
            | (go_at_call 10; (with_reducible refine (HRR.out _ HB5.out).mono ?_); rintro e w5 ⟨rfl, hb1⟩; have HB6 := Lib.hid (HB5.out.trans (hb1.mono HB5.out.size)); have hx := (hb1.block w4.heap.size (by simp)).trans HBX.out; obtain ⟨x0, x1, _, _⟩ := box_two hx; clear hx hb1))
          go_ret
          exact ⟨rfl, HB6.out⟩
end Go.Proofs.Ytegcebgoiocakaa
