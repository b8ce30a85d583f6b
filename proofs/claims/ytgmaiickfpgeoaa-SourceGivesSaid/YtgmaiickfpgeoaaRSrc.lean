/- The document's own source: its memory; New, Next; Texts. -/
import Derived.Test.YtgmaiickfpgeoaaSrcL
import Derived.Test.YtgmaiickfpgeoaaSrc
import Derived.Test.YtgmaiickfpgeoaaRCut
import Derived.BigQuiet
import Derived.BigRegion
namespace Go.Proofs.Ytgmaiickfpgeoaa
open Go Go.RowKit
set_option linter.unusedVariables false

/-- The document's source that lies in block g, its memory from B to U. -/
def RSrc (w : World) (B U g : Nat) (S : ByteArray) (given fail : Int) (es : List Int) : Prop :=
  B ≤ g ∧ g < U ∧ U ≤ w.heap.size ∧ ∃ V, w.heap[g]? = some (.cells #[.string S, .int .i64 given, .int .i64 fail, V] 36 (0, 0)) ∧ w.ownsRow (g + 1) 3 1 V es.length (es.map (.int .i64)) ∧ ∀ k, V.ownBlock = some k → k < U
section
variable {w w' : World} {B U g : Nat} {S : ByteArray} {given fail : Int} {es : List Int}
theorem RSrc.same (h : RSrc w B U g S given fail es) (hs : ∀ k, B ≤ k → k < U → w'.heap[k]? = w.heap[k]?) (hU : U ≤ w'.heap.size) : RSrc w' B U g S given fail es := by
  obtain ⟨h1, h2, h3, V, hg, ho, hV⟩ := h
  refine ⟨h1, h2, hU, V, (hs g h1 h2).trans hg, ⟨ho.1, ?_⟩, hV⟩
  rcases ho.2 with e | ⟨b, cap, cur, rfl, hb, hr, r⟩
  · exact .inl e
  · exact .inr ⟨b, cap, cur, rfl, hb, (hs b (by omega) (hV b rfl)).trans hr, r⟩
theorem RSrc.below (h : RSrc w B U g S given fail es) {C : Nat} (hb : Below C w w') (hC : U ≤ C) : RSrc w' B U g S given fail es :=
  h.same (fun k _ hk => hb.block k (by omega)) (Nat.le_trans h.2.2.1 hb.size)
theorem RSrc.touch (h : RSrc w B U g S given fail es) {C V : Nat} (hb : Touch C V w w') (hC : V ≤ B) : RSrc w' B U g S given fail es :=
  h.same (fun k h1 h2 => hb.2 k (by omega) (by have := h.2.2.1; omega)) (Nat.le_trans h.2.2.1 hb.1.size)
theorem RSrc.drewN (h : RSrc w B U g S given fail es) (q : Nat) : RSrc (w.drewN q) B U g S given fail es := h
theorem RSrc.c0 (h : RSrc w B U g S given fail es) : w.cell? ⟨g, 0, none⟩ = some (.string S) := by obtain ⟨_, _, _, V, hg, _⟩ := h; exact cell_of_row w g 0 _ _ (0, 0) hg
theorem RSrc.c1 (h : RSrc w B U g S given fail es) : w.cell? ⟨g, 1, none⟩ = some (.int .i64 given) := by obtain ⟨_, _, _, V, hg, _⟩ := h; exact cell_of_row w g 1 _ _ (0, 0) hg
theorem RSrc.c2 (h : RSrc w B U g S given fail es) : w.cell? ⟨g, 2, none⟩ = some (.int .i64 fail) := by obtain ⟨_, _, _, V, hg, _⟩ := h; exact cell_of_row w g 2 _ _ (0, 0) hg
theorem RSrc.c3 (h : RSrc w B U g S given fail es) : ∃ A c, w.cell? ⟨g, 3, none⟩ = some (.slice A es.length c) ∧ RowI .i64 w A es.length es := by
  obtain ⟨_, _, _, V, hg, ho, _⟩ := h
  obtain ⟨A, c, rfl, hr, _, _⟩ := row_of_own ho
  exact ⟨A, c, cell_of_row w g 3 _ _ (0, 0) hg, hr⟩
theorem RSrc.fz (h : RSrc w B U g S given fail es) (j : Nat) : w.frozen? ⟨g, j, none⟩ = false := by obtain ⟨_, _, _, V, hg, _⟩ := h; simp [World.frozen?, hg]
theorem RSrc.set1 (h : RSrc w B U g S given fail es) (G : Int) : RSrc (w.setCell ⟨g, 1, none⟩ (.int .i64 G)) B U g S G fail es := by
  obtain ⟨h1, h2, h3, V, hg, ho, hV⟩ := h
  exact ⟨h1, h2, by simpa [World.setCell] using h3, V, heap_setCell_same w g 1 _ _ _ hg, ownsRow_setCell_below ho (by simp) _, hV⟩
theorem RSrc.touch1 (h : RSrc w B U g S given fail es) (v : Value) : Touch B U w (w.setCell ⟨g, 1, none⟩ v) := (Touch.refl B U w).setCell (p := ⟨g, 1, none⟩) h.1 h.2.1 v
end

theorem endsP_get : ∀ (ps : List (List Int)) (a j : Nat), j < ps.length → (endsP a ps).getD j 0 = ((a + (ps.take (j + 1)).flatten.length : Nat) : Int)
  | [], a, j, h => by simp at h
  | p :: ps, a, 0, h => by simp [endsP]
  | p :: ps, a, j + 1, h => by
    have := endsP_get ps (a + p.length) j (by simpa using h)
    rw [endsP, List.take_succ_cons, List.flatten_cons, List.length_append, ← Nat.add_assoc]
    simpa [List.getD] using this
theorem stopP_at : ∀ (ps : List (List Int)) (j n : Nat), (ps.take j).flatten.length ≤ n → n < (ps.take (j + 1)).flatten.length → stopP n ps = (ps.take (j + 1)).flatten.length
  | [], j, n, h1, h2 => by simp at h2
  | p :: ps, 0, n, h1, h2 => by
    simp at h2
    rw [stopP, if_pos (by omega)]
    simp
  | p :: ps, j + 1, n, h1, h2 => by
    rw [List.take_succ_cons, List.flatten_cons, List.length_append] at h1 h2 ⊢
    rw [stopP, if_neg (by omega), stopP_at ps j (n - p.length) (by omega) (by omega)]

theorem flat_of_take (ps : List (List Int)) (j : Nat) (h : j < ps.length) : (ps.take (j + 1)).flatten.length = (ps.take j).flatten.length + (ps.getD j []).length := by
  rw [List.take_add_one, List.flatten_append, List.length_append]
  simp [List.getD, List.getElem?_eq_getElem h]

set_option maxHeartbeats 1000000 in
theorem rnew_any (zs xs : List Int) (D : Option Addr) (m d : Nat) (fail : Int) (W : World) (hn : xs.length ≤ 1000) (hz : RowI .i64 W D m zs) (hm : m ≤ 1000) :
    Calls Try.prog 9 #[.string (strOfNums xs), .int .i64 fail, .slice D m d] W fun e w' => e = .returned (.pointer (some ⟨W.heap.size, 0, none⟩)) ∧ RSrc w' W.heap.size w'.heap.size W.heap.size (strOfNums xs) 0 fail (endsP 0 (cutL zs xs 0)) ∧ Below W.heap.size W w' := by
  obtain ⟨S, hS⟩ : ∃ S, S = strOfNums xs := ⟨_, rfl⟩
  obtain ⟨W1, hW1⟩ : ∃ W1, W1 = W.alloc (.cells #[.string S, .int .i64 0, .int .i64 fail, .slice none 0 0] 36) := ⟨_, rfl⟩
  have hb1 : Below W.heap.size W W1 := by rw [hW1]; exact (Below.refl _ _).alloc (Nat.le_refl _) _
  have hs1 : W1.heap.size = W.heap.size + 1 := by rw [hW1]; simp
  have hcells : W1.heap[W.heap.size]? = some (.cells #[.string S, .int .i64 0, .int .i64 fail, .slice none 0 0] 36 (0, 0)) := by rw [hW1]; exact heap_alloc_new W _
  have hc := rcut_any zs xs D m d W1 hn (hz.below hb1 (Nat.le_refl _)) hm
  rw [← hS] at hc ⊢
  have hlen := cutL_length zs xs 0
  have hflat := cutL_flatten zs xs 0
  obtain ⟨ps, hps⟩ : ∃ ps, ps = cutL zs xs 0 := ⟨_, rfl⟩
  rw [← hps] at hc hlen hflat ⊢
  obtain ⟨K, hK⟩ : ∃ K, K = ps.length := ⟨_, rfl⟩
  rw [← hK] at hc hlen
  have hk : K ≤ 1000 := by omega
  have HC := Lib.hid hc; clear hc
  have HB := Lib.hid hb1; clear hb1
  have HCE := Lib.hid hcells; clear hcells
  have HK := Lib.hid hK; clear hK
  have hft : ps.flatten.length ≤ 1000 := by rw [hflat]; exact hn
  have HFT := Lib.hid hft; clear hft
  clear hz hflat hps hS hlen
  go_enter Try.func9, Try.ntmps9
  go_wp2_with fail
  rw [← hW1]
  clear hW1
  refine HC.out.mono ?_; rintro e w2 ⟨V, rfl, hown, hb2⟩
  obtain ⟨P, pc, rfl, _, _, _, _⟩ := own_cells hown
  have hg2 := (hb2.block W.heap.size (by omega)).trans HCE.out
  have ho2 : w2.ownsRow (W.heap.size + 1) 9 1 (.slice P K pc) K ((ps.map strOfNums).map .string) := own_mono1 hown (by omega)
  have hbW2 : Below W.heap.size W w2 := HB.out.trans (Below.mono hb2 (by omega))
  clear hown hb2
  have HG2 := Lib.hid hg2; clear hg2
  have HO2 := Lib.hid ho2; clear ho2
  go_wp2_with fail
  go_loopw [9, 10] (fun va vi wr => ∃ (q t : Nat) (E : Option Addr) (ec : Nat), q ≤ K ∧ vi = .int .i64 (q : Int) ∧ va = .int .i64 (t : Int) ∧ Hid (t = (ps.take q).flatten.length) ∧
    Hid (wr.heap[W.heap.size]? = some (.cells #[.string S, .int .i64 0, .int .i64 fail, .slice E q ec] 36 (0, 0))) ∧ Hid (wr.ownsRow (W.heap.size + 1) 3 1 (.slice E q ec) q ((endsP 0 (ps.take q)).map (.int .i64))) ∧
    Hid (wr.ownsRow (W.heap.size + 1) 9 1 (.slice P K pc) K ((ps.map strOfNums).map .string)) ∧ Below W.heap.size W wr) (fun _ vi _ => K - (intOf vi).toNat)
  case atStart => exact ⟨0, 0, none, 0, by omega, rfl, rfl, Lib.hid rfl, HG2, Lib.hid (World.ownsRow_nil _ _ _ _), HO2, hbW2⟩
  case round =>
    obtain ⟨q, t, E, ec, hq, rfl, rfl, HT, HG, HE, HP, hb⟩ := hrel
    by_cases hlt : q < K
    · have hql : q < ps.length := by rw [← HK.out]; exact hlt
      have hft := flat_of_take ps q hql
      have htot : (ps.take (q + 1)).flatten.length ≤ 1000 := by
        have h1 := HFT.out
        rw [← List.take_append_drop (q + 1) ps, List.flatten_append, List.length_append] at h1
        omega
      obtain ⟨L, hL⟩ : ∃ L, L = (ps.getD q []).length := ⟨_, rfl⟩
      rw [← hL, ← HT.out] at hft
      obtain ⟨P0, pc0, hP, _, _, hPn, hPc⟩ := own_cells HP.out
      injection hP with e1 e2 e3
      subst e1; subst e3
      rcases P with _ | aP
      · have := (hPn rfl).1; omega
      · obtain ⟨gP, rfl, hgP, hgl, hcP, _⟩ := hPc aP rfl
        have hce := hcP q (.string (strOfNums (ps.getD q []))) (by simp [List.getD, List.getElem?_eq_getElem hql])
        have hsz : (strOfNums (ps.getD q [])).size = L := by rw [size_strOfNums, hL]
        obtain ⟨T, hTT⟩ : ∃ T, T = strOfNums (ps.getD q []) := ⟨_, rfl⟩
        rw [← hTT] at hce hsz
        have k3 : wr.cell? ⟨W.heap.size, 3, none⟩ = some (.slice E q ec) := cell_of_row wr W.heap.size 3 _ _ (0, 0) HG.out
        have hes : endsP 0 (ps.take (q + 1)) = endsP 0 (ps.take q) ++ [((t + L : Nat) : Int)] := by
          have e1 : ps.take (q + 1) = ps.take q ++ [ps.getD q []] := by
            rw [List.take_add_one]
            simp [List.getD, List.getElem?_eq_getElem hql]
          rw [e1, endsP_append, Nat.zero_add, ← HT.out, ← hL]
        obtain ⟨V', w3, happ, hown3, hg3⟩ := push_run 23 3 _ 8 Try.underlying23 info_int rfl wr (W.heap.size + 1) _ q _ HE.out (.int .i64 ((t + L : Nat) : Int)) rfl (by omega) (by unfold maxLen; omega) (by have := (Array.getElem?_eq_some_iff.1 HG.out).1; omega)
        have hwg := (Array.getElem?_eq_some_iff.1 HG.out).1
        have hb3 : Below W.heap.size W w3 := (hb.alloc hb.size _).grown hg3 (by have := hb.size; simp; omega) (by intro k hk; have := (HE.out.lt k hk).1; omega)
        have hP3 : w3.ownsRow (W.heap.size + 1) 9 1 (.slice (some ⟨gP, 0, none⟩) K pc) K ((ps.map strOfNums).map .string) := own_other (own_alloc HP.out _) (own_alloc HE.out _) (by decide) hg3
        have hG3 : w3.heap[W.heap.size]? = some (.cells #[.string S, .int .i64 0, .int .i64 fail, .slice E q ec] 36 (0, 0)) := by
          rw [hg3.block W.heap.size (by simp; omega) (by intro e; have := (HE.out.lt _ e.symm).1; omega), Below.heap_alloc wr _ _ hwg]
          exact HG.out
        obtain ⟨E', ec', rfl, _, _, _, _⟩ := own_cells hown3
        have f3 : w3.frozen? ⟨W.heap.size, 3, none⟩ = false := by simp [World.frozen?, hG3]
        have k33 : w3.cell? ⟨W.heap.size, 3, none⟩ = some (.slice E q ec) := cell_of_row w3 W.heap.size 3 _ _ (0, 0) hG3
        have hfin : Hid (Hid ((w3.setCell ⟨W.heap.size, 3, none⟩ (.slice E' (q + 1) ec')).heap[W.heap.size]? = some (.cells #[.string S, .int .i64 0, .int .i64 fail, .slice E' (q + 1) ec'] 36 (0, 0))) ∧ Hid ((w3.setCell ⟨W.heap.size, 3, none⟩ (.slice E' (q + 1) ec')).ownsRow (W.heap.size + 1) 3 1 (.slice E' (q + 1) ec') (q + 1) ((endsP 0 (ps.take (q + 1))).map (.int .i64))) ∧
            Hid ((w3.setCell ⟨W.heap.size, 3, none⟩ (.slice E' (q + 1) ec')).ownsRow (W.heap.size + 1) 9 1 (.slice (some ⟨gP, 0, none⟩) K pc) K ((ps.map strOfNums).map .string)) ∧ Below W.heap.size W (w3.setCell ⟨W.heap.size, 3, none⟩ (.slice E' (q + 1) ec'))) := by
          refine ⟨heap_setCell_same w3 W.heap.size 3 _ _ _ hG3, ?_, ownsRow_setCell_below hP3 (by simp) _, hb3.setCell (p := ⟨W.heap.size, 3, none⟩) (Nat.le_refl _) _⟩
          refine ownsRow_setCell_below ?_ (by simp) _
          rw [hes]
          simpa using hown3
        have HA := Lib.hid happ; clear happ
        have hadd : IntKind.i64.wrap ((t : Int) + (L : Int)) = ((t + L : Nat) : Int) := by rw [IntKind.wrap_i64]; omega
        have HTT := Lib.hid hTT; clear hTT
        have HES := Lib.hid hes; clear hes
        have HL := Lib.hid hL; clear hL
        clear hown3 hg3 hb3 hP3 hG3 hcP hPc hPn
        go_wp2_with (at_builtin; refine wpList_append_run rfl _ _ 23 rfl rfl _ _ _ _ rfl rfl HA.out ?_)
        refine ⟨⟨q + 1, t + L, E', ec', by omega, by go_num, rfl, Lib.hid (by omega), hfin.out.1, hfin.out.2.1, hfin.out.2.2.1, hfin.out.2.2.2⟩, by simp [intOf]; omega⟩
    · obtain rfl : q = K := by omega
      go_wp2
      go_ret
      have hlt2 := HE.out.lt
      have h1 := HE.out
      rw [List.take_of_length_le (by rw [← HK.out]; exact Nat.le_refl _)] at h1
      refine ⟨rfl, ⟨Nat.le_refl _, (Array.getElem?_eq_some_iff.1 HG.out).1, Nat.le_refl _, _, HG.out, ?_, fun k hk => (hlt2 k hk).2⟩, hb⟩
      rw [endsP_length, ← HK.out]
      exact h1
end Go.Proofs.Ytgmaiickfpgeoaa
