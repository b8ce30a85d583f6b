/- The contract of source.New. -/
import Derived.Test.YtgmaiickfpgeoaaSrc
import Derived.Test.YtgmaiickfpgeoaaCut
import Derived.BigRegion
namespace Go.Proofs.Ytgmaiickfpgeoaa
open Go Go.RowKit
set_option linter.unusedVariables false

/-- Of what the pieces' rows and their list are, the source's memory. -/
theorem src_made {w : World} {g : Nat} {V : Value} {vs : List Value} {ps : List (List Int)} {e left : Int} (hown : w.ownsRow (g + 1) 22 1 V ps.length vs) (hpc : Pieces w (g + 1) vs ps) (hf : Full ps) (hl : ∀ p ∈ ps, p.length ≤ 1000) (hn : ps.length ≤ 1000)
    (hg : w.heap[g]? = some (.cells #[V, .int .i64 e, .int .i64 0, .int .i64 left] 48 (0, 0))) : Src w g w.heap.size g ps e 0 left := by
  have hglt : g < w.heap.size := (Array.getElem?_eq_some_iff.1 hg).1
  rcases hown.2 with ⟨rfl, h2⟩ | ⟨gl, cap, cur, rfl, hB, hgl, hnc, hcm, hcs, ht⟩
  · refine ⟨Nat.le_refl _, hglt, Nat.le_refl _, none, 0, by rw [h2]; exact hg, by omega, Nat.zero_le _, by omega, fun h0 => by omega⟩
  · refine ⟨Nat.le_refl _, hglt, Nat.le_refl _, _, cap, hg, hnc, hcm, hn, fun h0 => ⟨gl, 0, cur, rfl, by omega, by omega, (Array.getElem?_eq_some_iff.1 hgl).1, hgl, fun j p hj => ?_⟩⟩
    have hjl : j < ps.length := by
      rcases Nat.lt_or_ge j ps.length with h1 | h1
      · exact h1
      · rw [List.getElem?_eq_none h1] at hj; cases hj
    have hjv : j < vs.length := by have := hpc.1; omega
    have ho := hpc.2 j vs[j] p (List.getElem?_eq_getElem hjv) hj
    have hm : p ∈ ps := List.mem_of_getElem? hj
    have hp0 := hf p hm
    have hp1 := hl p hm
    refine ⟨vs[j], ?_, ?_⟩
    · have h1 : (cur.toList.take (ps.length * 1))[j]? = vs[j]? := by rw [ht]
      rw [List.getElem?_take_of_lt (by omega), Array.getElem?_toList] at h1
      rw [Nat.zero_add, h1, List.getElem?_eq_getElem hjv]
    · obtain ⟨A, c, hv, hr, hc1, hc2⟩ := row_of_own ho
      rcases ho.2 with ⟨e1, e2⟩ | ⟨b, cap', cur', hv', hbB, hb, _⟩
      · omega
      · rw [hv'] at hv
        injection hv with e1 e2 e3
        subst e1; subst e3
        refine ⟨b, 0, cap', hv', hc1, hc2, hp0, hp1, hr, by omega, (Array.getElem?_eq_some_iff.1 hb).1, by omega, ?_⟩
        rintro rfl
        rw [hgl] at hb
        injection hb with hb
        injection hb with _ ht2 _
        exact absurd ht2 (by decide)

set_option maxHeartbeats 1000000 in
/-- A source that doesn't fail. -/
theorem new_whole (zs xs : List Int) (A D : Option Addr) (n c m d : Nat) (fail : Int) (W : World) (hr : RowI .u8 W A n xs) (hn : n ≤ 1000) (hnc : n ≤ c) (hcm : c ≤ maxLen) (hnil : A = none → n = 0 ∧ c = 0) (hz : RowI .i64 W D m zs) (hm : m ≤ 1000) (hf : fail < 0 ∨ (n : Int) < fail) :
    Calls Try.prog 8 #[.slice A n c, .int .i64 fail, .slice D m d] W fun e w' => e = .returned (.pointer (some ⟨W.heap.size, 0, none⟩)) ∧ Src w' W.heap.size w'.heap.size W.heap.size (cutL zs xs 0) 19 0 (n : Int) ∧ Below W.heap.size W w' := by
  obtain ⟨W1, hW1⟩ : ∃ W1, W1 = W.alloc (.cells #[.slice none 0 0, .int .i64 19, .int .i64 0, .int .i64 (n : Int)] 48) := ⟨_, rfl⟩
  have hb1 : Below W.heap.size W W1 := by rw [hW1]; exact (Below.refl _ _).alloc (Nat.le_refl _) _
  have hs1 : W1.heap.size = W.heap.size + 1 := by rw [hW1]; simp
  have hc := cut_any zs xs A D n c m d W1 (hr.below hb1 (Nat.le_refl _)) hn hnc hcm hnil (hz.below hb1 (Nat.le_refl _)) hm
  have hcells : W1.heap[W.heap.size]? = some (.cells #[.slice none 0 0, .int .i64 19, .int .i64 0, .int .i64 (n : Int)] 48 (0, 0)) := by rw [hW1]; exact heap_alloc_new W _
  have hlen := hr.1
  have HC := Lib.hid hc; clear hc
  have HB := Lib.hid hb1; clear hb1
  have HCE := Lib.hid hcells; clear hcells
  have HLEN := Lib.hid hlen; clear hlen
  clear hr hz hnil
  have hstep : ∀ w2 V vs, w2.ownsRow W1.heap.size 22 1 V (cutL zs xs 0).length vs → Pieces w2 W1.heap.size vs (cutL zs xs 0) → Below W1.heap.size W1 w2 →
      w2.cell? ⟨W.heap.size, 0, none⟩ = some (.slice none 0 0) ∧ w2.frozen? ⟨W.heap.size, 0, none⟩ = false ∧ Src (w2.setCell ⟨W.heap.size, 0, none⟩ V) W.heap.size (w2.setCell ⟨W.heap.size, 0, none⟩ V).heap.size W.heap.size (cutL zs xs 0) 19 0 (n : Int) ∧ Below W.heap.size W (w2.setCell ⟨W.heap.size, 0, none⟩ V) := by
    intro w2 V vs ho hp hb
    have hg2 := (hb.block W.heap.size (by omega)).trans HCE.out
    refine ⟨cell_of_row w2 W.heap.size 0 _ _ (0, 0) hg2, by simp [World.frozen?, hg2], ?_, (HB.out.trans (Below.mono hb (by omega))).setCell (p := ⟨W.heap.size, 0, none⟩) (Nat.le_refl _) _⟩
    have hlx : (cutL zs xs 0).length ≤ 1000 := Nat.le_trans (cutL_length zs xs 0) (by have := HLEN.out; omega)
    have e1 : (w2.setCell ⟨W.heap.size, 0, none⟩ V).heap[W.heap.size]? = some (.cells #[V, .int .i64 19, .int .i64 0, .int .i64 (n : Int)] 48 (0, 0)) := heap_setCell_same w2 W.heap.size 0 _ _ _ hg2
    refine src_made (ownsRow_setCell_below (own_mono1 ho (by omega)) (by simp) _) ?_ (cutL_full zs xs 0) (fun p hp => by have := (cutL_piece zs xs 0 p hp).2.1; have := HLEN.out; omega) hlx e1
    exact ⟨hp.1, fun i v p h1 h2 => ownsRow_setCell_below (own_mono1 (hp.2 i v p h1 h2) (by omega)) (by simp) _⟩
  have HST := Lib.hid hstep; clear hstep
  rcases hf with hf | hf
  · have hd : decide (0 ≤ fail) = false := by simp; omega
    go_enter Try.func8, Try.ntmps8
    go_wp2_with fail
    rw [← hW1]
    clear hW1
    refine HC.out.mono ?_; rintro e' w2 ⟨V, vs, rfl, hown, hpc, hb⟩
    obtain ⟨hce, hfz, hsrc, hbl⟩ := HST.out w2 V vs hown hpc hb
    obtain ⟨A2, c2, rfl, _, _, _, _⟩ := own_cells hown
    have HS := Lib.hid hsrc; clear hsrc
    have HBL := Lib.hid hbl; clear hbl
    clear hown hpc hb
    go_wp2_with fail
    go_ret
    exact ⟨rfl, HS.out, HBL.out⟩
  · have hd : decide (0 ≤ fail) = true := by simp; omega
    have hd2 : decide (fail ≤ (n : Int)) = false := by simp; omega
    go_enter Try.func8, Try.ntmps8
    go_wp2_with fail
    rw [← hW1]
    clear hW1
    refine HC.out.mono ?_; rintro e' w2 ⟨V, vs, rfl, hown, hpc, hb⟩
    obtain ⟨hce, hfz, hsrc, hbl⟩ := HST.out w2 V vs hown hpc hb
    obtain ⟨A2, c2, rfl, _, _, _, _⟩ := own_cells hown
    have HS := Lib.hid hsrc; clear hsrc
    have HBL := Lib.hid hbl; clear hbl
    clear hown hpc hb
    go_wp2_with fail
    go_ret
    exact ⟨rfl, HS.out, HBL.out⟩

set_option maxHeartbeats 1000000 in
/-- A source that fails behind F octets. -/
theorem new_fails (zs xs : List Int) (A D : Option Addr) (n c m d F : Nat) (W : World) (hr : RowI .u8 W A n xs) (hn : n ≤ 1000) (hnc : n ≤ c) (hcm : c ≤ maxLen) (hnil : A = none → n = 0 ∧ c = 0) (hz : RowI .i64 W D m zs) (hm : m ≤ 1000) (hF : F ≤ n) :
    Calls Try.prog 8 #[.slice A n c, .int .i64 (F : Int), .slice D m d] W fun e w' => e = .returned (.pointer (some ⟨W.heap.size, 0, none⟩)) ∧ Src w' W.heap.size w'.heap.size W.heap.size (cutL zs (xs.take F) 0) 11 0 (n : Int) ∧ Below W.heap.size W w' := by
  obtain ⟨W0, hW0⟩ : ∃ W0, W0 = W.alloc (.cells #[.slice none 0 0, .int .i64 19, .int .i64 0, .int .i64 (n : Int)] 48) := ⟨_, rfl⟩
  have hc0 : W0.heap[W.heap.size]? = some (.cells #[.slice none 0 0, .int .i64 19, .int .i64 0, .int .i64 (n : Int)] 48 (0, 0)) := by rw [hW0]; exact heap_alloc_new W _
  have hfz1 : W0.frozen? ⟨W.heap.size, 1, none⟩ = false := by simp [World.frozen?, hc0]
  have hce1 : W0.cell? ⟨W.heap.size, 1, none⟩ = some (.int .i64 19) := cell_of_row W0 W.heap.size 1 _ _ (0, 0) hc0
  have hb0 : Below W.heap.size W W0 := by rw [hW0]; exact (Below.refl _ _).alloc (Nat.le_refl _) _
  have hs0 : W0.heap.size = W.heap.size + 1 := by rw [hW0]; simp
  obtain ⟨W1, hW1⟩ : ∃ W1, W1 = (W0.setCell ⟨W.heap.size, 1, none⟩ (.int .i64 11)).drew := ⟨_, rfl⟩
  have hb1 : Below W.heap.size W W1 := by rw [hW1]; exact (hb0.setCell (p := ⟨W.heap.size, 1, none⟩) (Nat.le_refl _) _).drew
  have hcells : W1.heap[W.heap.size]? = some (.cells #[.slice none 0 0, .int .i64 11, .int .i64 0, .int .i64 (n : Int)] 48 (0, 0)) := by rw [hW1]; exact heap_setCell_same W0 W.heap.size 1 _ _ _ hc0
  have hs1 : W1.heap.size = W.heap.size + 1 := by rw [hW1, ← hs0]; simp [World.setCell, World.drew]
  have hc := cut_any zs (xs.take F) A D F c m d W1 ((hr.to hF).below hb1 (Nat.le_refl _)) (by omega) (by omega) hcm (fun h => by have := hnil h; omega) (hz.below hb1 (Nat.le_refl _)) hm
  have hlen := hr.1
  have hup := fun w => slice_upto A n c F (by omega) w
  have HC := Lib.hid hc; clear hc
  have HB := Lib.hid hb1; clear hb1
  have HCE := Lib.hid hcells; clear hcells
  have HLEN := Lib.hid hlen; clear hlen
  clear hr hz hnil hc0 hb0
  have hstep : ∀ w2 V vs, w2.ownsRow W1.heap.size 22 1 V (cutL zs (xs.take F) 0).length vs → Pieces w2 W1.heap.size vs (cutL zs (xs.take F) 0) → Below W1.heap.size W1 w2 →
      w2.cell? ⟨W.heap.size, 0, none⟩ = some (.slice none 0 0) ∧ w2.frozen? ⟨W.heap.size, 0, none⟩ = false ∧ Src (w2.setCell ⟨W.heap.size, 0, none⟩ V) W.heap.size (w2.setCell ⟨W.heap.size, 0, none⟩ V).heap.size W.heap.size (cutL zs (xs.take F) 0) 11 0 (n : Int) ∧ Below W.heap.size W (w2.setCell ⟨W.heap.size, 0, none⟩ V) := by
    intro w2 V vs ho hp hb
    have hg2 := (hb.block W.heap.size (by omega)).trans HCE.out
    refine ⟨cell_of_row w2 W.heap.size 0 _ _ (0, 0) hg2, by simp [World.frozen?, hg2], ?_, (HB.out.trans (Below.mono hb (by omega))).setCell (p := ⟨W.heap.size, 0, none⟩) (Nat.le_refl _) _⟩
    have hlt : (xs.take F).length ≤ 1000 := by have := HLEN.out; rw [List.length_take]; omega
    have hlx : (cutL zs (xs.take F) 0).length ≤ 1000 := Nat.le_trans (cutL_length zs _ 0) hlt
    have e1 : (w2.setCell ⟨W.heap.size, 0, none⟩ V).heap[W.heap.size]? = some (.cells #[V, .int .i64 11, .int .i64 0, .int .i64 (n : Int)] 48 (0, 0)) := heap_setCell_same w2 W.heap.size 0 _ _ _ hg2
    refine src_made (ownsRow_setCell_below (own_mono1 ho (by omega)) (by simp) _) ?_ (cutL_full zs _ 0) (fun p hp => by have := (cutL_piece zs _ 0 p hp).2.1; omega) hlx e1
    exact ⟨hp.1, fun i v p h1 h2 => ownsRow_setCell_below (own_mono1 (hp.2 i v p h1 h2) (by omega)) (by simp) _⟩
  have HST := Lib.hid hstep; clear hstep
  have hd2 : decide ((F : Int) ≤ (n : Int)) = true := by simp; omega
  go_enter Try.func8, Try.ntmps8
  go_wp2_with fail
  rw [← hW0]
  clear hW0
  go_region
  go_wp2_with fail
  rw [← hW1]
  clear hW1 hfz1 hce1
  refine HC.out.mono ?_; rintro e' w2 ⟨V, vs, rfl, hown, hpc, hb⟩
  obtain ⟨hce, hfz, hsrc, hbl⟩ := HST.out w2 V vs hown hpc hb
  obtain ⟨A2, c2, rfl, _, _, _, _⟩ := own_cells hown
  have HS := Lib.hid hsrc; clear hsrc
  have HBL := Lib.hid hbl; clear hbl
  clear hown hpc hb
  go_wp2_with fail
  go_ret
  exact ⟨rfl, HS.out, HBL.out⟩
end Go.Proofs.Ytgmaiickfpgeoaa
