/- Two rows of hits, two items: the same? -/
import Derived.Test.YtmpemcooianfiaaItM
namespace Go.Proofs.Ytmpemcooianfiaa
open Go Go.RowKit
set_option linter.unusedVariables false
set_option maxRecDepth 20000

set_option maxHeartbeats 2000000 in
theorem hsame14 (xs : List (Int × Int)) (A D : Option Addr) (n c d : Nat) (W : World) (ha : ReadR 0 W A n 2 (xs.map hcells)) (hb : ReadR 0 W D n 2 (xs.map hcells)) (hn : n ≤ 1000000) :
    Calls Try.prog 21 #[.slice A n c, .slice D n d] W fun e w' => e = .returned (.bool true) ∧ ∃ q, w' = W.drewN q := by
  have HA := Lib.hid ha; clear ha
  have HB := Lib.hid hb; clear hb
  have HL := Lib.hid (show xs.length = n by have := HA.out.1.1; simpa using this)
  go_enter Try.func21, Try.ntmps21
  go_wp2
  go_loopw [5] (fun i wr => ∃ k q : Nat, k ≤ n ∧ i = .int .i64 k ∧ wr = W.drewN q) (fun i _ => n - (intOf i).toNat)
  case atStart => exact ⟨0, 0, Nat.zero_le _, rfl, rfl⟩
  case round =>
    obtain ⟨k, q, hk, rfl, rfl⟩ := hrel
    by_cases hlt : k < n
    · obtain ⟨b, o, rfl, _, _, hc⟩ := HA.out.2 (by omega)
      obtain ⟨b', o', rfl, _, _, hc'⟩ := HB.out.2 (by omega)
      obtain ⟨x, hx⟩ : ∃ x, xs[k]? = some x := ⟨_, List.getElem?_eq_getElem (by rw [HL.out]; exact hlt)⟩
      have c0 := hc k (hcells x) (by simp [hx]) 0 _ rfl
      have c1 := hc k (hcells x) (by simp [hx]) 1 _ rfl
      have e0 := hc' k (hcells x) (by simp [hx]) 0 _ rfl
      have e1 := hc' k (hcells x) (by simp [hx]) 1 _ rfl
      simp only [Nat.add_zero] at c0 e0
      clear hc hc' hx
      have hcl := hit_cells
      go_wp2
      go_quiet (fail)
      go_wp2
      refine ⟨⟨k + 1, q + nq, by omega, by go_num, rfl⟩, by simp [intOf]; omega⟩
    · go_wp2
      go_ret
      exact ⟨rfl, _, rfl⟩
/-- Two items alike. -/
theorem rsame14 (x y : It) (W : World) (hl : Like x y) (hx : HitsAt 0 W x) (hy : HitsAt 0 W y) (hn : y.hm ≤ 100000) :
    Calls Try.prog 12 #[x.val, y.val] W fun e w' => e = .returned (.bool true) ∧ Below W.heap.size W w' := by
  obtain ⟨n, b, rn, ra, tx, hA, hm, hc, hs, er⟩ := x
  obtain ⟨n', b', rn', ra', tx', hA', hm', hc', hs', er'⟩ := y
  obtain ⟨h1, h2, h3, h4, h5, h6, h7, h8⟩ := hl
  dsimp only at h1 h2 h3 h4 h5 h6 h7 h8 hn
  subst h1 h2 h3 h4 h5 h6 h7 h8
  obtain ⟨W2, hW2⟩ : ∃ W2, W2 = (W.alloc (.cells #[.int .i64 n, .int .i64 b, .int .i64 rn, .int .i64 ra, .string tx, .slice hA hm hc, .int .i64 er] 36)).alloc (.cells #[.int .i64 n, .int .i64 b, .int .i64 rn, .int .i64 ra, .string tx, .slice hA' hm hc', .int .i64 er] 36) := ⟨_, rfl⟩
  have hb2 : Below W.heap.size W W2 := by rw [hW2]; exact ((Below.refl _ _).alloc (Nat.le_refl _) _).alloc (by simp) _
  have HS := Lib.hid (hsame14 hs hA hA' hm hc hc' W2 (hx.1.keep hb2.size fun k _ h => hb2.block k h) (hy.1.keep hb2.size fun k _ h => hb2.block k h) (by omega))
  have HB := Lib.hid hb2
  rw [hW2] at HS HB
  clear hx hy hb2 hW2
  unfold It.val
  dsimp only
  go_enter Try.func12, Try.ntmps12
  go_wp2_with (go_at_call 21; (with_reducible refine HS.out.mono ?_); rintro e w3 ⟨rfl, q, rfl⟩)
  go_ret
  exact ⟨rfl, below_drewN HB.out q⟩
end Go.Proofs.Ytmpemcooianfiaa
