/- The program's choice of hits: those that lie in a text. -/
import Derived.Test.YtebmafghekfllaaDoorRowM18
namespace Go.Proofs.YtebmafghekfllaaDoor
open Go Go.RowKit
set_option linter.unusedVariables false
set_option maxRecDepth 20000
set_option maxHeartbeats 4000000 in
theorem within_any (x : Rw) (w : World) (hx : RHits w x) (hm : x.hm ≤ 1000) (hz : x.tx.size ≤ 1000000) :
    Calls Tryd.prog 22 #[.string x.tx, .slice x.hA x.hm x.hc] w fun e w' => ∃ A c, e = .returned (.slice A (goodH x).length c) ∧ RecW w' w.heap.size 42 2 (.slice A (goodH x).length c) ((goodH x).map hcells) ∧ Below w.heap.size w w' := by
  have HX := Lib.hid hx
  have HL := Lib.hid hx.len
  obtain ⟨m, hm2⟩ : ∃ m, m = x.hm := ⟨_, rfl⟩
  obtain ⟨z, hz2⟩ : ∃ z, z = x.tx.size := ⟨_, rfl⟩
  have HM := Lib.hid hm2
  have HZ := Lib.hid hz2
  rw [← hm2] at hm
  rw [← hz2] at hz
  rw [← hm2]
  clear hx hm2 hz2
  go_enter Tryd.func22, Tryd.ntmps22
  go_wp2_with fail
  go_loopw [5, 10] (fun vo vi wr => ∃ (i k c : Nat) (A : Option Addr), vo = .slice A k c ∧ vi = .int .i64 (i : Int) ∧ i ≤ m ∧ k ≤ i ∧ Hid (RecW wr w.heap.size 42 2 (.slice A k c) (((x.hs.take i).filter (okH z)).map hcells) ∧ Below w.heap.size w wr)) (fun _ vi _ => m - (intOf vi).toNat)
  case atStart => exact ⟨0, 0, 0, none, rfl, rfl, Nat.zero_le _, Nat.le_refl _, Lib.hid ⟨RecW.nil _ _ _ _, Below.refl _ _⟩⟩
  case round =>
    obtain ⟨i, k, c, A, rfl, rfl, hi, hk, HO⟩ := hrel
    have hcl := hit_cells
    by_cases hlt : i < m
    · obtain ⟨b, o, hA, -, hbw, hc⟩ := HX.out.1.2 (by rw [← HM.out]; omega)
      rw [hA]
      obtain ⟨h, hh⟩ : ∃ h, x.hs[i]? = some h := ⟨_, List.getElem?_eq_getElem (by rw [HL.out, ← HM.out]; exact hlt)⟩
      obtain ⟨f, t⟩ := h
      have hc' := fun j v hv => (HO.out.2.cell (p := ⟨b, o + i * 2 + j, none⟩) hbw).trans (hc i (hcells (f, t)) (by simp [hh]) j v hv)
      have d0 := hc' 0 _ rfl
      have d1 := hc' 1 _ rfl
      simp only [Nat.add_zero] at d0
      have hs := filter_snoc hh (okH z)
      have hbA : Below w.heap.size w (wr.alloc (.cells #[.int .i64 f, .int .i64 t] 42)) := HO.out.2.alloc HO.out.2.size _
      have hrA := HO.out.1.keep (w' := wr.alloc (.cells #[.int .i64 f, .int .i64 t] 42)) fun k hk _ => ((Below.refl wr.heap.size wr).alloc (Nat.le_refl _) _).block k hk
      obtain ⟨A2, c2, w2, happ, hr2, hb2⟩ := app_rec 32 42 _ 2 16 Tryd.underlying32 info_hit rfl (by decide) (by decide) hrA hbA (hcells (f, t)) (hwide _) (by omega)
      rw [show (wr.alloc (.cells #[.int .i64 f, .int .i64 t] 42)).heap.size = wr.heap.size + 1 by simp] at happ
      have HRA := Lib.hid (And.intro hrA hbA)
      have HAP := Lib.hid happ
      have HR2 := Lib.hid (And.intro hr2 hb2)
      have HS := Lib.hid hs
      unfold hcells at HAP
      dsimp only at HAP
      have HZ2 : x.tx.size = z := HZ.out.symm
      clear hc hc' hh hs hbA hrA happ hr2 hb2
      have fin0 : okH z (f, t) = false → Hid (RecW (wr.alloc (.cells #[.int .i64 f, .int .i64 t] 42)) w.heap.size 42 2 (.slice A k c) (((x.hs.take (i + 1)).filter (okH z)).map hcells) ∧ Below w.heap.size w (wr.alloc (.cells #[.int .i64 f, .int .i64 t] 42))) := fun h0 => Lib.hid (by rw [HS.out, h0, if_neg (by decide), List.append_nil]; exact HRA.out)
      have fin1 : okH z (f, t) = true → Hid (RecW w2 w.heap.size 42 2 (.slice A2 (k + 1) c2) (((x.hs.take (i + 1)).filter (okH z)).map hcells) ∧ Below w.heap.size w w2) := fun h0 => Lib.hid (by rw [HS.out, h0, if_pos rfl, List.map_append]; exact HR2.out)
      have F0 := Lib.hid fin0
      have F1 := Lib.hid fin1
      clear fin0 fin1
      by_cases h1 : 0 ≤ f
      · by_cases h2 : f ≤ t
        · by_cases h3 : t ≤ (z : Int)
          · have hok : okH z (f, t) = true := by simp [okH, h1, h2, h3]
            have HF := F1.out hok
            clear hok
            go_wp2_with (at_builtin; refine wpList_append_run rfl (.tmp 31) (.tmp 33) 32 rfl rfl _ _ _ _ rfl rfl HAP.out ?_)
            exact ⟨⟨i + 1, k + 1, c2, A2, (by first | rfl | exact ⟨rfl, rfl, rfl⟩), (by first | rfl | omega | go_num), by omega, by omega, HF⟩, by simp [intOf]; omega⟩
          · have hok : okH z (f, t) = false := by simp [okH, h3]
            have HF := F0.out hok
            clear hok
            go_wp2_with fail
            exact ⟨⟨i + 1, k, c, A, (by first | rfl | exact ⟨rfl, rfl, rfl⟩), (by first | rfl | omega | go_num), by omega, by omega, HF⟩, by simp [intOf]; omega⟩
        · have hok : okH z (f, t) = false := by simp [okH, h2]
          have HF := F0.out hok
          clear hok
          go_wp2_with fail
          exact ⟨⟨i + 1, k, c, A, (by first | rfl | exact ⟨rfl, rfl, rfl⟩), (by first | rfl | omega | go_num), by omega, by omega, HF⟩, by simp [intOf]; omega⟩
      · have hok : okH z (f, t) = false := by simp [okH, h1]
        have HF := F0.out hok
        clear hok
        go_wp2_with fail
        exact ⟨⟨i + 1, k, c, A, (by first | rfl | exact ⟨rfl, rfl, rfl⟩), (by first | rfl | omega | go_num), by omega, by omega, HF⟩, by simp [intOf]; omega⟩
    · have him : i = m := by omega
      subst him
      go_wp2_with fail
      go_ret
      have hg : (x.hs.take i).filter (okH z) = goodH x := by
        rw [List.take_of_length_le (by rw [HL.out, ← HM.out]; exact Nat.le_refl _), HZ.out]
        rfl
      have hr := HO.out.1
      rw [hg] at hr
      have hl := rec_len hr
      rw [List.length_map] at hl
      subst hl
      exact ⟨A, c, rfl, hr, HO.out.2⟩
end Go.Proofs.YtebmafghekfllaaDoor
