/- The program's ring: Held; all that the laws ask of it. -/
import Derived.Test.YtmpemcooianfiaaRinN
namespace Go.Proofs.Ytmpemcooianfiaa
open Go Go.RowKit
set_option linter.unusedVariables false
set_option maxRecDepth 20000
section
variable {w w' : World} {F : Nat → Prop} {g b n next : Nat} {W : List (Option It)} {rs : List (List Value)}
theorem hold_snoc {k : Nat} {o : Option It} (h : W[k]? = some o) : hold (W.take (k + 1)) = hold (W.take k) ++ (match o with | some x => [x] | none => []) := by
  unfold hold
  rw [take_snocW h, List.filterMap_append]
  cases o <;> rfl
theorem hold_le (l : List (Option It)) : (hold l).length ≤ l.length := List.length_filterMap_le _ _
set_option maxHeartbeats 4000000 in
theorem rheld_any (h : RPr w F g b n next W rs) (hn1 : 1 ≤ n) (hn : n ≤ 64) (hx : next ≤ 100000) :
    Calls Try.prog 15 #[.pointer (some ⟨g, 0, none⟩)] w fun e w' => ∃ (A : Option Addr) (c : Nat), e = .returned (.slice A (hold W).length c) ∧ RecW w' w.heap.size 36 7 (.slice A (hold W).length c) ((hold W).map It.cells) ∧ Below w.heap.size w w' := by
  have c0 := h.c0
  have HC1 := Lib.hid fun w' (hb : Below w.heap.size w w') => (h.below hb).c1
  have HP := Lib.hid fun w' (hb : Below w.heap.size w w') (k : Nat) (hk : k < n) => place_0 (h.below hb) (next + k) hn (by omega) hn1
  have HPL := Lib.hid fun w' (hb : Below w.heap.size w w') (k : Nat) (o : Option It) (ho : W[k]? = some o) (j : Nat) (hj : j = (next + k) % n) => (h.below hb).pl ho hj
  have HWL := Lib.hid h.hn
  have hcl := place_cells
  have hci := item_cells
  clear h
  go_enter Try.func15, Try.ntmps15
  go_wp2_with fail
  go_loopw [3, 4, 5, 11] (fun vo va vp vi wr => ∃ (k m c : Nat) (A : Option Addr), vo = .slice A m c ∧ vi = .int .i64 (k : Int) ∧ k ≤ n ∧ m ≤ k ∧ Hid (m = (hold (W.take k)).length ∧ RecW wr w.heap.size 36 7 (.slice A m c) ((hold (W.take k)).map It.cells) ∧ Below w.heap.size w wr)) (fun _ _ _ vi _ => n - (intOf vi).toNat)
  case atStart => exact ⟨0, 0, 0, none, rfl, rfl, Nat.zero_le _, Nat.le_refl _, Lib.hid ⟨rfl, RecW.nil _ _ _ _, Below.refl _ _⟩⟩
  case round =>
    obtain ⟨k, m, c, A, rfl, rfl, hk, hm, HO⟩ := hrel
    by_cases hlt : k < n
    · have hb := HO.out.2.2
      have c1 := HC1.out wr hb
      have hpp := HP.out wr hb k hlt
      rw [Int.natCast_add] at hpp
      have HPP := Lib.hid hpp
      clear hpp
      obtain ⟨o, ho⟩ : ∃ o, W[k]? = some o := ⟨_, List.getElem?_eq_getElem (by rw [HWL.out]; exact hlt)⟩
      obtain ⟨j, hj⟩ : ∃ j, j = (next + k) % n := ⟨_, rfl⟩
      have hcs := HPL.out wr hb k o ho j hj
      rw [← hj] at HPP
      have hsn := hold_snoc ho
      clear hj hb
      rcases o with _ | x
      · have d7 := hcs 7 _ rfl
        have HF : Hid (m = (hold (W.take (k + 1))).length ∧ RecW wr w.heap.size 36 7 (.slice A m c) ((hold (W.take (k + 1))).map It.cells) ∧ Below w.heap.size w wr) := Lib.hid (by rw [hsn]; simpa using HO.out)
        have HF2 : Hid (∀ q, m = (hold (W.take (k + 1))).length ∧ RecW (wr.drewN q) w.heap.size 36 7 (.slice A m c) ((hold (W.take (k + 1))).map It.cells) ∧ Below w.heap.size w (wr.drewN q)) := Lib.hid fun q => ⟨HF.out.1, HF.out.2.1.keep fun _ _ _ => rfl, below_drewN HF.out.2.2 q⟩
        clear hcs hsn ho HO HF HPL HP HC1
        go_wp2_with (go_at_call 20; (with_reducible refine HPP.out.mono ?_); rintro e w1 ⟨rfl, q1, rfl⟩)
        exact ⟨⟨k + 1, m, c, A, rfl, by go_num, by omega, by omega, Lib.hid (HF2.out _)⟩, by simp [intOf]; omega⟩
      · have d0 := hcs 0 _ rfl
        have d1 := hcs 1 _ rfl
        have d2 := hcs 2 _ rfl
        have d3 := hcs 3 _ rfl
        have d4 := hcs 4 _ rfl
        have d5 := hcs 5 _ rfl
        have d6 := hcs 6 _ rfl
        have d7 := hcs 7 _ rfl
        simp only [Nat.add_zero] at d0
        have HA : Hid (∀ q, ∃ A' c' w2, (Builtin.append_ #[29, 29] 29 #[.slice A m c, .slice (some ⟨(wr.drewN q).heap.size, 0, none⟩) 1 1]).run Try.prog ((wr.drewN q).alloc (.cells x.cells.toArray 36)) = .ok (.slice A' (m + 1) c') w2 ∧ Hid (m + 1 = (hold (W.take (k + 1))).length ∧ RecW w2 w.heap.size 36 7 (.slice A' (m + 1) c') ((hold (W.take (k + 1))).map It.cells) ∧ Below w.heap.size w w2)) := Lib.hid fun q => by
          obtain ⟨hml, hr, hb⟩ := HO.out
          have hb0 := below_drewN hb q
          have hr0 : RecW (wr.drewN q) w.heap.size 36 7 (.slice A m c) ((hold (W.take k)).map It.cells) := hr.keep fun _ _ _ => rfl
          obtain ⟨X, hX⟩ : ∃ X, X = wr.drewN q := ⟨_, rfl⟩
          rw [← hX] at hb0 hr0 ⊢
          have hb1 : Below X.heap.size X (X.alloc (.cells x.cells.toArray 36)) := (Below.refl _ _).alloc (Nat.le_refl _) _
          have hd1 : (X.alloc (.cells x.cells.toArray 36)).heap[X.heap.size]? = some (.cells x.cells.toArray 36 (0, 0)) := heap_alloc_new X _
          have hr5 := hr0.keep (w' := X.alloc (.cells x.cells.toArray 36)) fun k hk _ => hb1.block k hk
          have hbw0 := hb0.trans (hb1.mono hb0.size)
          obtain ⟨V', w2, happ, hr6, hg6, hat6, -⟩ := hr5.app 29 36 _ 7 80 Try.underlying29 info_item rfl (by decide) (read_one hd1 x.wide) (c := 1) (fun h => by cases h) (by rw [List.length_map, ← hml]; unfold maxLen; omega) (by rw [List.length_map, ← hml]; omega) hbw0.size
          have e6 : (hold (W.take k)).map It.cells ++ [x.cells] = (hold (W.take (k + 1))).map It.cells := by rw [hsn]; simp
          have hl6 : m + 1 = (hold (W.take (k + 1))).length := by rw [hsn]; simp [hml]
          rw [e6] at hr6
          obtain ⟨A', c', hV', -⟩ := hr6.slice
          rw [List.length_map, ← hl6] at hV'
          subst hV'
          exact ⟨A', c', w2, happ, Lib.hid ⟨hl6, hr6, hbw0.grown hg6 hbw0.size (fun k hk => (row_lt hr5.1 hk).1)⟩⟩
        clear hcs hsn ho HO HPL HP HC1
        go_wp2_with (first | (go_at_call 20; (with_reducible refine HPP.out.mono ?_); rintro e w1 ⟨rfl, q1, rfl⟩; obtain ⟨A', c', w2, happ, HF⟩ := HA.out q1; have HAP := Lib.hid happ; unfold It.cells at HAP; clear happ) | (at_builtin; refine wpList_append_run rfl _ _ 29 rfl rfl _ _ _ _ rfl rfl HAP.out ?_))
        exact ⟨⟨k + 1, m + 1, c', A', rfl, by go_num, by omega, by omega, HF⟩, by simp [intOf]; omega⟩
    · have hkn : k = n := by omega
      subst hkn
      have htk : W.take k = W := List.take_of_length_le (by rw [HWL.out]; exact Nat.le_refl _)
      rw [htk] at HO
      clear htk
      go_wp2_with fail
      go_ret
      rw [← HO.out.1]
      exact ⟨A, c, rfl, HO.out.2.1, HO.out.2.2⟩
end
/-- The program's ring answers as it should. -/
theorem rinF : RinF RPt where
  fr := fun ⟨b, n, rs, h⟩ hs hz => ⟨b, n, rs, h.keep hs hz⟩
  low := fun ⟨b, n, rs, h⟩ => h.low
  new := fun n w h1 h2 => rnew_any n w h1 h2
  bad := fun n w h => rnew_bad n w h
  put := fun x ⟨b, n, rs, h⟩ ok hx t0 t1 => rput_any h x (by rw [← h.hn]; exact ok.2.1) (by rw [← h.hn]; exact ok.2.2) hx t0 t1
  nxt := fun ⟨b, n, rs, h⟩ ok hx => rnext_any h (by rw [← h.hn]; exact ok.2.1) (by rw [← h.hn]; exact ok.2.2) hx
  rdy := fun ⟨b, n, rs, h⟩ ok hx => ready_0 h (by rw [← h.hn]; exact ok.2.2) hx (by rw [← h.hn]; exact ok.2.1)
  rom := fun t ⟨b, n, rs, h⟩ ok hx t0 t1 => (room_0 h t (by rw [← h.hn]; exact ok.2.2) hx t0 t1).mono fun e w' hh => ⟨hh.1, by obtain ⟨q, rfl⟩ := hh.2; exact below_drewN (Below.refl _ _) q⟩
  tic := fun ⟨b, n, rs, h⟩ ok hx => ticket_0 h
  hel := fun ⟨b, n, rs, h⟩ ok hx hh => (rheld_any h (by rw [← h.hn]; exact ok.2.1) (by rw [← h.hn]; exact ok.2.2) hx).mono fun e w' h2 => by
    obtain ⟨A, c, he, hr, hb⟩ := h2
    refine ⟨A, c, _, he, hr, hb, fun j x hj => ⟨x, hj, Like.refl x, (hh x (List.mem_of_getElem? hj)).1.below hb⟩⟩
end Go.Proofs.Ytmpemcooianfiaa
