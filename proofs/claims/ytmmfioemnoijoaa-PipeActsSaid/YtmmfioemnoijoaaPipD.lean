/- slices.Delete of one place, of a row of the call's own: items, offers. -/
import Derived.Test.YtmmfioemnoijoaaPipS
namespace Go.Proofs.Ytmmfioemnoijoaa
open Go Go.RowKit
set_option linter.unusedVariables false
set_option maxRecDepth 20000

theorem cut_to (t e : TypeId) (s : Nat) (ht : Try.prog.underlying t = some (.slice e)) (he : Try.prog.elem t = e) (hs : ∀ w : World, (sizeOf e).run Try.prog w = .ok s w) (a : Option Addr) (n c i : Nat) (hi : i ≤ c) (w : World) :
    (Instr.slice t (.slice a n c) none (some (.int .i64 (i : Int))) none).run Try.prog w = .ok (.slice a i c) w := by
  have hr := run_slice_h (P := Try.prog) (w := w) (t := t) (a := a) (len := n) (cap := c) (ht := by rw [he]; exact ht) (kh := .i64) (h := (i : Int)) (h0 := by omega) (h2 := by omega)
  rw [hr, he, hs]
  by_cases h0 : c = 0 <;> cases a <;> simp [Result.andThen, sliced, Addr.add]
theorem cut_from (t e : TypeId) (s : Nat) (ht : Try.prog.underlying t = some (.slice e)) (he : Try.prog.elem t = e) (hs : ∀ w : World, (sizeOf e).run Try.prog w = .ok s w) (b o n c i : Nat) (hi : i ≤ n) (hc : n ≤ c) (w : World) :
    (Instr.slice t (.slice (some ⟨b, o, none⟩) n c) (some (.int .i64 (i : Int))) none none).run Try.prog w = .ok (.slice (some ⟨b, if c = i then o else o + i * s, none⟩) (n - i) (c - i)) w := by
  have hr := run_slice_l (P := Try.prog) (w := w) (t := t) (a := some ⟨b, o, none⟩) (len := n) (cap := c) (ht := by rw [he]; exact ht) (kl := .i64) (l := (i : Int)) (h0 := by omega) (h1 := by omega)
  rw [hr, he, hs]
  by_cases h0 : c = i
  · simp [Result.andThen, sliced, h0]
  · simp [Result.andThen, sliced, h0, Addr.add]
theorem cut_both (t e : TypeId) (s : Nat) (ht : Try.prog.underlying t = some (.slice e)) (he : Try.prog.elem t = e) (hs : ∀ w : World, (sizeOf e).run Try.prog w = .ok s w) (b n c i j : Nat) (hi : i ≤ j) (hj : j ≤ c) (hic : i < c) (w : World) :
    (Instr.slice t (.slice (some ⟨b, 0, none⟩) n c) (some (.int .i64 (i : Int))) (some (.int .i64 (j : Int))) none).run Try.prog w = .ok (.slice (some ⟨b, i * s, none⟩) (j - i) (c - i)) w := by
  have hr := run_slice_lh (P := Try.prog) (w := w) (t := t) (a := some ⟨b, 0, none⟩) (len := n) (cap := c) (ht := by rw [he]; exact ht) (kl := .i64) (kh := .i64) (l := (i : Int)) (h := (j : Int)) (h0 := by omega) (h1 := by omega) (h2 := by omega)
  rw [hr, he, hs]
  have hadd : (⟨b, 0, none⟩ : Addr).add (i * s) = ⟨b, i * s, none⟩ := by unfold Addr.add; split <;> simp_all
  simp [Result.andThen, sliced, show ¬ c = i by omega, hadd]
theorem cut_three (t e : TypeId) (s : Nat) (ht : Try.prog.underlying t = some (.slice e)) (he : Try.prog.elem t = e) (hs : ∀ w : World, (sizeOf e).run Try.prog w = .ok s w) (a : Option Addr) (n c i j k : Nat) (hi : i ≤ j) (hj : j ≤ k) (hk : k ≤ c) (w : World) :
    ∃ v, ∀ w : World, (Instr.slice t (.slice a n c) (some (.int .i64 (i : Int))) (some (.int .i64 (j : Int))) (some (.int .i64 (k : Int)))).run Try.prog w = .ok v w := by
  refine ⟨sliced a i j k s, fun w => ?_⟩
  rw [run_slice_any (ht := by rw [he]; exact ht), he]
  have e1 : (Instr.sliceBounds true n c (some (.int .i64 (i : Int))) (some (.int .i64 (j : Int))) (some (.int .i64 (k : Int)))).run Try.prog w = .ok (i, j, k) w := by
    simp [Instr.sliceBounds, run_sliceBound, Result.andThen, show ((j : Int) ≤ (k : Int)) by omega, show ((i : Int) ≤ (j : Int)) by omega, show ((k : Int) ≤ (c : Int)) by omega]
  rw [e1]
  simp [Result.andThen, hs]

theorem item_elem : Try.prog.elem 51 = 36 := by kernel_rfl
theorem item_size (w : World) : (sizeOf 36).run Try.prog w = .ok 7 w := by kernel_rfl
theorem item_zero (w : World) : (zeroValue 36).run Try.prog w = .ok (.agg #[.int .i64 0, .int .i64 0, .int .i64 0, .int .i64 0, .string ⟨#[]⟩, .slice none 0 0, .int .i64 0]) w := by kernel_rfl
set_option maxHeartbeats 2000000 in
theorem del_item {w : World} {B : Nat} {V : Value} {xs : List (List Value)} (h : RecW w B 36 7 V xs) {i : Nat} (hi : i < xs.length) (hn : xs.length ≤ 1000000) :
    Calls Try.prog 25 #[V, .int .i64 (i : Int), .int .i64 ((i : Int) + 1)] w fun e w' => ∃ V', e = .returned V' ∧ RecW w' B 36 7 V' (xs.eraseIdx i) ∧ w.grownBy w' V.ownBlock ∧ V'.ownBlock = V.ownBlock := by
  obtain ⟨m, hm⟩ : ∃ m, xs.length = m + 1 := ⟨xs.length - 1, by omega⟩
  rcases h.form with ⟨_, rfl⟩ | ⟨b, c, rfl, hnc, hcm, hB, hbw⟩
  · simp at hi
  · rw [hm] at h hnc
    have hdr : w.drew.heap = w.heap := rfl
    have h' : RecW w.drew B 36 7 (.slice (some ⟨b, 0, none⟩) (m + 1) c) xs := h.keep fun _ _ _ => rfl
    have s1 : ∀ w : World, (Instr.slice 51 (.slice (some ⟨b, 0, none⟩) (m + 1) c) none (some (.int .i64 (i : Int))) none).run Try.prog w = .ok (.slice (some ⟨b, 0, none⟩) i c) w := cut_to 51 36 7 Try.underlying51 item_elem item_size (some ⟨b, 0, none⟩) (m + 1) c i (by omega)
    have s2 := cut_from 51 36 7 Try.underlying51 item_elem item_size b 0 (m + 1) c (i + 1) (by omega) hnc
    have s3 := cut_both 51 36 7 Try.underlying51 item_elem item_size b m c m (m + 1) (by omega) (by omega) (by omega)
    obtain ⟨v4, s4⟩ := cut_three 51 36 7 Try.underlying51 item_elem item_size (some ⟨b, 0, none⟩) (m + 1) c i (i + 1) (m + 1) (by omega) (by omega) hnc w
    obtain ⟨w1, happ, hcl, hfin⟩ := h'.del 51 36 _ 7 80 Try.underlying51 info_item rfl (by decide) item_zero (by decide) hm (i := i) (by omega) (o' := if c = i + 1 then 0 else 0 + (i + 1) * 7) (fun h => by rw [if_neg (by omega), Nat.zero_add]) (c' := c - (i + 1))
    obtain ⟨W9, hW9⟩ : ∃ W9, W9 = w1.setCells b (m * 7) (Value.agg #[.int .i64 0, .int .i64 0, .int .i64 0, .int .i64 0, .string ⟨#[]⟩, .slice none 0 0, .int .i64 0]).cells.toList := ⟨_, rfl⟩
    have hcl' := fun ty => hcl ty (m * 7) rfl
    obtain ⟨f1, f2⟩ := hfin (m * 7) rfl
    rw [← hW9] at f1 f2
    simp only [← hW9] at hcl'
    clear hW9
    have hgr : w.grownBy W9 (some b) := World.grownBy.trans (b := w.drew) ⟨rfl, rfl, rfl, Nat.le_refl _, fun _ _ _ => rfl⟩ f2
    obtain ⟨o', ho'⟩ : ∃ o', o' = if c = i + 1 then 0 else 0 + (i + 1) * 7 := ⟨_, rfl⟩
    rw [← ho'] at happ
    simp only [← ho'] at s2
    simp only [Nat.add_sub_cancel, Nat.add_sub_cancel_left, Nat.add_sub_add_right] at s2 s3 s4 happ hcl'
    push_cast at s2 s3 s4
    have HAPP := Lib.hid happ
    have HFIN := Lib.hid (And.intro f1 hgr)
    clear h h' happ hcl hfin f1 f2 hgr ho' hdr
    have hne : ((i : Int) == (i : Int) + 1) = false := by simp; omega
    unfold maxLen at hcm
    go_enter Try.func25, Try.ntmps25
    go_wp2_with fail
    go_region_held_law (fun _ => True) (trivial) (refine step_append_run rfl _ _ 51 rfl rfl _ _ _ _ rfl rfl HAPP.out ?_)
    go_wp2_with fail
    go_ret
    exact ⟨_, rfl, HFIN.out.1, HFIN.out.2, rfl⟩

theorem offer_elem : Try.prog.elem 60 = 64 := by kernel_rfl
theorem offer_size (w : World) : (sizeOf 64).run Try.prog w = .ok 8 w := by kernel_rfl
theorem offer_zero (w : World) : (zeroValue 64).run Try.prog w = .ok (.agg #[.int .i64 0, .int .i64 0, .int .i64 0, .int .i64 0, .int .i64 0, .string ⟨#[]⟩, .slice none 0 0, .int .i64 0]) w := by kernel_rfl
set_option maxHeartbeats 2000000 in
theorem del_offer {w : World} {B : Nat} {V : Value} {xs : List (List Value)} (h : RecW w B 64 8 V xs) {i : Nat} (hi : i < xs.length) (hn : xs.length ≤ 1000000) :
    Calls Try.prog 28 #[V, .int .i64 (i : Int), .int .i64 ((i : Int) + 1)] w fun e w' => ∃ V', e = .returned V' ∧ RecW w' B 64 8 V' (xs.eraseIdx i) ∧ w.grownBy w' V.ownBlock ∧ V'.ownBlock = V.ownBlock := by
  obtain ⟨m, hm⟩ : ∃ m, xs.length = m + 1 := ⟨xs.length - 1, by omega⟩
  rcases h.form with ⟨_, rfl⟩ | ⟨b, c, rfl, hnc, hcm, hB, hbw⟩
  · simp at hi
  · rw [hm] at h hnc
    have hdr : w.drew.heap = w.heap := rfl
    have h' : RecW w.drew B 64 8 (.slice (some ⟨b, 0, none⟩) (m + 1) c) xs := h.keep fun _ _ _ => rfl
    have s1 : ∀ w : World, (Instr.slice 60 (.slice (some ⟨b, 0, none⟩) (m + 1) c) none (some (.int .i64 (i : Int))) none).run Try.prog w = .ok (.slice (some ⟨b, 0, none⟩) i c) w := cut_to 60 64 8 Try.underlying60 offer_elem offer_size (some ⟨b, 0, none⟩) (m + 1) c i (by omega)
    have s2 := cut_from 60 64 8 Try.underlying60 offer_elem offer_size b 0 (m + 1) c (i + 1) (by omega) hnc
    have s3 := cut_both 60 64 8 Try.underlying60 offer_elem offer_size b m c m (m + 1) (by omega) (by omega) (by omega)
    obtain ⟨v4, s4⟩ := cut_three 60 64 8 Try.underlying60 offer_elem offer_size (some ⟨b, 0, none⟩) (m + 1) c i (i + 1) (m + 1) (by omega) (by omega) hnc w
    obtain ⟨w1, happ, hcl, hfin⟩ := h'.del 60 64 _ 8 88 Try.underlying60 info_offer rfl (by decide) offer_zero (by decide) hm (i := i) (by omega) (o' := if c = i + 1 then 0 else 0 + (i + 1) * 8) (fun h => by rw [if_neg (by omega), Nat.zero_add]) (c' := c - (i + 1))
    obtain ⟨W9, hW9⟩ : ∃ W9, W9 = w1.setCells b (m * 8) (Value.agg #[.int .i64 0, .int .i64 0, .int .i64 0, .int .i64 0, .int .i64 0, .string ⟨#[]⟩, .slice none 0 0, .int .i64 0]).cells.toList := ⟨_, rfl⟩
    have hcl' := fun ty => hcl ty (m * 8) rfl
    obtain ⟨f1, f2⟩ := hfin (m * 8) rfl
    rw [← hW9] at f1 f2
    simp only [← hW9] at hcl'
    clear hW9
    have hgr : w.grownBy W9 (some b) := World.grownBy.trans (b := w.drew) ⟨rfl, rfl, rfl, Nat.le_refl _, fun _ _ _ => rfl⟩ f2
    obtain ⟨o', ho'⟩ : ∃ o', o' = if c = i + 1 then 0 else 0 + (i + 1) * 8 := ⟨_, rfl⟩
    rw [← ho'] at happ
    simp only [← ho'] at s2
    simp only [Nat.add_sub_cancel, Nat.add_sub_cancel_left, Nat.add_sub_add_right] at s2 s3 s4 happ hcl'
    push_cast at s2 s3 s4
    have HAPP := Lib.hid happ
    have HFIN := Lib.hid (And.intro f1 hgr)
    clear h h' happ hcl hfin f1 f2 hgr ho' hdr
    have hne : ((i : Int) == (i : Int) + 1) = false := by simp; omega
    unfold maxLen at hcm
    go_enter Try.func28, Try.ntmps28
    go_wp2_with fail
    go_region_held_law (fun _ => True) (trivial) (refine step_append_run rfl _ _ 60 rfl rfl _ _ _ _ rfl rfl HAPP.out ?_)
    go_wp2_with fail
    go_ret
    exact ⟨_, rfl, HFIN.out.1, HFIN.out.2, rfl⟩
end Go.Proofs.Ytmmfioemnoijoaa
