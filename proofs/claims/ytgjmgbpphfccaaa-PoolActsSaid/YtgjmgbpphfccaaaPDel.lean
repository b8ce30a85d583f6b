/- slices.Delete(s, 0, 1), of a row of the call's own: the first one is gone, the row stays in its block. -/
import Derived.Test.YtgjmgbpphfccaaaPFree
import Derived.Deep.RegionLaw
namespace Go.Proofs.Ytgjmgbpphfccaaa
open Go Go.RowKit
set_option linter.unusedVariables false

/-- append in a region that draws, by what its run is known to give. -/
theorem step_append_run {P : Program} {ops : Array Oper} {o : Oper} {a : Act} {w : World} {K : Act → World → Prop} {Q : Exit → Act → World → Prop} {E : Prop} (hgd : o.guard = none) (s x : Operand) (t : TypeId)
    (ho : o.op = .call { callee := .builtin .append, args := #[s, x], argTypes := #[t, t] }) (hty : o.type = t)
    (v y v' : Value) (w' : World) (hs : a.eval s = v) (hx : a.eval x = y) (hrun : (Builtin.append_ #[t, t] t #[v, y]).run P w = .ok v' w')
    (hK : K (a.put o.dst v') w') : if Region.wanted o (yielded ops a.tmps) = true then Oper.wp P o a w K Q else E := by
  have hw : Region.wanted o (yielded ops a.tmps) = true := by simp [Region.wanted, hgd]
  rw [if_pos hw]
  subst hty
  unfold Oper.wp
  simp [execOp, ho, resolve, invoke, builtin, hs, hx, hrun, Result.andThen]
  exact hK

theorem i_elem : Try.prog.elem 41 = 3 := by kernel_rfl
theorem i_size (w : World) : (sizeOf 3).run Try.prog w = .ok 1 w := by kernel_rfl
theorem i_slice : Try.prog.underlying 41 = some (.slice (Try.prog.elem 41)) := by rw [i_elem]; exact Try.underlying41
/-- s[1:], of whole numbers, with an address. -/
theorem ints_from (b o n c : Nat) (hl : 1 ≤ n) (hc : n ≤ c) :
    ∃ o', (2 ≤ n → o' = o + 1) ∧ ∀ w : World, (Instr.slice 41 (.slice (some ⟨b, o, none⟩) n c) (some (.int .i64 1)) none none).run Try.prog w = .ok (.slice (some ⟨b, o', none⟩) (n - 1) (c - 1)) w := by
  refine ⟨if c = 1 then o else o + 1, fun h => if_neg (by omega), fun w => ?_⟩
  have hr := run_slice_l (P := Try.prog) (w := w) (t := 41) (a := some ⟨b, o, none⟩) (len := n) (cap := c) (ht := i_slice) (kl := .i64) (l := 1) (h0 := by omega) (h1 := by omega)
  rw [hr, i_elem, i_size]
  by_cases h1 : c = 1
  · simp [Result.andThen, sliced, h1]
  · simp [Result.andThen, sliced, h1, Addr.add]
/-- s[:0]. -/
theorem ints_none (b n c : Nat) (w : World) :
    (Instr.slice 41 (.slice (some ⟨b, 0, none⟩) n c) none (some (.int .i64 0)) none).run Try.prog w = .ok (.slice (some ⟨b, 0, none⟩) 0 c) w := by
  have hr := run_slice_h (P := Try.prog) (w := w) (t := 41) (a := some ⟨b, 0, none⟩) (len := n) (cap := c) (ht := i_slice) (kh := .i64) (h := 0) (h0 := by omega) (h2 := by omega)
  rw [hr, i_elem, i_size]
  simp [Result.andThen, sliced, Addr.add]

set_option maxHeartbeats 1000000 in
theorem del_any {w : World} {B : Nat} {V : Value} {x : Int} {xs : List Int} (ho : w.ownsRow B 3 1 V (xs.length + 1) ((x :: xs).map (Value.int .i64))) (hn : xs.length ≤ 1000) :
    Calls Try.prog 26 #[V, .int .i64 0, .int .i64 1] w fun e w' => ∃ V', e = .returned V' ∧ w'.ownsRow B 3 1 V' xs.length (xs.map (Value.int .i64)) ∧ w.grownBy w' V.ownBlock ∧ V'.ownBlock = V.ownBlock := by
  obtain ⟨n, hxn⟩ : ∃ n, n = xs.length := ⟨_, rfl⟩
  rw [← hxn] at ho hn ⊢
  rcases ho.2 with ⟨_, h⟩ | ⟨b, cap, cur, rfl, hB, hg, hnc, hcm, hcs, ht⟩
  · omega
  · obtain ⟨o', ho', hsl⟩ := ints_from b 0 (n + 1) cap (by omega) hnc
    obtain ⟨i0, hi, hz0, hz1, hz2⟩ := info_parts info_int
    have hown0 : w.drew.ownsRow B 3 1 (.slice (some ⟨b, 0, none⟩) 0 cap) 0 [] := ⟨rfl, .inr ⟨b, cap, cur, rfl, hB, hg, Nat.zero_le _, hcm, hcs, by simp⟩⟩
    obtain ⟨w1, happ, hown1, hgr1⟩ := run_append_fits (P := Try.prog) w.drew B 41 41 3 i0 1 Try.underlying41 hi hz1 b 0 cap [] hown0 ⟨b, o', none⟩ n (cap - 1) (xs.map (Value.int .i64)) (by simp [hxn])
      (by
        intro j u hu
        have hj : j < xs.length := by
          have := (List.getElem?_eq_some_iff.1 hu).1
          simpa using this
        rw [ho' (by omega)]
        have hadd : (⟨b, 0 + 1, none⟩ : Addr).add j = ⟨b, j + 1, none⟩ := by
          unfold Addr.add
          split
          · simp_all
          · simp; omega
        rw [hadd]
        refine (ho.cellAt (j + 1) (by omega)).trans ?_
        rw [List.map_cons, List.getElem?_cons_succ, hu])
      (by intro u hu; obtain ⟨y, _, rfl⟩ := List.mem_map.1 hu; rfl) (by omega)
    rw [Nat.zero_add] at happ hown1
    rw [List.nil_append] at hown1
    have hsl' : ∀ w : World, (Instr.slice 41 (.slice (some ⟨b, 0, none⟩) (n + 1) cap) (some (.int .i64 1)) none none).run Try.prog w = .ok (.slice (some ⟨b, o', none⟩) n (cap - 1)) w := fun w => by have := hsl w; simpa using this
    have hno := ints_none b (n + 1) cap
    have hcl : ∀ ty, (Builtin.clear_ #[41] ty #[.slice (some ⟨b, n, none⟩) 1 (cap - n)]).run Try.prog w1 = .ok (.tuple #[]) (w1.setCell ⟨b, n, none⟩ (.int .i64 0)) := by
      intro ty
      have h1 : (w1.cell? ⟨b, n, none⟩).isSome = true := by
        rcases hown1.2 with ⟨h, _⟩ | ⟨b', cap', cur', h, _, hg', _, _, hcs', _⟩
        · cases h
        · injection h with e1 e2 e3
          injection e1 with e1
          injection e1 with e1
          subst e1; subst e3
          rw [cell_of_row w1 b n cur' _ (0, 0) hg', Array.getElem?_eq_getElem (by omega)]
          rfl
      have := Lib.run_clear_slice (P := Try.prog) w1 41 3 ty (.int .i64 0) Try.underlying41 Try.zeroValue3 rfl rfl b n 1 (cap - n) (by omega) (fun j hj => by rw [show n + j = n by omega]; exact h1) (fun j hj => hown1.frozenAt _)
      rw [this]
      simp [World.setCells]
    have hst := hown1.stored n (.int .i64 0)
    rw [List.set_eq_of_length_le (by simp [hxn])] at hst
    have hgr : w.grownBy (w1.setCell ⟨b, n, none⟩ (.int .i64 0)) (some b) := World.grownBy.trans (World.grownBy.trans (b := w.drew) ⟨rfl, rfl, rfl, Nat.le_refl _, fun _ _ _ => rfl⟩ hgr1) hst.2
    have HFIN := Lib.hid hst.1
    have HGR := Lib.hid hgr
    have HAPP := Lib.hid happ
    clear ho hown0 hown1 hgr1 hst hgr happ hsl ht hg hcs hxn hi hz0 hz1 hz2
    unfold maxLen at hcm
    go_enter Try.func26, Try.ntmps26
    go_wp2_with fail
    go_region_law (refine step_append_run rfl _ _ 41 rfl rfl _ _ _ _ rfl rfl HAPP.out ?_)
    go_wp2_with fail
    go_ret
    exact ⟨_, rfl, HFIN.out, HGR.out, rfl⟩
end Go.Proofs.Ytgjmgbpphfccaaa
