/- The document's First and Count of a list of reports. -/
import Derived.Test.YtlgpidpnjmbknaaCelF
import Derived.Laws.ResultCell
namespace Go.Proofs.Ytlgpidpnjmbknaa
open Go Go.RowKit
set_option linter.unusedVariables false
set_option maxRecDepth 20000

def R16 (a : Rep) : List Value := [.int .i64 a.1, .string a.2.1, .int .i64 a.2.2]
theorem rep_cells : Try.prog.cellsOf 27 = 3 := by kernel_rfl
theorem R16_wide (y : Rep) : (R16 y).length = 3 ∧ ∀ u ∈ R16 y, u.oneCell' = true := ⟨rfl, fun u hu => by
  simp only [R16, List.mem_cons, List.not_mem_nil, or_false] at hu
  rcases hu with rfl | rfl | rfl <;> rfl⟩
def RowA16 (w : World) (A : Option Addr) (n : Nat) (xs : List Rep) : Prop := ReadR 0 w A n 3 (xs.map R16)
theorem fold_kept {x : Rep} (h : x.1 ≠ 0) : ∀ zs : List Rep, zs.foldl repK x = x
  | [] => rfl
  | z :: zs => by
    rw [List.foldl_cons, show repK x z = x by unfold repK; rw [if_neg (fun hh => h hh.1)]]
    exact fold_kept h zs
theorem kept_at {xs : List Rep} {k : Nat} {x : Rep} (hk : xs[k]? = some x) (h0 : keptL (xs.take k) = zeroR) (hx : x.1 ≠ 0) : keptL xs = x := by
  obtain ⟨h1, h2⟩ := List.getElem?_eq_some_iff.1 hk
  have e : xs = xs.take k ++ x :: xs.drop (k + 1) := by
    rw [← h2, List.getElem_cons_drop, List.take_append_drop]
  have h3 : keptL xs = keptL (xs.take k ++ x :: xs.drop (k + 1)) := by rw [← e]
  rw [h3]
  unfold keptL at h0 ⊢
  rw [List.foldl_append, h0, List.foldl_cons, show repK zeroR x = x by unfold repK; rw [if_pos ⟨rfl, hx⟩]]
  exact fold_kept hx _
theorem kept_step {xs : List Rep} {k : Nat} {x : Rep} (hk : xs[k]? = some x) (h0 : keptL (xs.take k) = zeroR) (hx : x.1 = 0) : keptL (xs.take (k + 1)) = zeroR := by
  rw [List.take_add_one, hk]
  show keptL (xs.take k ++ [x]) = zeroR
  rw [keptL_snoc, h0]
  unfold repK
  rw [if_neg (fun h => h.2 hx)]
theorem count_step {xs : List Rep} {k : Nat} {x : Rep} (hk : xs[k]? = some x) : countL16 (xs.take (k + 1)) = repN (countL16 (xs.take k)) x := by
  rw [List.take_add_one, hk]
  exact countL16_snoc _ _
theorem results_cellR {fn : Func} {p : Tmp} {ty : TypeId} (h : fn.results = #[.cell p ty]) (tmps : Array Value) (P : Program) (w : World) :
    (results fn tmps).run P w = ((asAddr (tmps.getD p undef)).run P w).andThen fun a w₁ => (loadVar ty a).run P w₁ := by
  simp only [results, h]
  simp [Sem.run_bind, Result.andThen]
/-- A room of three cells is stored to. -/
theorem set3 {w : World} {s : Nat} {t : TypeId} {a b c : Value} (h : w.heap[s]? = some (.cells #[a, b, c] t (0, 0))) (x y z : Value) :
    (((w.setCell ⟨s, 0, none⟩ x).setCell ⟨s, 1, none⟩ y).setCell ⟨s, 2, none⟩ z).heap[s]? = some (.cells #[x, y, z] t (0, 0)) := by
  have h1 : (w.setCell ⟨s, 0, none⟩ x).heap[s]? = some (.cells #[x, b, c] t (0, 0)) := heap_setCell_same w s 0 _ _ _ h
  have h2 : ((w.setCell ⟨s, 0, none⟩ x).setCell ⟨s, 1, none⟩ y).heap[s]? = some (.cells #[x, y, c] t (0, 0)) := heap_setCell_same _ s 1 _ _ _ h1
  exact heap_setCell_same _ s 2 _ _ _ h2
theorem results_rep {x z : Int} {y : ByteArray} {b : Nat} {tmps : Array Value} {w : World} (hp : tmps.getD 2 undef = .pointer (some ⟨b, 0, none⟩)) (hc : w.heap[b]? = some (.cells #[.int .i64 x, .string y, .int .i64 z] 27 (0, 0))) : (results Try.f7 tmps).run Try.prog w = .ok (.agg #[.int .i64 x, .string y, .int .i64 z]) w := by
  have c0 := cell_of_row w b 0 _ _ (0, 0) hc
  have c1 := cell_of_row w b 1 _ _ (0, 0) hc
  have c2 := cell_of_row w b 2 _ _ (0, 0) hc
  have hcl := rep_cells
  rw [results_cellR (p := 2) (ty := 27) rfl, hp]
  go_simp
set_option maxHeartbeats 2000000 in
theorem count_any (A : Option Addr) (n c : Nat) (xs : List Rep) (w : World) (hr : RowA16 w A n xs) (hn : n ≤ 1000) :
    Calls Try.prog 13 #[.slice A n c] w fun e w' => e = .returned (.int .i64 (countL16 xs)) ∧ ∃ q, w' = w.drewN q := by
  have HR := Lib.hid hr
  have hl : xs.length = n := by have := hr.1.1; simpa using this
  have HL := Lib.hid hl
  have hcl := rep_cells
  clear hr hl
  go_enter Try.func13, Try.ntmps13
  go_wp2_with fail
  go_loopw [3, 4] (fun v3 v4 wr => ∃ (k : Nat) (z : Int), v3 = .int .i64 z ∧ v4 = .int .i64 (k : Int) ∧ k ≤ n ∧ 0 ≤ z ∧ z ≤ k ∧ Hid (z = countL16 (xs.take k) ∧ wr = w)) (fun _ v4 _ => n - (intOf v4).toNat)
  case atStart => exact ⟨0, 0, rfl, rfl, Nat.zero_le _, Int.le_refl _, by omega, Lib.hid ⟨rfl, rfl⟩⟩
  case round =>
    obtain ⟨k, z, rfl, rfl, hk, hz0, hz1, HO⟩ := hrel
    obtain ⟨hz, rfl⟩ := HO.out
    by_cases hlt : k < n
    · obtain ⟨x, hx⟩ : ∃ x, xs[k]? = some x := ⟨_, List.getElem?_eq_getElem (by rw [HL.out]; exact hlt)⟩
      obtain ⟨b, o, rfl, -, hbl, hc⟩ := HR.out.2 (by omega)
      have e0 := hc k (R16 x) (by simp [hx]) 0 (.int .i64 x.1) rfl
      simp only [Nat.add_zero] at e0
      have hst := count_step hx
      rw [← hz] at hst
      unfold repN at hst
      obtain ⟨x1, hx1⟩ : ∃ y, y = x.1 := ⟨_, rfl⟩
      rw [← hx1] at e0 hst
      clear hc hx hx1 hz
      by_cases hx0 : x1 = 0
      · subst hx0
        rw [if_pos rfl] at hst
        have HF := Lib.hid hst.symm
        clear hst HO
        go_wp2_with fail
        exact ⟨⟨k + 1, z, rfl, by go_num, by omega, by omega, by omega, Lib.hid ⟨HF.out, by first | trivial | rfl⟩⟩, by simp [intOf]; omega⟩
      · rw [if_neg hx0] at hst
        have HF := Lib.hid hst.symm
        have hxb : (x1 == 0) = false := by simpa using hx0
        clear hst HO hx0
        go_wp2_with fail
        exact ⟨⟨k + 1, z + 1, by go_num, by go_num, by omega, by omega, by omega, Lib.hid ⟨HF.out, by first | trivial | rfl⟩⟩, by simp [intOf]; omega⟩
    · have hkn : k = n := by omega
      subst hkn
      have HF : Hid (z = countL16 xs) := Lib.hid (by rw [hz, List.take_of_length_le (by rw [HL.out]; exact Nat.le_refl _)])
      clear hz HO
      go_wp2_with fail
      go_ret
      rw [HF.out]
      exact ⟨rfl, 0, rfl⟩
set_option maxHeartbeats 2000000 in
theorem first_any (A : Option Addr) (n c : Nat) (xs : List Rep) (w : World) (hr : RowA16 w A n xs) (hn : n ≤ 1000) :
    Calls Try.prog 7 #[.slice A n c] w fun e w' => e = .returned (.agg #[.int .i64 (keptL xs).1, .string (keptL xs).2.1, .int .i64 (keptL xs).2.2]) ∧ Below w.heap.size w w' := by
  have HR := Lib.hid hr
  have hl : xs.length = n := by have := hr.1.1; simpa using this
  have HL := Lib.hid hl
  have hcl := rep_cells
  have hb0 := (Below.refl w.heap.size w).alloc (Nat.le_refl _) (.cells #[.int .i64 0, .string ⟨#[]⟩, .int .i64 0] 27)
  have hr0 : (w.alloc (.cells #[.int .i64 0, .string ⟨#[]⟩, .int .i64 0] 27)).heap[w.heap.size]? = some (.cells #[.int .i64 0, .string ⟨#[]⟩, .int .i64 0] 27 (0, 0)) := heap_alloc_new _ _
  obtain ⟨W, hW⟩ : ∃ W, W = w.alloc (.cells #[.int .i64 0, .string ⟨#[]⟩, .int .i64 0] 27) := ⟨_, rfl⟩
  rw [← hW] at hb0 hr0
  have HB := Lib.hid hb0
  have HW := Lib.hid hW
  have H0 := Lib.hid hr0
  obtain ⟨s, hs⟩ : ∃ s, s = w.heap.size := ⟨_, rfl⟩
  rw [← hs] at hr0
  have c0 := cell_of_row W s 0 _ _ (0, 0) hr0
  have c1 := cell_of_row W s 1 _ _ (0, 0) hr0
  have c2 := cell_of_row W s 2 _ _ (0, 0) hr0
  have f0 : W.frozen? ⟨s, 0, none⟩ = false := by simp [World.frozen?, hr0]
  have f1 : W.frozen? ⟨s, 1, none⟩ = false := by simp [World.frozen?, hr0]
  have f2 : W.frozen? ⟨s, 2, none⟩ = false := by simp [World.frozen?, hr0]
  have HS := Lib.hid hs
  clear hr hl hb0 hr0 hW hs
  go_enter Try.func7, Try.ntmps7
  go_wp2_with fail
  rw [← HW.out, ← HS.out]
  go_loopw [3] (fun v3 wr => ∃ (k : Nat), v3 = .int .i64 (k : Int) ∧ k ≤ n ∧ Hid (keptL (xs.take k) = zeroR ∧ wr = W)) (fun v3 _ => n - (intOf v3).toNat)
  case atStart => exact ⟨0, rfl, Nat.zero_le _, Lib.hid ⟨rfl, rfl⟩⟩
  case round =>
    obtain ⟨k, rfl, hk, HO⟩ := hrel
    obtain ⟨hz, rfl⟩ := HO.out
    by_cases hlt : k < n
    · obtain ⟨x, hx⟩ : ∃ x, xs[k]? = some x := ⟨_, List.getElem?_eq_getElem (by rw [HL.out]; exact hlt)⟩
      obtain ⟨b, o, rfl, -, hbl, hc⟩ := HR.out.2 (by omega)
      have hcell := fun j v hv => (HB.out.cell (p := ⟨b, o + k * 3 + j, none⟩) hbl).trans (hc k (R16 x) (by simp [hx]) j v hv)
      have e0 := hcell 0 (.int .i64 x.1) rfl
      have e1 := hcell 1 (.string x.2.1) rfl
      have e2 := hcell 2 (.int .i64 x.2.2) rfl
      simp only [Nat.add_zero] at e0
      by_cases hx0 : x.1 = 0
      · have HF := Lib.hid (kept_step hx hz hx0)
        rw [hx0] at e0
        clear hcell hc hx hx0 hz HO e1 e2
        go_wp2_with fail
        exact ⟨⟨k + 1, by go_num, by omega, Lib.hid ⟨HF.out, by first | trivial | rfl⟩⟩, by simp [intOf]; omega⟩
      · have HF := Lib.hid (kept_at hx hz hx0)
        obtain ⟨x1, x2, x3⟩ := x
        simp only at e0 e1 e2 hx0
        have hxb : (x1 == 0) = false := by simpa using hx0
        have HBW : Hid (Below w.heap.size w (((wr.setCell ⟨s, 0, none⟩ (.int .i64 x1)).setCell ⟨s, 1, none⟩ (.string x2)).setCell ⟨s, 2, none⟩ (.int .i64 x3))) := Lib.hid (((HB.out.setCell (p := ⟨s, 0, none⟩) (Nat.le_of_eq HS.out.symm) _).setCell (p := ⟨s, 1, none⟩) (Nat.le_of_eq HS.out.symm) _).setCell (p := ⟨s, 2, none⟩) (Nat.le_of_eq HS.out.symm) _)
        clear hcell hc hx hx0 hz HO
        go_wp2_with fail
        (try simp only [Exit.inBlock, Exit.then])
        refine bodyPost_ret (v := .agg #[.int .i64 x1, .string x2, .int .i64 x3]) ?_ rfl ⟨by rw [HF.out], HBW.out⟩
        exact results_rep rfl (set3 (by rw [HS.out]; exact H0.out) _ _ _)
    · have hkn : k = n := by omega
      subst hkn
      have HF : Hid (keptL xs = zeroR) := Lib.hid (by rw [← hz, List.take_of_length_le (by rw [HL.out]; exact Nat.le_refl _)])
      have HBW : Hid (Below w.heap.size w (((wr.setCell ⟨s, 0, none⟩ (.int .i64 0)).setCell ⟨s, 1, none⟩ (.string ⟨#[]⟩)).setCell ⟨s, 2, none⟩ (.int .i64 0))) := Lib.hid (((HB.out.setCell (p := ⟨s, 0, none⟩) (Nat.le_of_eq HS.out.symm) _).setCell (p := ⟨s, 1, none⟩) (Nat.le_of_eq HS.out.symm) _).setCell (p := ⟨s, 2, none⟩) (Nat.le_of_eq HS.out.symm) _)
      clear hz HO
      go_wp2_with fail
      refine bodyPost_ret (v := .agg #[.int .i64 0, .string ⟨#[]⟩, .int .i64 0]) ?_ rfl ⟨by rw [HF.out]; rfl, HBW.out⟩
      exact results_rep rfl (set3 (by rw [HS.out]; exact H0.out) _ _ _)
end Go.Proofs.Ytlgpidpnjmbknaa
