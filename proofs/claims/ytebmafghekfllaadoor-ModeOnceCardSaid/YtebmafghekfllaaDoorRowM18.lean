/- The document's rows: a record, and its hits; those that lie in its text. -/
import Derived.Test.YtebmafghekfllaaDoorRecA
import Derived.Deep.MidRow
import Derived.Laws.ResultCell
namespace Go.Proofs.YtebmafghekfllaaDoor
open Go Go.RowKit
set_option linter.unusedVariables false
set_option maxRecDepth 20000
/-- A row: its record's number, where it begins, its text, its hits (where they lie, and what they are). -/
structure Rw where
  n : Int
  p : Int
  tx : ByteArray
  hA : Option Addr
  hm : Nat
  hc : Nat
  hs : List (Int × Int)
def Rw.cells (x : Rw) : List Value := [.int .i64 x.n, .int .i64 x.p, .string x.tx, .slice x.hA x.hm x.hc]
def Rw.val (x : Rw) : Value := .agg #[.int .i64 x.n, .int .i64 x.p, .string x.tx, .slice x.hA x.hm x.hc]
def hcells (p : Int × Int) : List Value := [.int .i64 p.1, .int .i64 p.2]
theorem Rw.wide (x : Rw) : x.cells.length = 4 ∧ ∀ u ∈ x.cells, u.oneCell' = true := by
  refine ⟨rfl, fun u hu => ?_⟩
  simp only [Rw.cells, List.mem_cons, List.not_mem_nil, or_false] at hu
  rcases hu with rfl | rfl | rfl | rfl <;> rfl
theorem hwide (p : Int × Int) : (hcells p).length = 2 ∧ ∀ u ∈ hcells p, u.oneCell' = true := by
  refine ⟨rfl, fun u hu => ?_⟩
  simp only [hcells, List.mem_cons, List.not_mem_nil, or_false] at hu
  rcases hu with rfl | rfl <;> rfl
theorem info_hit : (Tryd.prog.info? 42).map (fun i => (i.zero, i.size, i.bytes)) = some (some (.agg #[.int .i64 0, .int .i64 0]), 2, 16) := by kernel_rfl
theorem hit_cells : Tryd.prog.cellsOf 42 = 2 := by kernel_rfl
theorem row_cells : Tryd.prog.cellsOf 34 = 4 := by kernel_rfl
/-- A row's hits lie where it says. -/
def RHits (w : World) (x : Rw) : Prop := ReadR 0 w x.hA x.hm 2 (x.hs.map hcells) ∧ (x.hA = none → x.hm = 0 ∧ x.hc = 0)
theorem RHits.below {w w' : World} {x : Rw} (h : RHits w x) (hb : Below w.heap.size w w') : RHits w' x := ⟨h.1.below hb, h.2⟩
theorem RHits.len {w : World} {x : Rw} (h : RHits w x) : x.hs.length = x.hm := by have := h.1.1.1; simpa using this
/-- Does a hit lie in a text of so many octets? -/
def okH (z : Nat) (h : Int × Int) : Bool := decide (0 ≤ h.1) && decide (h.1 ≤ h.2) && decide (h.2 ≤ (z : Int))
/-- Those that lie in its text. -/
def goodH (x : Rw) : List (Int × Int) := x.hs.filter (okH x.tx.size)
theorem filter_snoc {l : List (Int × Int)} {k : Nat} {h : Int × Int} (hk : l[k]? = some h) (f : Int × Int → Bool) : (l.take (k + 1)).filter f = (l.take k).filter f ++ if f h = true then [h] else [] := by
  obtain ⟨h1, h2⟩ := List.getElem?_eq_some_iff.1 hk
  rw [List.take_succ_eq_append_getElem h1, h2, List.filter_append]
  congr 1
  rw [List.filter_cons]
  split <;> simp
set_option maxHeartbeats 4000000 in
theorem hits_any (x : Rw) (w : World) (hx : RHits w x) (hm : x.hm ≤ 1000) (hz : x.tx.size ≤ 1000000) :
    Calls Tryd.prog 23 #[x.val] w fun e w' => ∃ A c, e = .returned (.slice A (goodH x).length c) ∧ RecW w' w.heap.size 42 2 (.slice A (goodH x).length c) ((goodH x).map hcells) ∧ Below w.heap.size w w' := by
  obtain ⟨W0, hW0⟩ : ∃ W0, W0 = w.alloc (.cells x.cells.toArray 34) := ⟨_, rfl⟩
  obtain ⟨gx, hgx⟩ : ∃ gx, gx = w.heap.size := ⟨_, rfl⟩
  have hb0 : Below w.heap.size w W0 := by rw [hW0]; exact (Below.refl _ _).alloc (Nat.le_refl _) _
  have hx0 : W0.heap[gx]? = some (.cells x.cells.toArray 34 (0, 0)) := by rw [hW0, hgx]; exact heap_alloc_new _ _
  have hgl : gx < W0.heap.size := (Array.getElem?_eq_some_iff.1 hx0).1
  have HE := Lib.hid fun (w' : World) (hb : Below W0.heap.size W0 w') (i : Nat) (v : Value) (hv : x.cells[i]? = some v) => (by
    rw [cell_of_row w' gx i _ _ (0, 0) ((hb.block gx hgl).trans hx0)]
    simpa using hv : w'.cell? ⟨gx, i, none⟩ = some v)
  have HB := Lib.hid hb0
  have HX := Lib.hid (hx.below hb0)
  have HL := Lib.hid hx.len
  obtain ⟨m, hm2⟩ : ∃ m, m = x.hm := ⟨_, rfl⟩
  obtain ⟨z, hz2⟩ : ∃ z, z = x.tx.size := ⟨_, rfl⟩
  have HM := Lib.hid hm2
  have HZ := Lib.hid hz2
  rw [← hm2] at hm
  rw [← hz2] at hz
  clear hx hb0 hgl hx0 hm2 hz2
  unfold Rw.val
  go_enter Tryd.func23, Tryd.ntmps23
  unfold Rw.cells at hW0
  go_wp2_with fail
  rw [← hW0, ← hgx]
  clear hW0 hgx
  go_loopw [3, 4] (fun vo vi wr => ∃ (i k c : Nat) (A : Option Addr), vo = .slice A k c ∧ vi = .int .i64 (i : Int) ∧ i ≤ m ∧ k ≤ i ∧ Hid (RecW wr W0.heap.size 42 2 (.slice A k c) (((x.hs.take i).filter (okH z)).map hcells) ∧ Below W0.heap.size W0 wr)) (fun _ vi _ => m - (intOf vi).toNat)
  case atStart => exact ⟨0, 0, 0, none, rfl, rfl, Nat.zero_le _, Nat.le_refl _, Lib.hid ⟨RecW.nil _ _ _ _, Below.refl _ _⟩⟩
  case round =>
    obtain ⟨i, k, c, A, rfl, rfl, hi, hk, HO⟩ := hrel
    have hcl := hit_cells
    have e3 := HE.out wr HO.out.2 3 _ rfl
    rw [← HM.out] at e3
    by_cases hlt : i < m
    · obtain ⟨b, o, hA, -, hbw, hc⟩ := HX.out.1.2 (by rw [← HM.out]; omega)
      rw [hA] at e3
      obtain ⟨h, hh⟩ : ∃ h, x.hs[i]? = some h := ⟨_, List.getElem?_eq_getElem (by rw [HL.out, ← HM.out]; exact hlt)⟩
      obtain ⟨f, t⟩ := h
      have hc' := fun j v hv => (HO.out.2.cell (p := ⟨b, o + i * 2 + j, none⟩) hbw).trans (hc i (hcells (f, t)) (by simp [hh]) j v hv)
      have d0 := hc' 0 _ rfl
      have d1 := hc' 1 _ rfl
      simp only [Nat.add_zero] at d0
      have hs := filter_snoc hh (okH z)
      have hbA : Below W0.heap.size W0 (wr.alloc (.cells #[.int .i64 f, .int .i64 t] 42)) := HO.out.2.alloc HO.out.2.size _
      have e2 := HE.out _ hbA 2 _ rfl
      have hrA := HO.out.1.keep (w' := wr.alloc (.cells #[.int .i64 f, .int .i64 t] 42)) fun k hk _ => ((Below.refl wr.heap.size wr).alloc (Nat.le_refl _) _).block k hk
      obtain ⟨A2, c2, w2, happ, hr2, hb2⟩ := app_rec 32 42 _ 2 16 Tryd.underlying32 info_hit rfl (by decide) (by decide) hrA hbA (hcells (f, t)) (hwide _) (by omega)
      rw [show (wr.alloc (.cells #[.int .i64 f, .int .i64 t] 42)).heap.size = wr.heap.size + 1 by simp] at happ
      have HRA := Lib.hid (And.intro hrA hbA)
      have HAP := Lib.hid happ
      have HR2 := Lib.hid (And.intro hr2 hb2)
      have HS := Lib.hid hs
      unfold hcells at HAP
      dsimp only at HAP
      have HZ2 : x.tx.size = z := HZ.out.symm
      clear hc hc' hh hs hbA hrA happ hr2 hb2
      have fin0 : okH z (f, t) = false → Hid (RecW (wr.alloc (.cells #[.int .i64 f, .int .i64 t] 42)) W0.heap.size 42 2 (.slice A k c) (((x.hs.take (i + 1)).filter (okH z)).map hcells) ∧ Below W0.heap.size W0 (wr.alloc (.cells #[.int .i64 f, .int .i64 t] 42))) := fun h0 => Lib.hid (by rw [HS.out, h0, if_neg (by decide), List.append_nil]; exact HRA.out)
      have fin1 : okH z (f, t) = true → Hid (RecW w2 W0.heap.size 42 2 (.slice A2 (k + 1) c2) (((x.hs.take (i + 1)).filter (okH z)).map hcells) ∧ Below W0.heap.size W0 w2) := fun h0 => Lib.hid (by rw [HS.out, h0, if_pos rfl, List.map_append]; exact HR2.out)
      have F0 := Lib.hid fin0
      have F1 := Lib.hid fin1
      clear fin0 fin1
      by_cases h1 : 0 ≤ f
      · by_cases h2 : f ≤ t
        · by_cases h3 : t ≤ (z : Int)
          · have hok : okH z (f, t) = true := by simp [okH, h1, h2, h3]
            have HF := F1.out hok
            clear hok
            go_wp2_with (at_builtin; refine wpList_append_run rfl (.tmp 37) (.tmp 39) 32 rfl rfl _ _ _ _ rfl rfl HAP.out ?_)
            exact ⟨⟨i + 1, k + 1, c2, A2, (by first | rfl | exact ⟨rfl, rfl, rfl⟩), (by first | rfl | omega | go_num), by omega, by omega, HF⟩, by simp [intOf]; omega⟩
          · have hok : okH z (f, t) = false := by simp [okH, h3]
            have HF := F0.out hok
            clear hok
            go_wp2_with fail
            exact ⟨⟨i + 1, k, c, A, (by first | rfl | exact ⟨rfl, rfl, rfl⟩), (by first | rfl | omega | go_num), by omega, by omega, HF⟩, by simp [intOf]; omega⟩
        · have hok : okH z (f, t) = false := by simp [okH, h2]
          have HF := F0.out hok
          clear hok
          go_wp2_with fail
          exact ⟨⟨i + 1, k, c, A, (by first | rfl | exact ⟨rfl, rfl, rfl⟩), (by first | rfl | omega | go_num), by omega, by omega, HF⟩, by simp [intOf]; omega⟩
      · have hok : okH z (f, t) = false := by simp [okH, h1]
        have HF := F0.out hok
        clear hok
        go_wp2_with fail
        exact ⟨⟨i + 1, k, c, A, (by first | rfl | exact ⟨rfl, rfl, rfl⟩), (by first | rfl | omega | go_num), by omega, by omega, HF⟩, by simp [intOf]; omega⟩
    · have him : i = m := by omega
      subst him
      go_wp2_with fail
      go_ret
      have hg : (x.hs.take i).filter (okH z) = goodH x := by
        rw [List.take_of_length_le (by rw [HL.out, ← HM.out]; exact Nat.le_refl _), HZ.out]
        rfl
      have hr := HO.out.1
      rw [hg] at hr
      have hl := rec_len hr
      rw [List.length_map] at hl
      subst hl
      exact ⟨A, c, rfl, hr.base HB.out.size, HB.out.trans (HO.out.2.mono HB.out.size)⟩
end Go.Proofs.YtebmafghekfllaaDoor
