/- The program's lines of hits. -/
import Derived.Test.YtebmafghekfllaaDoorModL18
namespace Go.Proofs.YtebmafghekfllaaDoor
open Go Go.RowKit
set_option linter.unusedVariables false
set_option maxRecDepth 20000
set_option maxHeartbeats 8000000 in
theorem each_any (x : Rw) (A : Option Addr) (z c : Nat) (w : World) (hT : Pow18 w) (hr : ReadR 0 w A z 2 ((goodH x).map hcells)) (h0 : -9223372036854775808 ≤ x.n) (h1 : x.n ≤ 9223372036854775807) (hz : z ≤ 10) (ht : x.tx.size ≤ 60) :
    Calls Tryd.prog 18 #[recV x.n x.p x.tx, .slice A z c] w fun e w' => ∃ A2 c2, e = .returned (.slice A2 z c2) ∧ RecW w' w.heap.size 9 1 (.slice A2 z c2) (strs (linesX x)) ∧ Below w.heap.size w w' := by
  have hzl : (goodH x).length = z := by have := hr.1.1; simpa using this
  obtain ⟨W0, hW0⟩ : ∃ W0, W0 = w.alloc (.cells #[.int .i64 x.n, .int .i64 x.p, .string x.tx] 31) := ⟨_, rfl⟩
  obtain ⟨gx, hgx⟩ : ∃ gx, gx = w.heap.size := ⟨_, rfl⟩
  have hb0 : Below w.heap.size w W0 := by rw [hW0]; exact (Below.refl _ _).alloc (Nat.le_refl _) _
  have hx0 : W0.heap[gx]? = some (.cells #[.int .i64 x.n, .int .i64 x.p, .string x.tx] 31 (0, 0)) := by rw [hW0, hgx]; exact heap_alloc_new _ _
  have hgl : gx < W0.heap.size := (Array.getElem?_eq_some_iff.1 hx0).1
  have HE := Lib.hid fun (w' : World) (hb : Below W0.heap.size W0 w') => (⟨cell_of_row w' gx 0 _ _ (0, 0) ((hb.block gx hgl).trans hx0), cell_of_row w' gx 1 _ _ (0, 0) ((hb.block gx hgl).trans hx0), cell_of_row w' gx 2 _ _ (0, 0) ((hb.block gx hgl).trans hx0)⟩ : w'.cell? ⟨gx, 0, none⟩ = some (.int .i64 x.n) ∧ w'.cell? ⟨gx, 1, none⟩ = some (.int .i64 x.p) ∧ w'.cell? ⟨gx, 2, none⟩ = some (.string x.tx))
  have HB := Lib.hid hb0
  have HX := Lib.hid (hr.below hb0)
  have HZ := Lib.hid hzl
  have HT := Lib.hid (hT.on hb0)
  have HN := Lib.hid (And.intro h0 h1)
  clear hr hb0 hgl hx0 hzl hT h0 h1
  unfold recV
  go_enter Tryd.func18, Tryd.ntmps18
  go_wp2_with fail
  rw [← hW0, ← hgx]
  clear hW0 hgx
  go_loopw [5, 11] (fun vo vi wr => ∃ (i c2 : Nat) (A2 : Option Addr), vo = .slice A2 i c2 ∧ vi = .int .i64 (i : Int) ∧ i ≤ z ∧ Hid (RecW wr W0.heap.size 9 1 (.slice A2 i c2) (strs ((linesX x).take i)) ∧ Below W0.heap.size W0 wr)) (fun _ vi _ => z - (intOf vi).toNat)
  case atStart => exact ⟨0, 0, none, rfl, rfl, Nat.zero_le _, Lib.hid ⟨RecW.nil _ _ _ _, Below.refl _ _⟩⟩
  case round =>
    obtain ⟨i, c2, A2, rfl, rfl, hi, HO⟩ := hrel
    have hcl := hit_cells
    by_cases hlt : i < z
    · obtain ⟨b, o, rfl, -, hbw, hc⟩ := HX.out.2 (by omega)
      obtain ⟨p, hp⟩ : ∃ p, (goodH x)[i]? = some p := ⟨_, List.getElem?_eq_getElem (by rw [HZ.out]; exact hlt)⟩
      obtain ⟨ok0, ok1, ok2⟩ := good_ok (List.mem_of_getElem? hp)
      obtain ⟨pf, pt⟩ := p
      dsimp only at ok0 ok1 ok2
      obtain ⟨f, rfl⟩ : ∃ f : Nat, pf = (f : Int) := ⟨pf.toNat, by omega⟩
      obtain ⟨t, rfl⟩ : ∃ t : Nat, pt = (t : Int) := ⟨pt.toNat, by omega⟩
      have hf60 : f ≤ 60 := by omega
      have ht60 : t ≤ 60 := by omega
      have hc' := fun j v hv => (HO.out.2.cell (p := ⟨b, o + i * 2 + j, none⟩) hbw).trans (hc i (hcells ((f : Int), (t : Int))) (by simp [hp]) j v hv)
      have d0 := hc' 0 _ rfl
      have d1 := hc' 1 _ rfl
      simp only [Nat.add_zero] at d0
      have hlx : (linesX x)[i]? = some (lineH x ((f : Int), (t : Int))) := by unfold linesX; simp [hp]
      have htk := take_snocL hlx
      have hla : lineH x ((f : Int), (t : Int)) = itoaS x.n ++ ⟨#[58]⟩ ++ (itoaS (f : Int) ++ ⟨#[45]⟩ ++ itoaS (t : Int) ++ ⟨#[58]⟩ ++ x.tx.extract f t) := by unfold lineH; simp only [ByteArray.append_assoc]; rfl
      rw [hla] at htk
      obtain ⟨q, hq⟩ : ∃ q, q = x.tx.extract f t := ⟨_, rfl⟩
      have hqs : q.size ≤ 60 := by rw [hq, ByteArray.size_extract]; omega
      have hcut : ∀ w : World, (Instr.slice 9 (.string x.tx) (some (.int .i64 (f : Int))) (some (.int .i64 (t : Int))) none).run Tryd.prog w = .ok (.string q) w := fun w => by
        rw [hq]
        have hr := run_slice_string (P := Tryd.prog) w 9 x.tx .i64 .i64 (f : Int) (t : Int) Tryd.underlying9 (by omega) (by omega) (by omega)
        rw [Int.toNat_natCast, Int.toNat_natCast] at hr
        exact hr
      rw [← hq] at htk
      have zf := itoaS_size f (by omega)
      have zt := itoaS_size t (by omega)
      obtain ⟨sf, hsf⟩ : ∃ s, s = itoaS (f : Int) := ⟨_, rfl⟩
      obtain ⟨st, hst⟩ : ∃ s, s = itoaS (t : Int) := ⟨_, rfl⟩
      obtain ⟨W2, hW2⟩ : ∃ W2, W2 = wr.alloc (.cells #[.int .i64 (f : Int), .int .i64 (t : Int)] 42) := ⟨_, rfl⟩
      obtain ⟨hd, hhd⟩ : ∃ hd, hd = wr.heap.size := ⟨_, rfl⟩
      have hb2 : Below W0.heap.size W0 W2 := by rw [hW2]; exact HO.out.2.alloc HO.out.2.size _
      have hx2 : W2.heap[hd]? = some (.cells #[.int .i64 (f : Int), .int .i64 (t : Int)] 42 (0, 0)) := by rw [hW2, hhd]; exact heap_alloc_new _ _
      have hdl : hd < W2.heap.size := (Array.getElem?_eq_some_iff.1 hx2).1
      have hr2 : RecW W2 W0.heap.size 9 1 (.slice A2 i c2) (strs ((linesX x).take i)) := by rw [hW2]; exact HO.out.1.keep fun k hk _ => ((Below.refl wr.heap.size wr).alloc (Nat.le_refl _) _).block k hk
      have HI := Lib.hid (And.intro hr2 hb2)
      have HTF := Lib.hid fun (w' : World) (hb : Below W0.heap.size W0 w') => itoa_on HT.out (f : Int) (by omega) (by omega) w' hb
      have HTT := Lib.hid fun (w' : World) (hb : Below W0.heap.size W0 w') => itoa_on HT.out (t : Int) (by omega) (by omega) w' hb
      rw [← hsf] at HTF zf htk
      rw [← hst] at HTT zt htk
      have l1 : ¬ 9223372036854775807 < sf.size + 1 := by omega
      have l2 : ¬ 9223372036854775807 < sf.size + 1 + st.size := by omega
      have l3 : ¬ 9223372036854775807 < sf.size + 1 + st.size + 1 := by omega
      have l4 : ¬ 9223372036854775807 < sf.size + 1 + st.size + 1 + q.size := by omega
      have HL := Lib.hid fun (w' : World) (hb : Below W0.heap.size W0 w') => line_any x.n x.p x.tx ⟨#[58]⟩ (sf ++ ⟨#[45]⟩ ++ st ++ ⟨#[58]⟩ ++ q) w' (HT.out.on hb) HN.out.1 HN.out.2 (by decide) (by simp only [ByteArray.size_append]; show _ + 1 + _ + 1 + _ ≤ _; omega)
      unfold recV at HL
      have g3 : ∀ w', (Below W0.heap.size W0 w' ∧ w'.heap[hd]? = W2.heap[hd]?) → w'.cell? ⟨gx, 0, none⟩ = some (.int .i64 x.n) := fun w' h => (HE.out w' h.1).1
      have g4 : ∀ w', (Below W0.heap.size W0 w' ∧ w'.heap[hd]? = W2.heap[hd]?) → w'.cell? ⟨gx, 1, none⟩ = some (.int .i64 x.p) := fun w' h => (HE.out w' h.1).2.1
      have g5 : ∀ w', (Below W0.heap.size W0 w' ∧ w'.heap[hd]? = W2.heap[hd]?) → w'.cell? ⟨gx, 2, none⟩ = some (.string x.tx) := fun w' h => (HE.out w' h.1).2.2
      have g6 : ∀ w', (Below W0.heap.size W0 w' ∧ w'.heap[hd]? = W2.heap[hd]?) → w'.cell? ⟨hd, 0, none⟩ = some (.int .i64 (f : Int)) := fun w' h => cell_of_row w' hd 0 _ _ (0, 0) (h.2.trans hx2)
      have g7 : ∀ w', (Below W0.heap.size W0 w' ∧ w'.heap[hd]? = W2.heap[hd]?) → w'.cell? ⟨hd, 1, none⟩ = some (.int .i64 (t : Int)) := fun w' h => cell_of_row w' hd 1 _ _ (0, 0) (h.2.trans hx2)
      have HPK := Lib.hid fun (w' w'' : World) (h1 : Below W0.heap.size W0 w' ∧ w'.heap[hd]? = W2.heap[hd]?) (h2 : Below w'.heap.size w' w'') => ((⟨h1.1.trans (h2.mono h1.1.size), (h2.block hd (by have h3 := h1.2; rw [hx2] at h3; exact (Array.getElem?_eq_some_iff.1 h3).1)).trans h1.2⟩ : Below W0.heap.size W0 w'' ∧ w''.heap[hd]? = W2.heap[hd]?))
      have HTK := Lib.hid htk
      have HX2 := Lib.hid hx2
      have hS0 : Below W0.heap.size W0 W2.drew ∧ W2.drew.heap[hd]? = W2.heap[hd]? := ⟨below_drewN hb2 1, rfl⟩
      clear hc hc' hp hlx htk hla hq hqs zf zt hsf hst hr2 hb2 hx2 hdl hf60 ht60 ok0 ok1 ok2
      go_wp2_with fail
      rw [← hW2, ← hhd]
      clear hW2 hhd d0 d1 HO
      go_region_held (fun w' => Below W0.heap.size W0 w' ∧ w'.heap[hd]? = W2.heap[hd]?) (assumption) (first
        | (go_at_call 26; (with_reducible refine (HTT.out wA hS1.1).mono ?_); rintro e wB ⟨rfl, hB⟩; have hS2 := HPK.out wA wB hS1 hB; have HBB := Lib.hid (HBA.out.trans (hB.mono HBA.out.size)); clear hB)
        | (go_at_call 26; (with_reducible refine (HTF.out W2.drew hS0.1).mono ?_); rintro e wA ⟨rfl, hA⟩; have hS1 := HPK.out W2.drew wA hS0 hA; have HBA : Hid (Below W2.heap.size W2 wA) := Lib.hid ⟨hA.os, hA.tape, hA.output, hA.size, hA.block⟩; clear hA))
      clear hS0 hS1 HBA HTF HTT
      have hrB : RecW wB W0.heap.size 9 1 (.slice A2 i c2) (strs ((linesX x).take i)) := HI.out.1.keep fun k hk _ => HBB.out.block k hk
      have HIB := Lib.hid hrB
      clear hrB
      have hS3 : Below W0.heap.size W0 wB.drew ∧ wB.drew.heap[hd]? = W2.heap[hd]? := ⟨below_drewN hS2.1 1, hS2.2⟩
      simp only [Exit.then]
      go_wp2_with fail
      go_region_held_law (fun w' => Below W0.heap.size W0 w' ∧ w'.heap[hd]? = W2.heap[hd]?) (first | assumption | (exact HSA.out)) (first
        | (go_at_call 27; (with_reducible refine (HL.out wB.drew hS3.1).mono ?_); rintro e wF ⟨rfl, hF⟩; have hS4 := HPK.out wB.drew wF hS3 hF; have HBF : Hid (Below wB.heap.size wB wF) := Lib.hid ⟨hF.os, hF.tape, hF.output, hF.size, hF.block⟩; obtain ⟨A6, c6, w6, ha1, ha2, ha3, ha4⟩ := app_strK (w := W0) HIB.out hS2.1 HBF.out (itoaS x.n ++ ⟨#[58]⟩ ++ (sf ++ ⟨#[45]⟩ ++ st ++ ⟨#[58]⟩ ++ q)) (by omega); have HAP := Lib.hid ha1; have H6 := Lib.hid (And.intro ha2 ha3); have hS5 : Below W0.heap.size W0 w6 ∧ w6.heap[hd]? = W2.heap[hd]? := ⟨ha3, (ha4 hd _ _ _ (hS4.2.trans HX2.out) (by decide)).trans hS4.2⟩; have HSA := Lib.hid (HPK.out wF _ hS4 ((Below.refl wF.heap.size wF).alloc (Nat.le_refl _) (.cells #[.string (itoaS x.n ++ ⟨#[58]⟩ ++ (sf ++ ⟨#[45]⟩ ++ st ++ ⟨#[58]⟩ ++ q))] 9))); clear hF ha1 ha2 ha3 ha4)
        | (refine step_append_run rfl (.tmp 23) (.tmp 36) 29 rfl rfl _ _ _ _ rfl rfl HAP.out ?_))
      have HF : Hid (RecW w6 W0.heap.size 9 1 (.slice A6 (i + 1) c6) (strs ((linesX x).take (i + 1))) ∧ Below W0.heap.size W0 w6) := Lib.hid ⟨by rw [HTK.out]; exact H6.out.1, hS5.1⟩
      clear hS2 hS3 hS4 hS5 HSA HAP H6 HBF HBB HIB g3 g4 g5 g6 g7 hcut l1 l2 l3 l4
      simp only [Exit.inBlock, Exit.then]
      go_wp2_with fail
      exact ⟨⟨i + 1, c6, A6, (by first | rfl | exact ⟨rfl, rfl, rfl⟩), by go_num, by omega, HF⟩, by simp [intOf]; omega⟩
    · have him : i = z := by omega
      subst him
      have hfull : (linesX x).take i = linesX x := List.take_of_length_le (by unfold linesX; rw [List.length_map, HZ.out]; exact Nat.le_refl _)
      rw [hfull] at HO
      clear hfull
      go_wp2_with fail
      go_ret
      exact ⟨A2, c2, rfl, HO.out.1.base HB.out.size, HB.out.trans (HO.out.2.mono HB.out.size)⟩
end Go.Proofs.YtebmafghekfllaaDoor
