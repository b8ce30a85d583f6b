/- The document's example of a teller, of any teller that answers so. -/
import Derived.Test.YtebmafghekfllaaDoorTelA18
import Derived.Test.YtebmafghekfllaaDoorTexts18
import Derived.Test.YtebmafghekfllaaDoorLinA18
namespace Go.Proofs.YtebmafghekfllaaDoor
open Go Go.RowKit
set_option linter.unusedVariables false
set_option maxRecDepth 20000
/-- What context asks of a row. -/
def shp (x : Rw) : Int × ByteArray × Bool := (x.n, x.tx, hitX x)
section
variable {l m : List Rw}
theorem shp_at (h : l.map shp = m.map shp) (i : Nat) : l[i]?.map shp = m[i]?.map shp := by
  rw [← List.getElem?_map, ← List.getElem?_map, h]
theorem shp_len (h : l.map shp = m.map shp) : l.length = m.length := by simpa using congrArg List.length h
theorem hitB_shp (i : Nat) : hitB l i = match l[i]?.map shp with | some s => s.2.2 | none => false := by
  unfold hitB
  cases l[i]? <;> rfl
theorem hitB_congr (h : l.map shp = m.map shp) (i : Nat) : hitB l i = hitB m i := by rw [hitB_shp, hitB_shp, shp_at h]
theorem nearB_congr (h : l.map shp = m.map shp) (c d : Int) : nearB l c d = nearB m c d := by
  unfold nearB
  rw [shp_len h]
  congr 1
  funext i
  rw [hitB_congr h]
theorem tellB_congr (h : l.map shp = m.map shp) (b a i : Nat) : tellB l b a i = tellB m b a i := by
  unfold tellB
  rw [hitB_congr h, nearB_congr h, nearB_congr h]
theorem sepB_shp (i j : Nat) : sepB l i (some j) = match l[i]?.map shp, l[j]?.map shp with | some s, some t => decide (s.1 ≠ succI t.1) | _, _ => false := by
  unfold sepB
  dsimp only
  cases l[i]? <;> cases l[j]? <;> rfl
theorem sepB_congr (h : l.map shp = m.map shp) (i : Nat) (o : Option Nat) : sepB l i o = sepB m i o := by
  rcases o with _ | j
  · rfl
  · rw [sepB_shp, sepB_shp, shp_at h, shp_at h]
theorem stepC_congr (h : l.map shp = m.map shp) (b a : Nat) (s : List ByteArray × Option Nat) (i : Nat) : stepC l b a s i = stepC m b a s i := by
  unfold stepC
  rw [tellB_congr h, sepB_congr h, hitB_congr h]
  have h1 := shp_at h i
  cases hl : l[i]? <;> cases hm : m[i]? <;> rw [hl, hm] at h1 <;> simp [shp] at h1 ⊢
  rename_i x y
  have : lineS x (hitB m i) = lineS y (hitB m i) := by unfold lineS; rw [h1.1, h1.2.1]
  rw [this]
theorem ctxS_congr (h : l.map shp = m.map shp) (b a k : Nat) : ctxS l b a k = ctxS m b a k := by
  unfold ctxS
  congr 1
  funext s i
  exact stepC_congr h b a s i
theorem ctxL_congr (h : l.map shp = m.map shp) (b a : Nat) : ctxL l b a = ctxL m b a := by
  unfold ctxL
  rw [ctxS_congr h, shp_len h]
end
def letS (i : Nat) : ByteArray := ⟨#[UInt8.ofNat (97 + i)]⟩
/-- A row of the example. -/
def exX (i : Nat) (hit : Bool) : Rw := if hit = true then ⟨(i : Int), 0, letS i, none, 1, 1, [(0, 0)]⟩ else ⟨(i : Int), 0, letS i, none, 0, 0, []⟩
def exL : List Rw := [exX 0 false, exX 1 true, exX 2 false, exX 3 false, exX 4 true]
theorem ex_ctx : ctxL exL 1 1 = [lineS (exX 0 false) false, lineS (exX 1 true) true, lineS (exX 2 false) false, lineS (exX 3 false) false, lineS (exX 4 true) true] := by kernel_rfl
theorem ex_lines : [lineS (exX 0 false) false, lineS (exX 1 true) true, lineS (exX 2 false) false, lineS (exX 3 false) false, lineS (exX 4 true) true] = [⟨#[48, 45, 97]⟩, ⟨#[49, 58, 98]⟩, ⟨#[50, 45, 99]⟩, ⟨#[51, 45, 100]⟩, ⟨#[52, 58, 101]⟩] := by
  have h (u : Nat) (hu : u < 10) (hit : Bool) : lineS (exX u hit) hit = ⟨#[UInt8.ofNat (48 + u)]⟩ ++ (if hit = true then ⟨#[58]⟩ else ⟨#[45]⟩) ++ letS u := by
    unfold lineS
    rw [show (exX u hit).n = (u : Int) by cases hit <;> rfl, show (exX u hit).tx = letS u by cases hit <;> rfl, itoaS_small u hu]
  rw [h 0 (by decide), h 1 (by decide), h 2 (by decide), h 3 (by decide), h 4 (by decide)]
  decide
theorem letter_str (w : World) (i : Nat) (h : i < 10) : (convert 49 9 (.slice (some ⟨w.heap.size, 0, none⟩) 1 1)).run Tryd.prog (w.alloc (.cells #[.int .u8 (97 + (i : Int))] 5)) = .ok (.string (letS i)) (w.alloc (.cells #[.int .u8 (97 + (i : Int))] 5)) := by
  have hc : ∀ j, j < 1 → (w.alloc (.cells #[.int .u8 (97 + (i : Int))] 5)).cell? ⟨w.heap.size, 0 + j, none⟩ = some (.int .u8 ([97 + (i : Int)].getD j 0)) := fun j hj => by
    have : j = 0 := by omega
    subst this
    rw [cell_of_row _ _ _ _ _ (0, 0) (heap_alloc_new w _)]
    rfl
  have := run_convert_bytes_arg (P := Tryd.prog) (w.alloc (.cells #[.int .u8 (97 + (i : Int))] 5)) 49 5 Tryd.underlying49 Tryd.underlying5 w.heap.size 0 1 1 [97 + (i : Int)] rfl hc 9 Tryd.underlying9
  rw [this]
  congr 2
section
variable {P : TelP} {G : World → Prop} (T : TelF G P)
include T
set_option maxHeartbeats 8000000 in
theorem awake18_any (w : World) (hG : G w) : Calls Tryd.prog 7 #[] w fun e w' => e = .returned (.bool true) ∧ Below w.heap.size w w' := by
  have HGG := Lib.hid hG
  have HN := Lib.hid (show Calls Tryd.prog 8 #[.int .i64 3, .int .i64 1, .int .i64 1] w _ from tNew T hG 3 1 1 (Below.refl w.heap.size w) (by decide) (by decide) (by decide))
  go_enter Tryd.func7, Tryd.ntmps7
  go_wp2_with fail
  (with_reducible refine HN.out.mono ?_); rintro e w1 ⟨g, rfl, h1, hb1⟩
  have H1 := Lib.hid h1
  clear h1 hb1
  go_wp2_with fail
  go_loopw [3, 4] (fun vo vi wr => ∃ (i n c : Nat) (A : Option Addr) (l : List Rw), i ≤ 5 ∧ n ≤ 10 ∧ vo = .slice A n c ∧ vi = .int .i64 (i : Int) ∧ Hid (l.map shp = (exL.take i).map shp ∧ RecW wr w.heap.size 9 1 (.slice A n c) (strs (ctxL l 1 1)) ∧ Tel P w wr (fun q => (Value.slice A n c).ownBlock = some q) g 3 1 1 l false)) (fun _ vi _ => 5 - (intOf vi).toNat)
  case atStart => exact ⟨0, 0, 0, none, [], Nat.zero_le _, Nat.zero_le _, rfl, rfl, Lib.hid ⟨rfl, RecW.nil _ _ _ _, H1.out.sub fun q h => by cases h⟩⟩
  case round =>
    obtain ⟨i, n, c, A, l, hi, hn, rfl, rfl, HO⟩ := hrel
    by_cases hlt : i < 5
    · have hls := letter_str wr i (by omega)
      have ew : IntKind.u8.wrap (97 + (i : Int)) = 97 + (i : Int) := by simp [IntKind.wrap, IntKind.bits, IntKind.signed]; omega
      have hb1 : Below wr.heap.size wr (wr.alloc (.cells #[.int .u8 (97 + (i : Int))] 5)) := (Below.refl _ _).alloc (Nat.le_refl _) _
      obtain ⟨W1, hW1⟩ : ∃ W1, W1 = wr.alloc (.cells #[.int .u8 (97 + (i : Int))] 5) := ⟨_, rfl⟩
      rw [← hW1] at hb1
      have HRX := Lib.hid fun (hit : Bool) (w' : World) => row_any (i : Int) (letS i) hit w'
      have hl := shp_len HO.out.1
      have hli : l.length = i := by rw [hl, List.length_take]; show min i 5 = i; omega
      have HLI := Lib.hid hli
      have HFX := Lib.hid fun (hit : Bool) (hib : exL[i]? = some (exX i hit)) (w2 : World) (x : Rw) (hx : (x.n = (i : Int) ∧ x.tx = letS i ∧ hitX x = hit ∧ x.hm ≤ 1) ∧ RHits w2 x ∧ (0 < x.hm → ∃ b o, x.hA = some ⟨b, o, none⟩ ∧ W1.heap.size ≤ b ∧ b < w2.heap.size) ∧ Below W1.heap.size W1 w2) => (by
        obtain ⟨⟨x1, x2, x3, x4⟩, x5, x6, x7⟩ := hx
        obtain ⟨hs, hr, ht⟩ := HO.out
        have hbw : Below wr.heap.size wr w2 := hb1.trans (x7.mono hb1.size)
        have hb3 : Below w2.heap.size w2 (w2.alloc (.cells #[.int .i64 x.n, .int .i64 x.p, .string x.tx, .slice x.hA x.hm x.hc] 34)) := (Below.refl _ _).alloc (Nat.le_refl _) _
        have hb4 := hbw.trans (hb3.mono hbw.size)
        have hs2 : (l ++ [x]).map shp = (exL.take (i + 1)).map shp := by
          rw [take_snocL hib, List.map_append, List.map_append, hs]
          have : shp x = shp (exX i hit) := by
            unfold shp
            rw [x1, x2, x3]
            cases hit
            · rfl
            · show _ = ((i : Int), letS i, !(List.filter (okH (letS i).size) [(0, 0)]).isEmpty)
              rw [List.filter_cons, show okH (letS i).size (0, 0) = true by unfold okH; simp, if_pos rfl]
              rfl
          simp [this]
        have hz1 : (letS i).size = 1 := rfl
        have hsz := hb1.size
        have hcl := ctxS_len (l ++ [x]) 1 1 (l ++ [x]).length
        have hcl2 : (ctxL (l ++ [x]) 1 1).length ≤ 10 := by
          unfold ctxL
          rw [List.length_append, hli] at hcl
          rw [List.length_append, hli]
          simp only [List.length_singleton] at hcl ⊢
          omega
        have hA := tell_add T HGG.out (ht.fresh T hb4) (hr.keep fun q hq _ => hb4.block q hq) (fun q h => .inl h) x (x5.below hb3) (by omega) (by rw [x2, hz1]; decide) (by omega) (by omega) (by omega) (fun h0 b o e => by
          obtain ⟨b', o', e2, h1, h2⟩ := x6 h0
          rw [e] at e2
          injection e2 with e2
          injection e2 with e2
          subst e2
          refine .inr (.inr ⟨by omega, ?_⟩)
          have := hb3.size
          omega) (by show (ctxL (l ++ [x]) 1 1).length ≤ 2000; omega)
        exact ⟨Lib.hid hA, Lib.hid fun w5 A' c' nm (HE : Hid (nm = (linesV 3 1 1 (l ++ [x]) false).1.length ∧ RecW w5 w.heap.size 9 1 (.slice A' nm c') (strs (linesV 3 1 1 (l ++ [x]) false).1) ∧ Tel P w w5 (fun q => (Value.slice A' nm c').ownBlock = some q) g 3 1 1 (l ++ [x]) false)) => ⟨by rw [HE.out.1]; exact hcl2, Lib.hid ⟨hs2, HE.out.2⟩⟩⟩ :
          Hid (Calls Tryd.prog 9 #[.pointer (some ⟨g, 0, none⟩), x.rcd, .slice x.hA x.hm x.hc] (w2.alloc (.cells #[.int .i64 x.n, .int .i64 x.p, .string x.tx, .slice x.hA x.hm x.hc] 34)) fun e w' => ∃ (D : Option Addr) (m d : Nat), e = .returned (.slice D m d) ∧ Below w.heap.size w w' ∧ ∃ A' c' w5, (Builtin.append_ #[29, 29] 29 #[.slice A n c, .slice D m d]).run Tryd.prog w' = .ok (.slice A' (n + m) c') w5 ∧
            Hid (n + m = (linesV 3 1 1 (l ++ [x]) false).1.length ∧ RecW w5 w.heap.size 9 1 (.slice A' (n + m) c') (strs (linesV 3 1 1 (l ++ [x]) false).1) ∧ Tel P w w5 (fun q => (Value.slice A' (n + m) c').ownBlock = some q) g 3 1 1 (l ++ [x]) false)) ∧
          Hid (∀ (w5 : World) (A' : Option Addr) (c' nm : Nat), Hid (nm = (linesV 3 1 1 (l ++ [x]) false).1.length ∧ RecW w5 w.heap.size 9 1 (.slice A' nm c') (strs (linesV 3 1 1 (l ++ [x]) false).1) ∧ Tel P w w5 (fun q => (Value.slice A' nm c').ownBlock = some q) g 3 1 1 (l ++ [x]) false) → nm ≤ 10 ∧ Hid ((l ++ [x]).map shp = (exL.take (i + 1)).map shp ∧ RecW w5 w.heap.size 9 1 (.slice A' nm c') (strs (ctxL (l ++ [x]) 1 1)) ∧ Tel P w w5 (fun q => (Value.slice A' nm c').ownBlock = some q) g 3 1 1 (l ++ [x]) false)))
      unfold Rw.rcd at HFX
      have hcl := row_cells
      clear HO hl hli hb1
      obtain ⟨HIT, HIT2⟩ : ∃ hit : Bool, hit = (decide (i = 1) || decide (i = 4)) := ⟨_, rfl⟩
      have HIB : exL[i]? = some (exX i HIT) := by
        rcases i with _ | _ | _ | _ | _ | i
        · subst HIT2; rfl
        · subst HIT2; rfl
        · subst HIT2; rfl
        · subst HIT2; rfl
        · subst HIT2; rfl
        · omega
      by_cases i1 : i = 1
      · have q1 : ((i : Int) == 1) = true := by rw [i1]; rfl
        have HT : HIT = true := by rw [HIT2, i1]; rfl
        subst HT
        clear HIT2 i1
        have HIBH := Lib.hid HIB
        clear HIB
        go_wp2_with fail
        rw [← hW1]
        clear hW1 hls ew
        (with_reducible refine (HRX.out true W1).mono ?_); rintro e w2 ⟨x, rfl, hx⟩
        obtain ⟨HA2, HB2⟩ := HFX.out true HIBH.out w2 x hx
        unfold Rw.val
        clear hx
        go_wp2_with (first
          | (go_at_call 9; (with_reducible refine HA2.out.mono ?_); rintro e w4 ⟨D, m, d, rfl, -, A', c', w5, happ, HE⟩; have HAP := Lib.hid happ; clear happ)
          | (at_builtin; refine wpList_append_run rfl _ _ 29 rfl rfl _ _ _ _ rfl rfl HAP.out ?_))
        obtain ⟨hm10, HE2⟩ := HB2.out w5 A' c' (n + m) HE
        exact ⟨⟨i + 1, n + m, c', A', l ++ [x], by omega, hm10, (by first | rfl | exact ⟨rfl, rfl, rfl⟩), by go_num, HE2⟩, by simp [intOf]; omega⟩
      · by_cases i4 : i = 4
        · have q1 : ((i : Int) == 1) = false := by rw [i4]; rfl
          have q4 : ((i : Int) == 4) = true := by rw [i4]; rfl
          have HT : HIT = true := by rw [HIT2, i4]; rfl
          subst HT
          clear HIT2 i1 i4
          have HIBH := Lib.hid HIB
          clear HIB
          go_wp2_with fail
          rw [← hW1]
          clear hW1 hls ew
          (with_reducible refine (HRX.out true W1).mono ?_); rintro e w2 ⟨x, rfl, hx⟩
          obtain ⟨HA2, HB2⟩ := HFX.out true HIBH.out w2 x hx
          unfold Rw.val
          clear hx
          go_wp2_with (first
            | (go_at_call 9; (with_reducible refine HA2.out.mono ?_); rintro e w4 ⟨D, m, d, rfl, -, A', c', w5, happ, HE⟩; have HAP := Lib.hid happ; clear happ)
            | (at_builtin; refine wpList_append_run rfl _ _ 29 rfl rfl _ _ _ _ rfl rfl HAP.out ?_))
          obtain ⟨hm10, HE2⟩ := HB2.out w5 A' c' (n + m) HE
          exact ⟨⟨i + 1, n + m, c', A', l ++ [x], by omega, hm10, (by first | rfl | exact ⟨rfl, rfl, rfl⟩), by go_num, HE2⟩, by simp [intOf]; omega⟩
        · have q1 : ((i : Int) == 1) = false := by simp; omega
          have q4 : ((i : Int) == 4) = false := by simp; omega
          have HT : HIT = false := by rw [HIT2]; simp [i1, i4]
          subst HT
          clear HIT2 i1 i4
          have HIBH := Lib.hid HIB
          clear HIB
          go_wp2_with fail
          rw [← hW1]
          clear hW1 hls ew
          (with_reducible refine (HRX.out false W1).mono ?_); rintro e w2 ⟨x, rfl, hx⟩
          obtain ⟨HA2, HB2⟩ := HFX.out false HIBH.out w2 x hx
          unfold Rw.val
          clear hx
          go_wp2_with (first
            | (go_at_call 9; (with_reducible refine HA2.out.mono ?_); rintro e w4 ⟨D, m, d, rfl, -, A', c', w5, happ, HE⟩; have HAP := Lib.hid happ; clear happ)
            | (at_builtin; refine wpList_append_run rfl _ _ 29 rfl rfl _ _ _ _ rfl rfl HAP.out ?_))
          obtain ⟨hm10, HE2⟩ := HB2.out w5 A' c' (n + m) HE
          exact ⟨⟨i + 1, n + m, c', A', l ++ [x], by omega, hm10, (by first | rfl | exact ⟨rfl, rfl, rfl⟩), by go_num, HE2⟩, by simp [intOf]; omega⟩
    · have hi5 : i = 5 := by omega
      subst hi5
      have hc5 : ctxL l 1 1 = [⟨#[48, 45, 97]⟩, ⟨#[49, 58, 98]⟩, ⟨#[50, 45, 99]⟩, ⟨#[51, 45, 100]⟩, ⟨#[52, 58, 101]⟩] := by
        rw [ctxL_congr (show l.map shp = exL.map shp from HO.out.1), ex_ctx, ex_lines]
      obtain ⟨hs, hr, ht⟩ := HO.out
      rw [hc5] at hr
      have hn5 := rec_len hr
      have hn5 : 5 = n := hn5
      subst hn5
      have hbw := ht.bel
      obtain ⟨D, d, e1, hrd, -, -, -⟩ := hr.read
      injection e1 with e1 e2 e3
      clear e2
      subst e1
      have e3' : c = d := e3
      clear e3
      subst e3'
      obtain ⟨W1, hW1⟩ : ∃ W1, W1 = wr.alloc (.cells #[.string ⟨#[48, 45, 97]⟩, .string ⟨#[49, 58, 98]⟩, .string ⟨#[50, 45, 99]⟩, .string ⟨#[51, 45, 100]⟩, .string ⟨#[52, 58, 101]⟩] 9) := ⟨_, rfl⟩
      have hb1 : Below wr.heap.size wr W1 := by rw [hW1]; exact (Below.refl _ _).alloc (Nat.le_refl _) _
      have hblk : W1.heap[wr.heap.size]? = some (.cells #[.string ⟨#[48, 45, 97]⟩, .string ⟨#[49, 58, 98]⟩, .string ⟨#[50, 45, 99]⟩, .string ⟨#[51, 45, 100]⟩, .string ⟨#[52, 58, 101]⟩] 9 (0, 0)) := by rw [hW1]; exact heap_alloc_new wr _
      have hr2 : ReadR 0 W1 (some ⟨wr.heap.size, 0, none⟩) 5 1 (strs [⟨#[48, 45, 97]⟩, ⟨#[49, 58, 98]⟩, ⟨#[50, 45, 99]⟩, ⟨#[51, 45, 100]⟩, ⟨#[52, 58, 101]⟩]) := by
        refine ⟨⟨rfl, fun y hy => ?_⟩, fun _ => ⟨_, 0, rfl, Nat.zero_le _, (Array.getElem?_eq_some_iff.1 hblk).1, fun j x hx i v hv => ?_⟩⟩
        · obtain ⟨s, _, rfl⟩ := List.mem_map.1 hy
          exact swide s
        · rw [cell_of_row W1 _ _ _ _ (0, 0) hblk]
          unfold strs at hx
          rw [List.getElem?_map] at hx
          obtain ⟨s, hs, rfl⟩ := Option.map_eq_some_iff.1 hx
          rcases i with _ | i
          · simp only [List.getElem?_cons_zero, Option.some.injEq] at hv
            subst hv
            rcases j with _ | _ | _ | _ | _ | j <;> simp at hs ⊢ <;> exact hs
          · simp at hv
      have HT := Lib.hid (texts18 _ A (some ⟨wr.heap.size, 0, none⟩) 5 c 5 W1 ((hrd.base (Nat.zero_le _)).below hb1) hr2 (by decide))
      have HB := Lib.hid (hbw.trans (hb1.mono hbw.size))
      clear HO hs hr ht hc5 hrd hr2 hblk hb1 hbw
      go_wp2_with fail
      rw [← hW1]
      clear hW1
      (with_reducible refine HT.out.mono ?_); rintro e w2 ⟨rfl, q, rfl⟩
      go_wp2_with fail
      go_ret
      exact ⟨rfl, below_drewN HB.out q⟩
end
end Go.Proofs.YtebmafghekfllaaDoor
