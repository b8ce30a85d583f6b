/- A row of octets that grows: texts, octets, numbers put behind it. -/
import Derived.Test.YtajnedkjmgjjbaaDoorM02
import Derived.Test.YtajnedkjmgjjbaaDoorM03
import Derived.Test.YtajnedkjmgjjbaaDoorM04
import Derived.Test.YtajnedkjmgjjbaaDoorM05
import Derived.Test.YtajnedkjmgjjbaaDoorM15
import Derived.Lib.OthersKept
import Derived.Lib.AppendStr
import Derived.Deep.RegionHeldLaw
import Derived.Deep.RegionLaw
import Derived.BigQuiet
namespace Go.Proofs.YtajnedkjmgjjbaaDoor
open Go Go.RowKit
set_option linter.unusedVariables false
set_option maxRecDepth 20000

/-- The row of octets at V reads as the text S. -/
def Buf (B : Nat) (w : World) (V : Value) (S : ByteArray) : Prop := w.ownsRow B 5 1 V S.size (Lib.byteCells S.data.toList)
/-- Below B nothing has turned, and above it nothing but rows of octets. -/
def FrO (B : Nat) (w w' : World) : Prop := Below B w w' ∧ Lib.OthersKept 5 none w w'
theorem FrO.refl (B : Nat) (w : World) : FrO B w w := ⟨Below.refl _ _, Lib.OthersKept.refl _ _ _⟩
theorem FrO.trans {B : Nat} {a b c : World} (h : FrO B a b) (k : FrO B b c) : FrO B a c := ⟨h.1.trans k.1, h.2.trans k.2⟩
theorem FrO.drewN {B : Nat} {a b : World} (h : FrO B a b) (q : Nat) : FrO B a (b.drewN q) := ⟨below_drewN h.1 q, h.2⟩
theorem FrO.drew {B : Nat} {a b : World} (h : FrO B a b) : FrO B a b.drew := ⟨h.1.drew, h.2⟩
theorem FrO.alloc {B : Nat} {a b : World} (h : FrO B a b) (hB : B ≤ a.heap.size) (o : Obj) : FrO B a (b.alloc o) := ⟨h.1.alloc (Nat.le_trans hB h.1.size) o, h.2.alloc o⟩
theorem FrO.mono {B B' : Nat} {a b : World} (h : FrO B a b) (hB : B' ≤ B) : FrO B' a b := ⟨h.1.mono hB, h.2⟩
/-- A block that is no row of octets stays. -/
theorem FrO.keep {B : Nat} {a b : World} (h : FrO B a b) {k : Nat} {cs : Array Value} {t : TypeId} {fr : Nat × Nat} (hk : a.heap[k]? = some (.cells cs t fr)) (ht : t ≠ 5) : b.heap[k]? = some (.cells cs t fr) :=
  h.2 k _ hk (by simp) fun c fz e => by injection e with _ e _; exact ht e

/-- append in a region that draws, by what its run is known to give (of a text behind octets). -/
theorem step_append2 {P : Program} {ops : Array Oper} {o : Oper} {a : Act} {w : World} {K : Act → World → Prop} {Q : Exit → Act → World → Prop} {E : Prop} (hgd : o.guard = none) (s x : Operand) (t u : TypeId)
    (ho : o.op = .call { callee := .builtin .append, args := #[s, x], argTypes := #[t, u] }) (hty : o.type = t)
    (v y v' : Value) (w' : World) (hs : a.eval s = v) (hx : a.eval x = y) (hrun : (Builtin.append_ #[t, u] t #[v, y]).run P w = .ok v' w')
    (hK : K (a.put o.dst v') w') : if Region.wanted o (yielded ops a.tmps) = true then Oper.wp P o a w K Q else E := by
  have hw : Region.wanted o (yielded ops a.tmps) = true := by simp [Region.wanted, hgd]
  rw [if_pos hw]
  subst hty
  unfold Oper.wp
  simp [execOp, ho, resolve, invoke, builtin, hs, hx, hrun, Result.andThen]
  exact hK
/-- append in a region that draws, by what its run is known to give. -/
theorem step_append_run {P : Program} {ops : Array Oper} {o : Oper} {a : Act} {w : World} {K : Act → World → Prop} {Q : Exit → Act → World → Prop} {E : Prop} (hgd : o.guard = none) (s x : Operand) (t : TypeId)
    (ho : o.op = .call { callee := .builtin .append, args := #[s, x], argTypes := #[t, t] }) (hty : o.type = t)
    (v y v' : Value) (w' : World) (hs : a.eval s = v) (hx : a.eval x = y) (hrun : (Builtin.append_ #[t, t] t #[v, y]).run P w = .ok v' w')
    (hK : K (a.put o.dst v') w') : if Region.wanted o (yielded ops a.tmps) = true then Oper.wp P o a w K Q else E := by
  have hw : Region.wanted o (yielded ops a.tmps) = true := by simp [Region.wanted, hgd]
  rw [if_pos hw]
  subst hty
  unfold Oper.wp
  simp [execOp, ho, resolve, invoke, builtin, hs, hx, hrun, Result.andThen]
  exact hK

/-- append in a list of operations. -/
theorem wpList_append2 {P : Program} {w : World} {ops : Array Oper} {rest : List Oper} {o : Oper} {a : Act} {Q : Exit → Act → World → Prop} (hgd : o.guard = none) (s x : Operand) (t u : TypeId)
    (ho : o.op = .call { callee := .builtin .append, args := #[s, x], argTypes := #[t, u] }) (hty : o.type = t)
    (v y v' : Value) (w' : World) (hs : a.eval s = v) (hx : a.eval x = y) (hrun : (Builtin.append_ #[t, u] t #[v, y]).run P w = .ok v' w')
    (h : wpList P ops Q rest (a.put o.dst v') w') : wpList P ops Q (o :: rest) a w := by
  subst hty
  refine wpList_plain hgd fun K hK => ?_
  unfold Oper.wp
  simp [execOp, ho, resolve, invoke, builtin, hs, hx, hrun, Result.andThen]
  exact hK _ _ h

theorem info_oct : (Tryd.prog.info? 5).map (fun i => (i.zero, i.size, i.bytes)) = some (some (.int .u8 0), 1, 1) := by kernel_rfl
section
variable {w w' : World} {B : Nat} {V : Value} {S : ByteArray}
theorem Buf.nil_ (B : Nat) (w : World) : Buf B w (.slice none 0 0) ByteArray.empty := World.ownsRow_nil _ _ _ _
theorem Buf.slice (h : Buf B w V S) : ∃ A c, V = .slice A S.size c ∧ RowI .u8 w A S.size (nums S) ∧ S.size ≤ c ∧ c ≤ maxLen := by
  have e : Lib.byteCells S.data.toList = (nums S).map (.int .u8) := by simp [Lib.byteCells, nums]
  unfold Buf at h
  rw [e] at h
  have hl := nums_length S
  rw [← hl] at h ⊢
  exact row_of_own h
theorem Buf.alloc (h : Buf B w V S) (o : Obj) : Buf B (w.alloc o) V S := own_alloc h o
theorem Buf.drewN (h : Buf B w V S) (q : Nat) : Buf B (w.drewN q) V S := h
theorem Buf.drew (h : Buf B w V S) : Buf B w.drew V S := h
theorem Buf.grown_frame (h : Buf B w V S) (hB : B ≤ w.heap.size) {a : World} (hf : FrO B a w) (hg : w.grownBy w' V.ownBlock) : FrO B a w' := by
  refine ⟨hf.1.grown hg hB fun k hk => (row_lt h hk).1, hf.2.grown hg fun g hk => ?_⟩
  rcases h.2 with ⟨e, _⟩ | ⟨b, cap, cur, e, _, hr, _⟩
  · subst e; cases hk
  · subst e
    injection hk with hk
    subst hk
    exact ⟨cur, (0, 0), hr⟩
/-- A text is put behind. -/
theorem buf_str (h : Buf B w V S) (T : ByteArray) (hB : B ≤ w.heap.size) (hs : S.size + T.size ≤ 140000000) :
    ∃ V' w', (Builtin.append_ #[39, 9] 39 #[V, .string T]).run Tryd.prog w = .ok V' w' ∧ Buf B w' V' (S ++ T) ∧ FrO B w w' := by
  obtain ⟨i0, hi, hz0, hz1, hz2⟩ := info_parts info_oct
  obtain ⟨V', w', h1, h2, h3, _⟩ := Lib.run_append_own_string (P := Tryd.prog) w B 39 9 39 5 i0 Tryd.underlying39 Tryd.underlying9 hi hz0 hz1 hz2 V S.size _ h T (by unfold maxLen; omega) (by omega) hB
  refine ⟨V', w', h1, ?_, h.grown_frame hB (FrO.refl _ _) h3⟩
  unfold Buf
  rw [show (S ++ T).data.toList = S.data.toList ++ T.data.toList by simp, show Lib.byteCells (S.data.toList ++ T.data.toList) = Lib.byteCells S.data.toList ++ Lib.strCells T by simp [Lib.byteCells, Lib.strCells], ba_size]
  exact h2
/-- An octet is put behind: it lies in a block of its own, just made. -/
theorem buf_byte (h : Buf B w V S) (c : UInt8) (k : Int) (hk : k = (c.toNat : Int)) (hB : B ≤ w.heap.size) (hs : S.size ≤ 140000000) :
    ∃ V' w', (Builtin.append_ #[39, 39] 39 #[V, .slice (some ⟨w.heap.size, 0, none⟩) 1 1]).run Tryd.prog (w.alloc (.cells #[.int .u8 k] 5)) = .ok V' w' ∧ Buf B w' V' (S ++ strB [c]) ∧ FrO B w w' := by
  subst hk
  obtain ⟨V', w', h1, h2, h3⟩ := push_run 39 5 (.int .u8 0) 1 Tryd.underlying39 info_oct rfl w B V S.size _ h (.int .u8 (c.toNat : Int)) rfl (by omega) (by unfold maxLen; omega) hB
  refine ⟨V', w', h1, ?_, (h.alloc (.cells #[.int .u8 (c.toNat : Int)] 5)).grown_frame (by simp; omega) ((FrO.refl _ _).alloc hB _) h3⟩
  unfold Buf
  rw [show (S ++ strB [c]).data.toList = S.data.toList ++ [c] by simp [strB], show Lib.byteCells (S.data.toList ++ [c]) = Lib.byteCells S.data.toList ++ [.int .u8 (c.toNat : Int)] by simp [Lib.byteCells], ba_size]
  exact h2
end
/-- The table of powers, as it was laid; nothing below B turns. -/
def Tab (B : Nat) (w : World) : Prop := Lib.TabBelow Tryd.prog B w "internal/strconv.uint64pow10" .u64 Lib.pow10Tab
theorem Tab.on {B : Nat} {w w' : World} (h : Tab B w) (hb : Below B w w') : Tab B w' := Lib.TabBelow.on h hb
theorem Tab.up {B B' : Nat} {w : World} (h : Tab B w) (hB : B ≤ B') : Tab B' w := fun w' hb => h w' (hb.mono hB)
/-- A number is put behind. -/
theorem number_buf {B : Nat} {w : World} {V : Value} {S : ByteArray} (h : Buf B w V S) (n : Int) (hn : In64 n) (hB : B ≤ w.heap.size) (hs : S.size ≤ 140000000) (ht : Tab B w) :
    Calls Tryd.prog 44 #[V, .int .i64 n] w fun e w' => ∃ V', e = .returned V' ∧ Buf B w' V' (S ++ digB n) ∧ FrO B w w' := by
  have HA := Lib.hid (Tryd.append_int B S.size n hn.1 hn.2 V _ w h hB (by omega) ht)
  obtain ⟨A, c, rfl, _⟩ := h.slice
  clear h
  go_enter Tryd.func44, Tryd.ntmps44
  go_wp2_with (go_at_call 59; (with_reducible refine HA.out.mono ?_); rintro e w1 ⟨v, rfl, ho, hb, hk⟩; have HO := Lib.hid (And.intro ho (And.intro hb hk)); clear ho hb hk)
  go_ret
  refine ⟨v, rfl, ?_, HO.out.2⟩
  have := HO.out.1
  unfold Buf
  rw [show (S ++ digB n).data.toList = S.data.toList ++ Lib.itoa n by simp [digB], Lib.byteCells_append, ba_size, show (digB n).size = (Lib.itoa n).length by simp [digB, ByteArray.size]]
  exact this
end Go.Proofs.YtajnedkjmgjjbaaDoor
/- The program's showSet. -/
namespace Go.Proofs.YtajnedkjmgjjbaaDoor
open Go Go.RowKit
set_option linter.unusedVariables false
set_option maxRecDepth 20000

theorem setB_nil : setB [] = ByteArray.empty := rfl
/-- The first range; one more. -/
theorem set_step0 {S1 U : ByteArray} {s : List (Int × Int)} {j : Nat} {p : Int × Int} (hU : U = S1 ++ setB (s.take j)) (ht : s.take (j + 1) = s.take j ++ [p]) (h0 : j = 0) : U ++ rngB p = S1 ++ setB (s.take (j + 1)) := by
  rw [ht, hU, h0, List.take_zero, setB_nil, ba_nil]; rfl
theorem set_step1 {S1 U : ByteArray} {s : List (Int × Int)} {j : Nat} {p : Int × Int} (hU : U = S1 ++ setB (s.take j)) (ht : s.take (j + 1) = s.take j ++ [p]) (h0 : 0 < j) : U ++ strB [32] ++ rngB p = S1 ++ setB (s.take (j + 1)) := by
  have hne : s.take j ≠ [] := fun e => by
    rw [e, List.nil_append] at ht
    have := congrArg List.length ht
    rw [List.length_take, List.length_singleton] at this
    have h2 := congrArg List.length e
    rw [List.length_take, List.length_nil] at h2
    omega
  rw [ht, setB_snoc, if_neg hne, hU]
  simp only [ba_assoc]
set_option maxHeartbeats 4000000 in
theorem showSet_buf {w0 w : World} {V : Value} {S : ByteArray} {A : Option Addr} {n c : Nat} {s : List (Int × Int)} (h : Buf w0.heap.size w V S) (hb : Below w0.heap.size w0 w) (ht : Tab w0.heap.size w) (hr : RowG w0 A n s) (hw : ∀ p ∈ s, In64 p.1 ∧ In64 p.2) (hs : S.size + 50 * n ≤ 100000000) :
    Calls Tryd.prog 42 #[V, .slice A n c] w fun e w' => ∃ V', e = .returned V' ∧ Buf w0.heap.size w' V' (S ++ strB [123] ++ setB s ++ strB [125]) ∧ FrO w0.heap.size w w' := by
  obtain ⟨V1, w1, ha1, hb1, hf1⟩ := buf_byte h 123 123 rfl hb.size (by omega)
  obtain ⟨S1, hS1⟩ : ∃ T, T = S ++ strB [123] := ⟨_, rfl⟩
  have hS1s : S1.size ≤ S.size + 1 := by rw [hS1, ba_size, strB_size]; exact Nat.le_refl _
  rw [← hS1] at hb1 ⊢
  obtain ⟨A1, c1, rfl, _⟩ := hb1.slice
  obtain ⟨A0, c0, rfl, _⟩ := h.slice
  have HR := Lib.hid hr
  have HWF := Lib.hid hw
  have HB := Lib.hid (And.intro hb ht)
  have H1 := Lib.hid (And.intro hb1 hf1)
  have hn : n ≤ 2000000 := by omega
  clear h hb ht hr hw hb1 hf1 hS1
  go_enter Tryd.func42, Tryd.ntmps42
  go_wp2_with (at_builtin; refine wpList_append_run rfl _ _ 39 rfl rfl _ _ _ _ rfl rfl ha1 ?_)
  go_loopw [0, 12] (fun vb vi wr => ∃ (j : Nat) (U : ByteArray), vi = .int .i64 (j : Int) ∧ j ≤ n ∧ U.size ≤ S.size + 1 + 46 * j ∧
    ∃ (A : Option Addr) (c : Nat), vb = .slice A U.size c ∧ Hid (Buf w0.heap.size wr (.slice A U.size c) U ∧ FrO w0.heap.size w wr ∧ U = S1 ++ setB (s.take j))) (fun _ vi _ => n - (intOf vi).toNat)
  case atStart => exact ⟨0, S1, rfl, Nat.zero_le _, by omega, A1, c1, rfl, Lib.hid ⟨H1.out.1, H1.out.2, by rw [List.take_zero, setB_nil, ba_nil]⟩⟩
  case round =>
    obtain ⟨j, U, rfl, hj, hU, Ab, cb, rfl, H⟩ := hrel
    by_cases hlt : j < n
    · obtain ⟨b, o, rfl, hblt, hc⟩ := HR.out.2 (by omega)
      obtain ⟨e0, e1⟩ := hc j hlt
      have hbw : Below w0.heap.size w0 wr := HB.out.1.trans H.out.2.1.1
      have c0 := (hbw.cell (p := ⟨b, o + j * 2, none⟩) hblt).trans e0
      have c1 := (hbw.cell (p := ⟨b, o + j * 2 + 1, none⟩) hblt).trans e1
      have hmem : s.getD j (0, 0) ∈ s := by
        rw [List.getD, List.getElem?_eq_getElem (by have := HR.out.1; omega)]
        exact List.getElem_mem _
      have htk : s.take (j + 1) = s.take j ++ [s.getD j (0, 0)] := by
        rw [List.take_succ_eq_append_getElem (by have := HR.out.1; omega)]
        simp [List.getD, List.getElem?_eq_getElem (show j < s.length by have := HR.out.1; omega)]
      have hwf := HWF.out _ hmem
      obtain ⟨r, hrr⟩ : ∃ r, r = s.getD j (0, 0) := ⟨_, rfl⟩
      rw [← hrr] at c0 c1 htk hwf
      obtain ⟨x, y⟩ := r
      dsimp only at c0 c1 hwf
      clear hc e0 e1 hmem hrr
      have hBw : w0.heap.size ≤ w.heap.size := HB.out.1.size
      have hdx := digB_size hwf.1
      have hdy := digB_size hwf.2
      rcases Nat.eq_zero_or_pos j with h0 | h0
      · have hj0 : ¬ 0 < j := by omega
        have HTK := Lib.hid (And.intro htk h0)
        clear htk h0
        have HBX := Lib.hid (heap_alloc_new wr (.cells #[.int .i64 x, .int .i64 y] 42))
        have HFW := Lib.hid (H.out.2.1.alloc hBw (.cells #[.int .i64 x, .int .i64 y] 42))
        have HN := Lib.hid (number_buf (H.out.1.alloc (.cells #[.int .i64 x, .int .i64 y] 42)) x hwf.1 (Nat.le_trans HB.out.1.size (H.out.2.1.alloc hBw (.cells #[.int .i64 x, .int .i64 y] 42)).1.size) (by omega) (HB.out.2.on (H.out.2.1.alloc hBw (.cells #[.int .i64 x, .int .i64 y] 42)).1))
        by_cases hxy : x = y
        · subst hxy
          have hne : (x != x) = false := by simp
          go_wp2_with (first
            | (go_at_call 44; (with_reducible refine HN.out.mono ?_); rintro e w2 ⟨V2, rfl, hb2, hf2⟩; obtain ⟨A2, c2, rfl, _⟩ := hb2.slice; have hbx := hf2.keep (k := wr.heap.size) HBX.out (by decide); have q0 := cell_of_row w2 wr.heap.size 0 _ _ (0, 0) hbx; have q1 := cell_of_row w2 wr.heap.size 1 _ _ (0, 0) hbx; have H2 := Lib.hid (And.intro hb2 hf2); clear hb2 hf2 hbx))
          refine ⟨⟨j + 1, U ++ digB x, by go_num, by omega, by rw [ba_size]; omega, _, _, by first | rfl | (rw [ba_size]), Lib.hid ⟨H2.out.1, HFW.out.trans H2.out.2, ?_⟩⟩, by simp [intOf]; omega⟩
          rw [← set_step0 H.out.2.2 HTK.out.1 HTK.out.2, show rngB (x, x) = digB x from if_pos rfl]
        · have hne : (x != y) = true := by simpa using hxy
          go_wp2_with (first
            | (go_at_call 44; (with_reducible refine HN.out.mono ?_); rintro e w2 ⟨V2, rfl, hb2, hf2⟩; obtain ⟨U2, hU2⟩ : ∃ T, T = U ++ digB x := ⟨_, rfl⟩; rw [← hU2] at hb2; have hU2s : U2.size ≤ U.size + 21 := (by rw [hU2, ba_size]; omega); obtain ⟨A2, c2, rfl, _⟩ := hb2.slice; have hbx := hf2.keep (k := wr.heap.size) HBX.out (by decide); have q0 := cell_of_row w2 wr.heap.size 0 _ _ (0, 0) hbx; have q1 := cell_of_row w2 wr.heap.size 1 _ _ (0, 0) hbx; have H2 := Lib.hid (And.intro hb2 (And.intro hf2 (And.intro hU2 hbx))); clear hb2 hf2 hU2 hbx))
          have hB2 : w0.heap.size ≤ w2.heap.size := Nat.le_trans HB.out.1.size (Nat.le_trans HFW.out.1.size H2.out.2.1.1.size)
          obtain ⟨V3, w3, ha3, hb3, hf3⟩ := buf_byte (w := w2.drew) H2.out.1 45 45 rfl (by exact hB2) (by omega)
          obtain ⟨U3, hU3⟩ : ∃ T, T = U2 ++ strB [45] := ⟨_, rfl⟩
          have hU3s : U3.size ≤ U2.size + 1 := by rw [hU3, ba_size, strB_size]; exact Nat.le_refl _
          rw [← hU3] at hb3
          obtain ⟨A3, c3, rfl, _⟩ := hb3.slice
          have ha3d : (Builtin.append_ #[39, 39] 39 #[.slice A2 U2.size c2, .slice (some ⟨w2.heap.size, 0, none⟩) 1 1]).run Tryd.prog (w2.alloc (.cells #[.int .u8 45] 5)).drew = .ok (.slice A3 U3.size c3) w3 := ha3
          have hb2d : w2.drew.heap[wr.heap.size]? = some (.cells #[.int .i64 x, .int .i64 y] 42 (0, 0)) := H2.out.2.2.2
          have p2 := fun o => cell_of_row (w2.alloc o) wr.heap.size 1 _ _ (0, 0) (((FrO.refl w0.heap.size w2).alloc hB2 o).keep hb2d (by decide))
          have p3 := cell_of_row w3 wr.heap.size 1 _ _ (0, 0) (hf3.keep hb2d (by decide))
          have hfw3 : FrO w0.heap.size w w3 := (HFW.out.trans (H2.out.2.1.drew)).trans hf3
          have HN3 := Lib.hid (number_buf hb3 y hwf.2 (Nat.le_trans HB.out.1.size hfw3.1.size) (by omega) (HB.out.2.on hfw3.1))
          have H3 := Lib.hid (And.intro hfw3 hU3)
          clear hb3 hf3 hU3 hfw3 hb2d
          clear q0 ha3
          go_region_law (first
            | (refine step_append_run rfl _ _ 39 rfl rfl _ _ _ _ rfl rfl ha3d ?_)
            | (go_simp; go_at_call 44; (with_reducible refine HN3.out.mono ?_); rintro e w4 ⟨V4, rfl, hb4, hf4⟩; obtain ⟨A4, c4, rfl, _⟩ := hb4.slice; have H4 := Lib.hid (And.intro hb4 hf4); clear hb4 hf4))
          all_goals
            go_wp2
            refine ⟨⟨j + 1, U3 ++ digB y, by go_num, by omega, by rw [ba_size]; omega, _, _, by first | rfl | (rw [ba_size]), Lib.hid ⟨H4.out.1, H3.out.1.trans H4.out.2, ?_⟩⟩, by simp [intOf]; omega⟩
            rw [← set_step0 H.out.2.2 HTK.out.1 HTK.out.2, show rngB (x, y) = digB x ++ (strB [45] ++ digB y) from if_neg (fun e => hxy e.symm), H3.out.2, H2.out.2.2.1]
            simp only [ba_assoc]
      · have HTK := Lib.hid (And.intro htk h0)
        obtain ⟨V8, w8, ha8, hb8, hf8⟩ := buf_byte (H.out.1.alloc (.cells #[.int .i64 x, .int .i64 y] 42)) 32 32 rfl (Nat.le_trans (Nat.le_trans hBw H.out.2.1.1.size) (by simp)) (by omega)
        rw [show (wr.alloc (.cells #[.int .i64 x, .int .i64 y] 42)).heap.size = wr.heap.size + 1 by simp] at ha8
        obtain ⟨U8, hU8⟩ : ∃ T, T = U ++ strB [32] := ⟨_, rfl⟩
        have hU8s : U8.size ≤ U.size + 1 := by rw [hU8, ba_size, strB_size]; exact Nat.le_refl _
        rw [← hU8] at hb8
        obtain ⟨A8, c8, rfl, _⟩ := hb8.slice
        have hbx8 := hf8.keep (k := wr.heap.size) (heap_alloc_new wr (.cells #[.int .i64 x, .int .i64 y] 42)) (by decide)
        have r0 := cell_of_row w8 wr.heap.size 0 _ _ (0, 0) hbx8
        have HBX := Lib.hid hbx8
        have hf8o := Lib.hid ((H.out.2.1.alloc hBw (.cells #[.int .i64 x, .int .i64 y] 42)).trans hf8)
        have hb8o := Lib.hid hb8
        have HU8 := Lib.hid hU8
        clear htk hb8 hf8 hU8 hbx8
        have HFW := Lib.hid hf8o.out
        have HN := Lib.hid (number_buf hb8o.out x hwf.1 (Nat.le_trans HB.out.1.size hf8o.out.1.size) (by omega) (HB.out.2.on hf8o.out.1))
        by_cases hxy : x = y
        · subst hxy
          have hne : (x != x) = false := by simp
          go_wp2_with (first
            | (at_builtin; refine wpList_append_run rfl _ _ 39 rfl rfl _ _ _ _ rfl rfl ha8 ?_)
            | (go_at_call 44; (with_reducible refine HN.out.mono ?_); rintro e w2 ⟨V2, rfl, hb2, hf2⟩; obtain ⟨A2, c2, rfl, _⟩ := hb2.slice; have hbx := hf2.keep (k := wr.heap.size) HBX.out (by decide); have q0 := cell_of_row w2 wr.heap.size 0 _ _ (0, 0) hbx; have q1 := cell_of_row w2 wr.heap.size 1 _ _ (0, 0) hbx; have H2 := Lib.hid (And.intro hb2 hf2); clear hb2 hf2 hbx))
          refine ⟨⟨j + 1, U8 ++ digB x, by go_num, by omega, by rw [ba_size]; omega, _, _, by first | rfl | (rw [ba_size]), Lib.hid ⟨H2.out.1, HFW.out.trans H2.out.2, ?_⟩⟩, by simp [intOf]; omega⟩
          rw [← set_step1 H.out.2.2 HTK.out.1 HTK.out.2, show rngB (x, x) = digB x from if_pos rfl]
          rw [HU8.out]
        · have hne : (x != y) = true := by simpa using hxy
          go_wp2_with (first
            | (at_builtin; refine wpList_append_run rfl _ _ 39 rfl rfl _ _ _ _ rfl rfl ha8 ?_)
            | (go_at_call 44; (with_reducible refine HN.out.mono ?_); rintro e w2 ⟨V2, rfl, hb2, hf2⟩; obtain ⟨U2, hU2⟩ : ∃ T, T = U8 ++ digB x := ⟨_, rfl⟩; rw [← hU2] at hb2; have hU2s : U2.size ≤ U8.size + 21 := (by rw [hU2, ba_size]; omega); obtain ⟨A2, c2, rfl, _⟩ := hb2.slice; have hbx := hf2.keep (k := wr.heap.size) HBX.out (by decide); have q0 := cell_of_row w2 wr.heap.size 0 _ _ (0, 0) hbx; have q1 := cell_of_row w2 wr.heap.size 1 _ _ (0, 0) hbx; have H2 := Lib.hid (And.intro hb2 (And.intro hf2 (And.intro hU2 hbx))); clear hb2 hf2 hU2 hbx))
          have hB2 : w0.heap.size ≤ w2.heap.size := Nat.le_trans HB.out.1.size (Nat.le_trans HFW.out.1.size H2.out.2.1.1.size)
          obtain ⟨V3, w3, ha3, hb3, hf3⟩ := buf_byte (w := w2.drew) H2.out.1 45 45 rfl (by exact hB2) (by omega)
          obtain ⟨U3, hU3⟩ : ∃ T, T = U2 ++ strB [45] := ⟨_, rfl⟩
          have hU3s : U3.size ≤ U2.size + 1 := by rw [hU3, ba_size, strB_size]; exact Nat.le_refl _
          rw [← hU3] at hb3
          obtain ⟨A3, c3, rfl, _⟩ := hb3.slice
          have ha3d : (Builtin.append_ #[39, 39] 39 #[.slice A2 U2.size c2, .slice (some ⟨w2.heap.size, 0, none⟩) 1 1]).run Tryd.prog (w2.alloc (.cells #[.int .u8 45] 5)).drew = .ok (.slice A3 U3.size c3) w3 := ha3
          have hb2d : w2.drew.heap[wr.heap.size]? = some (.cells #[.int .i64 x, .int .i64 y] 42 (0, 0)) := H2.out.2.2.2
          have p2 := fun o => cell_of_row (w2.alloc o) wr.heap.size 1 _ _ (0, 0) (((FrO.refl w0.heap.size w2).alloc hB2 o).keep hb2d (by decide))
          have p3 := cell_of_row w3 wr.heap.size 1 _ _ (0, 0) (hf3.keep hb2d (by decide))
          have hfw3 : FrO w0.heap.size w w3 := (HFW.out.trans (H2.out.2.1.drew)).trans hf3
          have HN3 := Lib.hid (number_buf hb3 y hwf.2 (Nat.le_trans HB.out.1.size hfw3.1.size) (by omega) (HB.out.2.on hfw3.1))
          have H3 := Lib.hid (And.intro hfw3 hU3)
          clear hb3 hf3 hU3 hfw3 hb2d
          clear q0 ha3
          go_region_law (first
            | (refine step_append_run rfl _ _ 39 rfl rfl _ _ _ _ rfl rfl ha3d ?_)
            | (go_simp; go_at_call 44; (with_reducible refine HN3.out.mono ?_); rintro e w4 ⟨V4, rfl, hb4, hf4⟩; obtain ⟨A4, c4, rfl, _⟩ := hb4.slice; have H4 := Lib.hid (And.intro hb4 hf4); clear hb4 hf4))
          all_goals
            go_wp2
            refine ⟨⟨j + 1, U3 ++ digB y, by go_num, by omega, by rw [ba_size]; omega, _, _, by first | rfl | (rw [ba_size]), Lib.hid ⟨H4.out.1, H3.out.1.trans H4.out.2, ?_⟩⟩, by simp [intOf]; omega⟩
            rw [← set_step1 H.out.2.2 HTK.out.1 HTK.out.2, show rngB (x, y) = digB x ++ (strB [45] ++ digB y) from if_neg (fun e => hxy e.symm), H3.out.2, H2.out.2.2.1]
            rw [HU8.out]
            simp only [ba_assoc]
    · have hjn : j = n := by omega
      subst hjn
      obtain ⟨V9, w9, ha9, hb9, hf9⟩ := buf_byte H.out.1 125 125 rfl (by have := HB.out.1.size; have := H.out.2.1.1.size; omega) (by omega)
      have H9 := Lib.hid (And.intro hb9 hf9)
      clear hb9 hf9
      go_wp2_with (at_builtin; refine wpList_append_run rfl _ _ 39 rfl rfl _ _ _ _ rfl rfl ha9 ?_)
      go_ret
      refine ⟨V9, rfl, ?_, H.out.2.1.trans H9.out.2⟩
      have := H9.out.1
      rw [H.out.2.2, List.take_of_length_le (by have := HR.out.1; omega)] at this
      exact this
end Go.Proofs.YtajnedkjmgjjbaaDoor
/- The document's Show. -/
namespace Go.Proofs.YtajnedkjmgjjbaaDoor
open Go Go.RowKit
set_option linter.unusedVariables false
set_option maxRecDepth 20000

theorem oneB_cons (op : Int) (s : List (Int × Int)) (mn mx : Int) (k : Wood) : oneB (.cons op s mn mx k .nil) = nodeB op s mn mx (kidsB k) := rfl
def NodeL (op : Int) (A : Option Addr) (ns cs : Nat) (mn mx : Int) (D : Option Addr) (nk ck : Nat) : Value := .agg #[.int .i64 op, .slice A ns cs, .int .i64 mn, .int .i64 mx, .slice D nk ck]

set_option maxHeartbeats 2000000 in
/-- A node that has no kids to show. -/
theorem rshow_leaf (op : Int) (A : Option Addr) (ns cs : Nat) (mn mx : Int) (D : Option Addr) (nk ck : Nat) (W : World) (s : List (Int × Int)) (K : ByteArray) (h : op < 1 ∨ op = 2 ∨ op = 3 ∨ 6 < op) (h64 : In64 op) :
    Calls Tryd.prog 14 #[.agg #[.int .i64 op, .slice A ns cs, .int .i64 mn, .int .i64 mx, .slice D nk ck]] W fun e w' => e = .returned (.string (nodeB op s mn mx K)) ∧ Below W.heap.size W w' := by
  have hcase : op = 0 ∨ op = 2 ∨ op = 3 ∨ (op ≠ 0 ∧ op ≠ 1 ∧ op ≠ 2 ∧ op ≠ 3 ∧ op ≠ 4 ∧ op ≠ 5 ∧ op ≠ 6) := by omega
  rcases hcase with rfl | rfl | rfl | ⟨n0, n1, n2, n3, n4, n5, n6⟩
  · go_enter Tryd.func14, Tryd.ntmps14
    go_wp2
    go_ret
    exact ⟨rfl, by go_grown⟩
  · go_enter Tryd.func14, Tryd.ntmps14
    go_wp2
    go_ret
    exact ⟨rfl, by go_grown⟩
  · go_enter Tryd.func14, Tryd.ntmps14
    go_wp2
    go_ret
    exact ⟨rfl, by go_grown⟩
  · have HN := Lib.hid (show nodeB op s mn mx K = strB [63] by unfold nodeB; rw [if_neg n0, if_neg n1, if_neg n2, if_neg n3, if_neg n4, if_neg n5, if_neg n6])
    clear h h64
    go_enter Tryd.func14, Tryd.ntmps14
    go_wp2
    go_ret
    rw [HN.out]
    exact ⟨rfl, by go_grown⟩

set_option maxHeartbeats 4000000 in
/-- A set of numbers. -/
theorem rshow_char (F : Nat → Prop) (A : Option Addr) (ns cs : Nat) (mn mx : Int) (D : Option Addr) (nk ck : Nat) (W : World) (s : List (Int × Int)) (K : ByteArray) (hr : RowF F W A ns s) (hw : ∀ p ∈ s, In64 p.1 ∧ In64 p.2) (hn : ns ≤ 1000000) :
    Calls Tryd.prog 14 #[.agg #[.int .i64 1, .slice A ns cs, .int .i64 mn, .int .i64 mx, .slice D nk ck]] W fun e w' => e = .returned (.string (nodeB 1 s mn mx K)) ∧ Below W.heap.size W w' := by
  have HR := Lib.hid hr.1
  have HW := Lib.hid hw
  have hl := hr.1.1
  have HL := Lib.hid hl
  clear hr hw hl
  obtain ⟨W1, g, hW1, hg, hb1, _, hbox⟩ := box_world W #[.int .i64 1, .slice A ns cs, .int .i64 mn, .int .i64 mx, .slice D nk ck] 26
  have HBOX := Lib.hid hbox
  have HB1 := Lib.hid hb1
  clear hbox hb1
  go_enter Tryd.func14, Tryd.ntmps14
  go_wp2
  rw [← hW1, ← hg]
  clear hW1 hg
  go_loopw [3, 4] (fun vs vi wr => ∃ (j : Nat) (S : ByteArray), vs = .string S ∧ vi = .int .i64 (j : Int) ∧ j ≤ ns ∧ S.size ≤ 100000000 ∧ Hid (S = setB (s.take j) ∧ Below W1.heap.size W1 wr)) (fun _ vi _ => ns - (intOf vi).toNat)
  case atStart => exact ⟨0, ⟨#[]⟩, rfl, rfl, Nat.zero_le _, by decide, Lib.hid ⟨rfl, Below.refl _ _⟩⟩
  case round =>
    obtain ⟨j, S, rfl, rfl, hj, hS, HO⟩ := hrel
    obtain ⟨hbx, hbW⟩ := HBOX.out wr HO.out.2
    have b1 := hbx 1
    rw [show (#[.int .i64 1, .slice A ns cs, .int .i64 mn, .int .i64 mx, .slice D nk ck] : Array Value)[1]? = some (.slice A ns cs) from rfl] at b1
    clear hbx
    by_cases hlt : j < ns
    · obtain ⟨b, o, rfl, hbw, hc⟩ := HR.out.2 (by omega)
      obtain ⟨c0, c1⟩ := hc j hlt
      have d0 := (hbW.cell (p := ⟨b, o + j * 2, none⟩) hbw).trans c0
      have d1 := (hbW.cell (p := ⟨b, o + j * 2 + 1, none⟩) hbw).trans c1
      have hts := take_snoc (t := s) (k := j) (by rw [HL.out]; exact hlt)
      have hm : s.getD j (0, 0) ∈ s := by rw [getD_in j (by rw [HL.out]; exact hlt)]; exact List.getElem_mem _
      have hwf := HW.out _ hm
      have hss := setB_size (s := s.take (j + 1)) (fun p hp => HW.out p (List.mem_of_mem_take hp))
      rw [List.length_take, HL.out] at hss
      obtain ⟨p, hp⟩ : ∃ p, p = s.getD j (0, 0) := ⟨_, rfl⟩
      rw [← hp] at d0 d1 hts hwf
      obtain ⟨x, y⟩ := p
      have hsn := setB_snoc (s.take j) (x, y)
      rw [← hts] at hsn
      have hS3 : (setB (s.take (j + 1))).size ≤ 100000000 := by omega
      have H1 := Lib.hid fun w => rdig_any x hwf.1.1 hwf.1.2 w
      have H2 := Lib.hid fun w => rdig_any y hwf.2.1 hwf.2.2 w
      have z1 := digB_size hwf.1
      have z2 := digB_size hwf.2
      have HSN := Lib.hid hsn
      have HTJ := Lib.hid (show (s.take j = [] ↔ j = 0) by
        rw [← List.length_eq_zero_iff, List.length_take, HL.out]; omega)
      have HS3 := Lib.hid hS3
      clear hc c0 c1 hp hts hm hss hsn hS3 hwf
      dsimp only at d0 d1 z1 z2
      have f1 : ¬ 9223372036854775807 < S.size + 1 := by omega
      have f2 : ¬ 9223372036854775807 < S.size + 1 + (digB x).size := by omega
      have f3 : ¬ 9223372036854775807 < S.size + (digB x).size := by omega
      have f4 : ¬ 9223372036854775807 < S.size + 1 + (digB x).size + 1 := by omega
      have f5 : ¬ 9223372036854775807 < S.size + (digB x).size + 1 := by omega
      have f6 : ¬ 9223372036854775807 < S.size + 1 + (digB x).size + 1 + (digB y).size := by omega
      have f7 : ¬ 9223372036854775807 < S.size + (digB x).size + 1 + (digB y).size := by omega
      clear z1 z2
      have HNX : Hid (∀ w1, Below wr.heap.size wr w1 → w1.cell? ⟨b, o + j * 2, none⟩ = some (.int .i64 x) ∧ w1.cell? ⟨b, o + j * 2 + 1, none⟩ = some (.int .i64 y) ∧ w1.cell? ⟨g, 1, none⟩ = some (.slice (some ⟨b, o, none⟩) ns cs) ∧ Below W1.heap.size W1 w1) := Lib.hid (fun w1 hb1 => by
        have hc := HO.out.2.trans (hb1.mono HO.out.2.size)
        have hlt : b < wr.heap.size := by have := hbW.size; omega
        exact ⟨(hb1.cell (p := ⟨b, o + j * 2, none⟩) hlt).trans d0, (hb1.cell (p := ⟨b, o + j * 2 + 1, none⟩) hlt).trans d1, (HBOX.out w1 hc).1 1, hc⟩)
      rcases Nat.eq_zero_or_pos j with hj0 | hj0
      · have d4 : decide (0 < j) = false := decide_eq_false (by omega)
        have HJ := Lib.hid hj0
        clear hj0
        by_cases hxy : y = x
        · have HE := Lib.hid (show setB (s.take (j + 1)) = S ++ digB x by
            rw [HSN.out, if_pos (HTJ.out.2 HJ.out), HO.out.1, HTJ.out.2 HJ.out]
            unfold rngB
            rw [if_pos hxy]
            exact (nil_ba _).symm)
          have n1 : (y != x) = false := by simp [hxy]
          go_wp2_with (go_at_call 27; (with_reducible refine (H1.out _).mono ?_); rintro e w1 ⟨rfl, hb1⟩; obtain ⟨e1, e2, e3, hc1⟩ := HNX.out w1 hb1; have HC1 := Lib.hid hc1; clear hb1 hc1)
          go_quiet (fail)
          go_wp2
          refine ⟨⟨j + 1, setB (s.take (j + 1)), ?_, by go_num, by omega, HS3.out, Lib.hid ⟨rfl, below_drewN HC1.out nq⟩⟩, by simp [intOf]; omega⟩
          rw [HE.out]
        · have HE := Lib.hid (show setB (s.take (j + 1)) = S ++ digB x ++ strB [45] ++ digB y by
            rw [HSN.out, if_pos (HTJ.out.2 HJ.out), HO.out.1, HTJ.out.2 HJ.out]
            unfold rngB
            rw [if_neg hxy]
            simp only [ba_assoc]
            exact (nil_ba _).symm)
          have n1 : (y != x) = true := by simpa using hxy
          go_wp2_with (go_at_call 27; (with_reducible refine (H1.out _).mono ?_); rintro e w1 ⟨rfl, hb1⟩; obtain ⟨e1, e2, e3, hc1⟩ := HNX.out w1 hb1; have HC1 := Lib.hid hc1; clear hb1 hc1)
          go_quiet (fail)
          go_wp2_with (go_at_call 27; (with_reducible refine (H2.out _).mono ?_); rintro e w2 ⟨rfl, hb2⟩; have HC2 := Lib.hid ((below_drewN HC1.out nq).trans (hb2.mono HC1.out.size)); clear hb2)
          refine ⟨⟨j + 1, setB (s.take (j + 1)), ?_, by go_num, by omega, HS3.out, Lib.hid ⟨rfl, HC2.out⟩⟩, by simp [intOf]; omega⟩
          rw [HE.out]
          rfl
      · have d4 : decide (0 < j) = true := decide_eq_true hj0
        have HJ := Lib.hid (show ¬ j = 0 by omega)
        clear hj0
        by_cases hxy : y = x
        · have HE := Lib.hid (show setB (s.take (j + 1)) = S ++ strB [32] ++ digB x by
            rw [HSN.out, if_neg (fun h => absurd (HTJ.out.1 h) HJ.out), ← HO.out.1]
            unfold rngB
            rw [if_pos hxy])
          have n1 : (y != x) = false := by simp [hxy]
          go_wp2_with (go_at_call 27; (with_reducible refine (H1.out _).mono ?_); rintro e w1 ⟨rfl, hb1⟩; obtain ⟨e1, e2, e3, hc1⟩ := HNX.out w1 hb1; have HC1 := Lib.hid hc1; clear hb1 hc1)
          go_quiet (fail)
          go_wp2
          refine ⟨⟨j + 1, setB (s.take (j + 1)), ?_, by go_num, by omega, HS3.out, Lib.hid ⟨rfl, below_drewN HC1.out nq⟩⟩, by simp [intOf]; omega⟩
          rw [HE.out]
          rfl
        · have HE := Lib.hid (show setB (s.take (j + 1)) = S ++ strB [32] ++ digB x ++ strB [45] ++ digB y by
            rw [HSN.out, if_neg (fun h => absurd (HTJ.out.1 h) HJ.out), ← HO.out.1]
            unfold rngB
            rw [if_neg hxy]
            simp only [ba_assoc])
          have n1 : (y != x) = true := by simpa using hxy
          go_wp2_with (go_at_call 27; (with_reducible refine (H1.out _).mono ?_); rintro e w1 ⟨rfl, hb1⟩; obtain ⟨e1, e2, e3, hc1⟩ := HNX.out w1 hb1; have HC1 := Lib.hid hc1; clear hb1 hc1)
          go_quiet (fail)
          go_wp2_with (go_at_call 27; (with_reducible refine (H2.out _).mono ?_); rintro e w2 ⟨rfl, hb2⟩; have HC2 := Lib.hid ((below_drewN HC1.out nq).trans (hb2.mono HC1.out.size)); clear hb2)
          refine ⟨⟨j + 1, setB (s.take (j + 1)), ?_, by go_num, by omega, HS3.out, Lib.hid ⟨rfl, HC2.out⟩⟩, by simp [intOf]; omega⟩
          rw [HE.out]
          rfl
    · have hjn : j = ns := by omega
      subst hjn
      have HE := Lib.hid (show S = setB s by rw [HO.out.1, ← HL.out, List.take_length])
      have f1 : ¬ 9223372036854775807 < 5 + S.size := by omega
      have f2 : ¬ 9223372036854775807 < 5 + S.size + 1 := by omega
      go_wp2
      go_ret
      exact ⟨by rw [show nodeB 1 s mn mx K = strB [99, 104, 97, 114, 123] ++ setB s ++ strB [125] from rfl, ← HE.out]; rfl, hbW⟩

set_option maxHeartbeats 4000000 in
/-- The document's Show. -/
theorem rshow_any (N : Nat) : ∀ (T : Wood), heavy T ≤ N → ∀ (F : Nat → Prop) (W : World) (v : Value), NodeIn F W v T → WfW T → heavy T ≤ 1000000 →
    Calls Tryd.prog 14 #[v] W fun e w' => e = .returned (.string (oneB T)) ∧ Below W.heap.size W w' := by
  induction N with
  | zero =>
    intro T hN F W v hv hw hs
    obtain ⟨op, s, mn, mx, k, A, D, ns, cs, nk, ck, rfl, _⟩ := hv
    simp [heavy] at hN
  | succ N ih =>
    intro T hN F W v hv hw hs
    obtain ⟨op, s, mn, mx, k, A, D, ns, cs, nk, ck, rfl, rfl, hr, hk⟩ := hv
    obtain ⟨⟨w0, w1, w2, w3⟩, w4, _⟩ := hw
    have hsz : heavy (Wood.cons op s mn mx k .nil) = 1 + s.length + heavy k := by simp [heavy]
    rw [hsz] at hN hs
    have hsl := hr.1.1
    rw [oneB_cons]
    by_cases hop : op < 1 ∨ op = 2 ∨ op = 3 ∨ 6 < op
    · exact rshow_leaf op A ns cs mn mx D nk ck W s _ hop w0
    by_cases h1 : op = 1
    · subst h1
      exact rshow_char F A ns cs mn mx D nk ck W s _ hr w3 (by omega)
    have hkl := hk.1
    have HK := Lib.hid hk
    have IH := Lib.hid ih
    have HW4 := Lib.hid w4
    have hKB := kidsB_size w4
    have hnk : nk ≤ 1000000 := by have := len_heavy k; omega
    have HD1 := Lib.hid fun w => rdig_any mn w1.1 w1.2 w
    have HD2 := Lib.hid fun w => rdig_any mx w2.1 w2.2 w
    have z1 := digB_size w1
    have z2 := digB_size w2
    obtain ⟨K, hK⟩ : ∃ K, K = heavy k := ⟨_, rfl⟩
    have HKS := Lib.hid hK
    rw [← hK] at hN hs hKB
    clear hsz hk hr hK w0 w1 w2 w3 w4 ih hsl
    obtain ⟨W1, g, hW1, hg, hb1, _, hbox⟩ := box_world W #[.int .i64 op, .slice A ns cs, .int .i64 mn, .int .i64 mx, .slice D nk ck] 26
    have HBOX := Lib.hid hbox
    clear hbox hb1
    have f1 : ¬ 9223372036854775807 < 4 + (digB mn).size := by omega
    have f2 : ¬ 9223372036854775807 < 4 + (digB mn).size + 1 := by omega
    have f3 : ¬ 9223372036854775807 < 4 + (digB mn).size + 1 + (digB mx).size := by omega
    have f4 : ¬ 9223372036854775807 < 4 + (digB mn).size + 1 + (digB mx).size + 2 := by omega
    obtain ⟨P, hP, hPS⟩ : ∃ P : ByteArray, nodeB op s mn mx (kidsB k) = P ++ kidsB k ++ strB [41] ∧ P.size ≤ 100 ∧ (op = 4 → P = ⟨#[99, 97, 116, 40]⟩) ∧ (op = 5 → P = ⟨#[97, 108, 116, 40]⟩) ∧ (op = 6 → P = ⟨#[114, 101, 112, 123]⟩ ++ digB mn ++ ⟨#[32]⟩ ++ digB mx ++ ⟨#[125, 40]⟩) := by
      rcases (show op = 4 ∨ op = 5 ∨ op = 6 by omega) with rfl | rfl | rfl
      · exact ⟨_, rfl, by decide, fun _ => rfl, (fun h => by omega), (fun h => by omega)⟩
      · exact ⟨_, rfl, by decide, (fun h => by omega), fun _ => rfl, (fun h => by omega)⟩
      · exact ⟨_, rfl, by simp only [ba_size, strB_size, List.length_cons, List.length_nil]; omega, (fun h => by omega), (fun h => by omega), fun _ => rfl⟩
    rw [hP]
    obtain ⟨hPS, hP4, hP5, hP6⟩ := hPS
    clear hP
    rcases (show op = 4 ∨ op = 5 ∨ op = 6 by omega) with rfl | rfl | rfl
    · have HPO := Lib.hid (hP4 rfl)
      clear hP4 hP5 hP6 hop h1
      go_enter Tryd.func14, Tryd.ntmps14
      go_wp2
      rw [← hW1, ← hg]
      have HQ := Lib.hid (Below.refl W1.heap.size W1)
      clear hW1 hg
      go_loopw [3, 5] (fun vs vi wr => ∃ (j : Nat) (S : ByteArray), vs = .string S ∧ vi = .int .i64 (j : Int) ∧ j ≤ nk ∧ S.size ≤ 100 + 64 * K ∧ Hid (S = P ++ kidsB (k.take j) ∧ Below W1.heap.size W1 wr)) (fun _ vi _ => nk - (intOf vi).toNat)
      case atStart => exact ⟨0, P, by rw [HPO.out], rfl, Nat.zero_le _, by have := hPS; omega, Lib.hid ⟨by rw [Wood.take_zero]; exact (ba_nil P).symm, HQ.out⟩⟩
      case round =>
        obtain ⟨j, S, rfl, rfl, hj, hS, HO⟩ := hrel
        obtain ⟨hbx, hbW⟩ := HBOX.out wr HO.out.2
        have b4 := hbx 4
        rw [show (#[.int .i64 _, .slice A ns cs, .int .i64 mn, .int .i64 mx, .slice D nk ck] : Array Value)[4]? = some (.slice D nk ck) from rfl] at b4
        clear hbx
        by_cases hlt : j < nk
        · obtain ⟨b, o, op', s', mn', mx', k', A', D', ns', cs', nk', ck', rfl, _, _, c0, c1, c2, c3, c4, hin⟩ := (HK.out.below hbW).kid hlt
          have hkt := kidsB_take k j (by rw [hkl]; exact hlt)
          have hkz := kidsB_size (wfW_take k (j + 1) HW4.out)
          have hht := heavy_take k (j + 1)
          have hnl := heavy_nth k j (by rw [hkl]; exact hlt)
          have hoz := kidsB_size (wfW_nth k j (by rw [hkl]; exact hlt) HW4.out)
          rw [← HKS.out] at hht hnl
          have HC := Lib.hid fun w h => IH.out (k.nth j) (by omega) F w _ (hin.below h) (wfW_nth k j (by rw [hkl]; exact hlt) HW4.out) (by omega)
          obtain ⟨Z, hZ⟩ : ∃ Z, Z = oneB (k.nth j) := ⟨_, rfl⟩
          rw [← hZ] at HC hkt
          have hzz : Z.size ≤ 64 * K := by rw [hZ, show oneB (k.nth j) = kidsB (k.nth j) from rfl]; omega
          have HKT := Lib.hid hkt
          have hS3 : (P ++ kidsB (k.take (j + 1))).size ≤ 100 + 64 * K := by rw [ba_size]; omega
          have HS3 := Lib.hid hS3
          have f5 : ¬ 9223372036854775807 < S.size + 1 := by omega
          have f6 : ¬ 9223372036854775807 < S.size + 1 + Z.size := by omega
          have f7 : ¬ 9223372036854775807 < S.size + Z.size := by omega
          clear hin hkt hkz hht hnl hoz hZ hzz hS3 hbW
          rcases Nat.eq_zero_or_pos j with hj0 | hj0
          · have d4 : decide (0 < j) = false := decide_eq_false (by omega)
            have HE := Lib.hid (show P ++ kidsB (k.take (j + 1)) = S ++ Z by
              rw [HKT.out, if_pos hj0, HO.out.1, hj0, Wood.take_zero, show kidsB Wood.nil = ByteArray.empty from rfl, ba_nil])
            clear hj0
            go_wp2_with (go_at_call 14; refine (HC.out _ (Below.refl _ _)).mono ?_; rintro e w1 ⟨rfl, hb1⟩; have HB1 := Lib.hid (HO.out.2.trans (hb1.mono HO.out.2.size)); clear hb1)
            refine ⟨⟨j + 1, P ++ kidsB (k.take (j + 1)), ?_, by go_num, by omega, HS3.out, Lib.hid ⟨rfl, HB1.out⟩⟩, by simp [intOf]; omega⟩
            rw [HE.out]
          · have d4 : decide (0 < j) = true := decide_eq_true hj0
            have HE := Lib.hid (show P ++ kidsB (k.take (j + 1)) = S ++ strB [44] ++ Z by
              rw [HKT.out, if_neg (by omega), HO.out.1]
              simp only [ba_assoc])
            clear hj0
            go_wp2_with (go_at_call 14; refine (HC.out _ (Below.refl _ _)).mono ?_; rintro e w1 ⟨rfl, hb1⟩; have HB1 := Lib.hid (HO.out.2.trans (hb1.mono HO.out.2.size)); clear hb1)
            refine ⟨⟨j + 1, P ++ kidsB (k.take (j + 1)), ?_, by go_num, by omega, HS3.out, Lib.hid ⟨rfl, HB1.out⟩⟩, by simp [intOf]; omega⟩
            rw [HE.out]
            rfl
        · have hjn : j = nk := by omega
          subst hjn
          have HE := Lib.hid (show S = P ++ kidsB k by rw [HO.out.1, ← hkl, Wood.take_all])
          have HBW := Lib.hid hbW
          have f5 : ¬ 9223372036854775807 < S.size + 1 := by omega
          clear hbW
          go_wp2
          go_ret
          rw [← HE.out]
          exact ⟨rfl, HBW.out⟩
    · have HPO := Lib.hid (hP5 rfl)
      clear hP4 hP5 hP6 hop h1
      go_enter Tryd.func14, Tryd.ntmps14
      go_wp2
      rw [← hW1, ← hg]
      have HQ := Lib.hid (Below.refl W1.heap.size W1)
      clear hW1 hg
      go_loopw [3, 5] (fun vs vi wr => ∃ (j : Nat) (S : ByteArray), vs = .string S ∧ vi = .int .i64 (j : Int) ∧ j ≤ nk ∧ S.size ≤ 100 + 64 * K ∧ Hid (S = P ++ kidsB (k.take j) ∧ Below W1.heap.size W1 wr)) (fun _ vi _ => nk - (intOf vi).toNat)
      case atStart => exact ⟨0, P, by rw [HPO.out], rfl, Nat.zero_le _, by have := hPS; omega, Lib.hid ⟨by rw [Wood.take_zero]; exact (ba_nil P).symm, HQ.out⟩⟩
      case round =>
        obtain ⟨j, S, rfl, rfl, hj, hS, HO⟩ := hrel
        obtain ⟨hbx, hbW⟩ := HBOX.out wr HO.out.2
        have b4 := hbx 4
        rw [show (#[.int .i64 _, .slice A ns cs, .int .i64 mn, .int .i64 mx, .slice D nk ck] : Array Value)[4]? = some (.slice D nk ck) from rfl] at b4
        clear hbx
        by_cases hlt : j < nk
        · obtain ⟨b, o, op', s', mn', mx', k', A', D', ns', cs', nk', ck', rfl, _, _, c0, c1, c2, c3, c4, hin⟩ := (HK.out.below hbW).kid hlt
          have hkt := kidsB_take k j (by rw [hkl]; exact hlt)
          have hkz := kidsB_size (wfW_take k (j + 1) HW4.out)
          have hht := heavy_take k (j + 1)
          have hnl := heavy_nth k j (by rw [hkl]; exact hlt)
          have hoz := kidsB_size (wfW_nth k j (by rw [hkl]; exact hlt) HW4.out)
          rw [← HKS.out] at hht hnl
          have HC := Lib.hid fun w h => IH.out (k.nth j) (by omega) F w _ (hin.below h) (wfW_nth k j (by rw [hkl]; exact hlt) HW4.out) (by omega)
          obtain ⟨Z, hZ⟩ : ∃ Z, Z = oneB (k.nth j) := ⟨_, rfl⟩
          rw [← hZ] at HC hkt
          have hzz : Z.size ≤ 64 * K := by rw [hZ, show oneB (k.nth j) = kidsB (k.nth j) from rfl]; omega
          have HKT := Lib.hid hkt
          have hS3 : (P ++ kidsB (k.take (j + 1))).size ≤ 100 + 64 * K := by rw [ba_size]; omega
          have HS3 := Lib.hid hS3
          have f5 : ¬ 9223372036854775807 < S.size + 1 := by omega
          have f6 : ¬ 9223372036854775807 < S.size + 1 + Z.size := by omega
          have f7 : ¬ 9223372036854775807 < S.size + Z.size := by omega
          clear hin hkt hkz hht hnl hoz hZ hzz hS3 hbW
          rcases Nat.eq_zero_or_pos j with hj0 | hj0
          · have d4 : decide (0 < j) = false := decide_eq_false (by omega)
            have HE := Lib.hid (show P ++ kidsB (k.take (j + 1)) = S ++ Z by
              rw [HKT.out, if_pos hj0, HO.out.1, hj0, Wood.take_zero, show kidsB Wood.nil = ByteArray.empty from rfl, ba_nil])
            clear hj0
            go_wp2_with (go_at_call 14; refine (HC.out _ (Below.refl _ _)).mono ?_; rintro e w1 ⟨rfl, hb1⟩; have HB1 := Lib.hid (HO.out.2.trans (hb1.mono HO.out.2.size)); clear hb1)
            refine ⟨⟨j + 1, P ++ kidsB (k.take (j + 1)), ?_, by go_num, by omega, HS3.out, Lib.hid ⟨rfl, HB1.out⟩⟩, by simp [intOf]; omega⟩
            rw [HE.out]
          · have d4 : decide (0 < j) = true := decide_eq_true hj0
            have HE := Lib.hid (show P ++ kidsB (k.take (j + 1)) = S ++ strB [44] ++ Z by
              rw [HKT.out, if_neg (by omega), HO.out.1]
              simp only [ba_assoc])
            clear hj0
            go_wp2_with (go_at_call 14; refine (HC.out _ (Below.refl _ _)).mono ?_; rintro e w1 ⟨rfl, hb1⟩; have HB1 := Lib.hid (HO.out.2.trans (hb1.mono HO.out.2.size)); clear hb1)
            refine ⟨⟨j + 1, P ++ kidsB (k.take (j + 1)), ?_, by go_num, by omega, HS3.out, Lib.hid ⟨rfl, HB1.out⟩⟩, by simp [intOf]; omega⟩
            rw [HE.out]
            rfl
        · have hjn : j = nk := by omega
          subst hjn
          have HE := Lib.hid (show S = P ++ kidsB k by rw [HO.out.1, ← hkl, Wood.take_all])
          have HBW := Lib.hid hbW
          have f5 : ¬ 9223372036854775807 < S.size + 1 := by omega
          clear hbW
          go_wp2
          go_ret
          rw [← HE.out]
          exact ⟨rfl, HBW.out⟩
    · have HPO := Lib.hid (hP6 rfl)
      have hc2 : ∀ w, Below W1.heap.size W1 w → w.cell? ⟨g, 2, none⟩ = some (.int .i64 mn) := fun w h => (HBOX.out w h).1 2
      have hc3 : ∀ w, Below W1.heap.size W1 w → w.cell? ⟨g, 3, none⟩ = some (.int .i64 mx) := fun w h => (HBOX.out w h).1 3
      have HG1 := Lib.hid fun w (h : Below W1.heap.size W1 w) => (HD1.out w).mono fun e w' (q : _ ∧ _) => (⟨q.1, h.trans (q.2.mono h.size)⟩ : _ ∧ Below W1.heap.size W1 w')
      have HG2 := Lib.hid fun w (h : Below W1.heap.size W1 w) => (HD2.out w).mono fun e w' (q : _ ∧ _) => (⟨q.1, h.trans (q.2.mono h.size)⟩ : _ ∧ Below W1.heap.size W1 w')
      have hr0 : Below W1.heap.size W1 W1.drew := (Below.refl _ _).drew
      clear hP4 hP5 hP6 hop h1
      go_enter Tryd.func14, Tryd.ntmps14
      go_wp2_with fail
      rw [← hW1, ← hg]
      clear hW1 hg
      go_region_held (fun w' => Below W1.heap.size W1 w') (assumption) (first
        | (go_at_call 27; (with_reducible refine (HG1.out _ (by assumption)).mono ?_); rintro e w4 ⟨rfl, hb4⟩)
        | (go_at_call 27; (with_reducible refine (HG2.out _ (by assumption)).mono ?_); rintro e w5 ⟨rfl, hb5⟩))
      have HQ : Hid (Below W1.heap.size W1 w5) := Lib.hid (by assumption)
      clear hc2 hc3 hr0
      go_wp2
      go_loopw [3, 5] (fun vs vi wr => ∃ (j : Nat) (S : ByteArray), vs = .string S ∧ vi = .int .i64 (j : Int) ∧ j ≤ nk ∧ S.size ≤ 100 + 64 * K ∧ Hid (S = P ++ kidsB (k.take j) ∧ Below W1.heap.size W1 wr)) (fun _ vi _ => nk - (intOf vi).toNat)
      case atStart => exact ⟨0, P, by rw [HPO.out], rfl, Nat.zero_le _, by have := hPS; omega, Lib.hid ⟨by rw [Wood.take_zero]; exact (ba_nil P).symm, HQ.out⟩⟩
      case round =>
        obtain ⟨j, S, rfl, rfl, hj, hS, HO⟩ := hrel
        obtain ⟨hbx, hbW⟩ := HBOX.out wr HO.out.2
        have b4 := hbx 4
        rw [show (#[.int .i64 _, .slice A ns cs, .int .i64 mn, .int .i64 mx, .slice D nk ck] : Array Value)[4]? = some (.slice D nk ck) from rfl] at b4
        clear hbx
        by_cases hlt : j < nk
        · obtain ⟨b, o, op', s', mn', mx', k', A', D', ns', cs', nk', ck', rfl, _, _, c0, c1, c2, c3, c4, hin⟩ := (HK.out.below hbW).kid hlt
          have hkt := kidsB_take k j (by rw [hkl]; exact hlt)
          have hkz := kidsB_size (wfW_take k (j + 1) HW4.out)
          have hht := heavy_take k (j + 1)
          have hnl := heavy_nth k j (by rw [hkl]; exact hlt)
          have hoz := kidsB_size (wfW_nth k j (by rw [hkl]; exact hlt) HW4.out)
          rw [← HKS.out] at hht hnl
          have HC := Lib.hid fun w h => IH.out (k.nth j) (by omega) F w _ (hin.below h) (wfW_nth k j (by rw [hkl]; exact hlt) HW4.out) (by omega)
          obtain ⟨Z, hZ⟩ : ∃ Z, Z = oneB (k.nth j) := ⟨_, rfl⟩
          rw [← hZ] at HC hkt
          have hzz : Z.size ≤ 64 * K := by rw [hZ, show oneB (k.nth j) = kidsB (k.nth j) from rfl]; omega
          have HKT := Lib.hid hkt
          have hS3 : (P ++ kidsB (k.take (j + 1))).size ≤ 100 + 64 * K := by rw [ba_size]; omega
          have HS3 := Lib.hid hS3
          have f5 : ¬ 9223372036854775807 < S.size + 1 := by omega
          have f6 : ¬ 9223372036854775807 < S.size + 1 + Z.size := by omega
          have f7 : ¬ 9223372036854775807 < S.size + Z.size := by omega
          clear hin hkt hkz hht hnl hoz hZ hzz hS3 hbW
          rcases Nat.eq_zero_or_pos j with hj0 | hj0
          · have d4 : decide (0 < j) = false := decide_eq_false (by omega)
            have HE := Lib.hid (show P ++ kidsB (k.take (j + 1)) = S ++ Z by
              rw [HKT.out, if_pos hj0, HO.out.1, hj0, Wood.take_zero, show kidsB Wood.nil = ByteArray.empty from rfl, ba_nil])
            clear hj0
            go_wp2_with (go_at_call 14; refine (HC.out _ (Below.refl _ _)).mono ?_; rintro e w1 ⟨rfl, hb1⟩; have HB1 := Lib.hid (HO.out.2.trans (hb1.mono HO.out.2.size)); clear hb1)
            refine ⟨⟨j + 1, P ++ kidsB (k.take (j + 1)), ?_, by go_num, by omega, HS3.out, Lib.hid ⟨rfl, HB1.out⟩⟩, by simp [intOf]; omega⟩
            rw [HE.out]
          · have d4 : decide (0 < j) = true := decide_eq_true hj0
            have HE := Lib.hid (show P ++ kidsB (k.take (j + 1)) = S ++ strB [44] ++ Z by
              rw [HKT.out, if_neg (by omega), HO.out.1]
              simp only [ba_assoc])
            clear hj0
            go_wp2_with (go_at_call 14; refine (HC.out _ (Below.refl _ _)).mono ?_; rintro e w1 ⟨rfl, hb1⟩; have HB1 := Lib.hid (HO.out.2.trans (hb1.mono HO.out.2.size)); clear hb1)
            refine ⟨⟨j + 1, P ++ kidsB (k.take (j + 1)), ?_, by go_num, by omega, HS3.out, Lib.hid ⟨rfl, HB1.out⟩⟩, by simp [intOf]; omega⟩
            rw [HE.out]
            rfl
        · have hjn : j = nk := by omega
          subst hjn
          have HE := Lib.hid (show S = P ++ kidsB k by rw [HO.out.1, ← hkl, Wood.take_all])
          have HBW := Lib.hid hbW
          have f5 : ¬ 9223372036854775807 < S.size + 1 := by omega
          clear hbW
          go_wp2
          go_ret
          rw [← HE.out]
          exact ⟨rfl, HBW.out⟩
end Go.Proofs.YtajnedkjmgjjbaaDoor
/- The program's show of one node, by its Op. -/
namespace Go.Proofs.YtajnedkjmgjjbaaDoor
open Go Go.RowKit
set_option linter.unusedVariables false
set_option maxRecDepth 20000

theorem box_facts' {w : World} {r : Nat} {v0 v1 v2 v3 v4 : Value} (h : w.heap[r]? = some (.cells #[v0, v1, v2, v3, v4] 26 (0, 0))) :
    w.cell? ⟨r, 0, none⟩ = some v0 ∧ w.cell? ⟨r, 1, none⟩ = some v1 ∧ w.cell? ⟨r, 2, none⟩ = some v2 ∧ w.cell? ⟨r, 3, none⟩ = some v3 ∧ w.cell? ⟨r, 4, none⟩ = some v4 ∧ ∀ j, w.frozen? ⟨r, j, none⟩ = false :=
  ⟨cell_of_row w r 0 _ _ (0, 0) h, cell_of_row w r 1 _ _ (0, 0) h, cell_of_row w r 2 _ _ (0, 0) h, cell_of_row w r 3 _ _ (0, 0) h, cell_of_row w r 4 _ _ (0, 0) h, fun j => by simp [World.frozen?, h]⟩
/-- What show answers: the text T behind S. -/
def ShowV (B : Nat) (w : World) (S T : ByteArray) (e : Ending) (w' : World) : Prop := ∃ V', e = .returned V' ∧ Buf B w' V' (S ++ T) ∧ FrO B w w'
theorem Buf.letter {B : Nat} {w : World} {V : Value} {S : ByteArray} (h : Buf B w V S) : ∃ U, U = S ∧ Buf B w V U := ⟨S, rfl, h⟩
section
variable {w0 w : World} {V : Value} {S : ByteArray} {A D : Option Addr} {ns cs nk ck : Nat} {mn mx op : Int} {s : List (Int × Int)} {K : ByteArray}
set_option maxHeartbeats 1000000 in
theorem show_empty (h : Buf w0.heap.size w V S) (hb : Below w0.heap.size w0 w) (hs : S.size ≤ 100000000) : Calls Tryd.prog 26 #[V, .agg #[.int .i64 0, .slice A ns cs, .int .i64 mn, .int .i64 mx, .slice D nk ck]] w (ShowV w0.heap.size w S (nodeB 0 s mn mx K)) := by
  obtain ⟨W1, g, hW1, hg, hbel, hsz, hbox⟩ := box_world w #[.int .i64 0, .slice A ns cs, .int .i64 mn, .int .i64 mx, .slice D nk ck] 26
  have h1 : Buf w0.heap.size W1 V S := by rw [hW1]; exact h.alloc _
  have f1 : FrO w0.heap.size w W1 := by rw [hW1]; exact (FrO.refl _ _).alloc hb.size _
  have hbx1 : W1.heap[g]? = some (.cells #[.int .i64 0, .slice A ns cs, .int .i64 mn, .int .i64 mx, .slice D nk ck] 26 (0, 0)) := by rw [hW1, hg]; exact heap_alloc_new w _
  have hB1 : w0.heap.size ≤ W1.heap.size := Nat.le_trans hb.size f1.1.size
  obtain ⟨n0, n1, n2, n3, n4, _⟩ := box_facts' hbx1
  obtain ⟨V2, w2, ha, hb2, hf2⟩ := buf_str h1 ⟨#[101, 109, 112, 116, 121]⟩ hB1 (by show _ + 5 ≤ _; omega)
  obtain ⟨Av, cv, rfl, _⟩ := h.slice
  have H2 := Lib.hid (And.intro hb2 (f1.trans hf2))
  clear h hb hb2 hf2 f1 h1 hbx1
  subst hW1
  subst hg
  clear hbox hbel hsz
  go_enter Tryd.func26, Tryd.ntmps26
  go_wp2_with (at_builtin; refine wpList_append2 rfl _ _ 39 9 rfl rfl _ _ _ _ rfl rfl ha ?_)
  go_ret
  exact ⟨V2, rfl, H2.out.1, H2.out.2⟩
set_option maxHeartbeats 1000000 in
theorem show_begin (h : Buf w0.heap.size w V S) (hb : Below w0.heap.size w0 w) (hs : S.size ≤ 100000000) : Calls Tryd.prog 26 #[V, .agg #[.int .i64 2, .slice A ns cs, .int .i64 mn, .int .i64 mx, .slice D nk ck]] w (ShowV w0.heap.size w S (nodeB 2 s mn mx K)) := by
  obtain ⟨W1, g, hW1, hg, hbel, hsz, hbox⟩ := box_world w #[.int .i64 2, .slice A ns cs, .int .i64 mn, .int .i64 mx, .slice D nk ck] 26
  have h1 : Buf w0.heap.size W1 V S := by rw [hW1]; exact h.alloc _
  have f1 : FrO w0.heap.size w W1 := by rw [hW1]; exact (FrO.refl _ _).alloc hb.size _
  have hbx1 : W1.heap[g]? = some (.cells #[.int .i64 2, .slice A ns cs, .int .i64 mn, .int .i64 mx, .slice D nk ck] 26 (0, 0)) := by rw [hW1, hg]; exact heap_alloc_new w _
  have hB1 : w0.heap.size ≤ W1.heap.size := Nat.le_trans hb.size f1.1.size
  obtain ⟨n0, n1, n2, n3, n4, _⟩ := box_facts' hbx1
  obtain ⟨V2, w2, ha, hb2, hf2⟩ := buf_str h1 ⟨#[98, 101, 103, 105, 110]⟩ hB1 (by show _ + 5 ≤ _; omega)
  obtain ⟨Av, cv, rfl, _⟩ := h.slice
  have H2 := Lib.hid (And.intro hb2 (f1.trans hf2))
  clear h hb hb2 hf2 f1 h1 hbx1
  subst hW1
  subst hg
  clear hbox hbel hsz
  go_enter Tryd.func26, Tryd.ntmps26
  go_wp2_with (at_builtin; refine wpList_append2 rfl _ _ 39 9 rfl rfl _ _ _ _ rfl rfl ha ?_)
  go_ret
  exact ⟨V2, rfl, H2.out.1, H2.out.2⟩
set_option maxHeartbeats 1000000 in
theorem show_end (h : Buf w0.heap.size w V S) (hb : Below w0.heap.size w0 w) (hs : S.size ≤ 100000000) : Calls Tryd.prog 26 #[V, .agg #[.int .i64 3, .slice A ns cs, .int .i64 mn, .int .i64 mx, .slice D nk ck]] w (ShowV w0.heap.size w S (nodeB 3 s mn mx K)) := by
  obtain ⟨W1, g, hW1, hg, hbel, hsz, hbox⟩ := box_world w #[.int .i64 3, .slice A ns cs, .int .i64 mn, .int .i64 mx, .slice D nk ck] 26
  have h1 : Buf w0.heap.size W1 V S := by rw [hW1]; exact h.alloc _
  have f1 : FrO w0.heap.size w W1 := by rw [hW1]; exact (FrO.refl _ _).alloc hb.size _
  have hbx1 : W1.heap[g]? = some (.cells #[.int .i64 3, .slice A ns cs, .int .i64 mn, .int .i64 mx, .slice D nk ck] 26 (0, 0)) := by rw [hW1, hg]; exact heap_alloc_new w _
  have hB1 : w0.heap.size ≤ W1.heap.size := Nat.le_trans hb.size f1.1.size
  obtain ⟨n0, n1, n2, n3, n4, _⟩ := box_facts' hbx1
  obtain ⟨V2, w2, ha, hb2, hf2⟩ := buf_str h1 ⟨#[101, 110, 100]⟩ hB1 (by show _ + 3 ≤ _; omega)
  obtain ⟨Av, cv, rfl, _⟩ := h.slice
  have H2 := Lib.hid (And.intro hb2 (f1.trans hf2))
  clear h hb hb2 hf2 f1 h1 hbx1
  subst hW1
  subst hg
  clear hbox hbel hsz
  go_enter Tryd.func26, Tryd.ntmps26
  go_wp2_with (at_builtin; refine wpList_append2 rfl _ _ 39 9 rfl rfl _ _ _ _ rfl rfl ha ?_)
  go_ret
  exact ⟨V2, rfl, H2.out.1, H2.out.2⟩
set_option maxHeartbeats 1000000 in
theorem show_else (h : Buf w0.heap.size w V S) (hb : Below w0.heap.size w0 w) (hs : S.size ≤ 100000000) (hop : op < 0 ∨ 6 < op) : Calls Tryd.prog 26 #[V, .agg #[.int .i64 op, .slice A ns cs, .int .i64 mn, .int .i64 mx, .slice D nk ck]] w (ShowV w0.heap.size w S (nodeB op s mn mx K)) := by
  have hN : nodeB op s mn mx K = strB [63] := by
    unfold nodeB
    rw [if_neg (by omega), if_neg (by omega), if_neg (by omega), if_neg (by omega), if_neg (by omega), if_neg (by omega), if_neg (by omega)]
  rw [hN]
  have e0 : ¬ op = 0 := by omega
  have e1 : ¬ op = 1 := by omega
  have e2 : ¬ op = 2 := by omega
  have e3 : ¬ op = 3 := by omega
  have e4 : ¬ op = 4 := by omega
  have e5 : ¬ op = 5 := by omega
  have e6 : ¬ op = 6 := by omega
  obtain ⟨W1, g, hW1, hg, hbel, hsz, hbox⟩ := box_world w #[.int .i64 op, .slice A ns cs, .int .i64 mn, .int .i64 mx, .slice D nk ck] 26
  have h1 : Buf w0.heap.size W1 V S := by rw [hW1]; exact h.alloc _
  have f1 : FrO w0.heap.size w W1 := by rw [hW1]; exact (FrO.refl _ _).alloc hb.size _
  have hbx1 : W1.heap[g]? = some (.cells #[.int .i64 op, .slice A ns cs, .int .i64 mn, .int .i64 mx, .slice D nk ck] 26 (0, 0)) := by rw [hW1, hg]; exact heap_alloc_new w _
  have hB1 : w0.heap.size ≤ W1.heap.size := Nat.le_trans hb.size f1.1.size
  obtain ⟨n0, n1, n2, n3, n4, _⟩ := box_facts' hbx1
  obtain ⟨V2, w2, ha, hb2, hf2⟩ := buf_byte h1 63 63 rfl hB1 (by omega)
  obtain ⟨Av, cv, rfl, _⟩ := h.slice
  have H2 := Lib.hid (And.intro hb2 (f1.trans hf2))
  clear h hb hb2 hf2 f1 h1 hbx1 hN hop
  rw [hW1, show (w.alloc (.cells #[.int .i64 op, .slice A ns cs, .int .i64 mn, .int .i64 mx, .slice D nk ck] 26)).heap.size = w.heap.size + 1 by simp] at ha
  subst hW1
  subst hg
  clear hbox hbel hsz
  go_enter Tryd.func26, Tryd.ntmps26
  go_wp2_with (at_builtin; refine wpList_append_run rfl _ _ 39 rfl rfl _ _ _ _ rfl rfl ha ?_)
  go_ret
  exact ⟨V2, rfl, H2.out.1, H2.out.2⟩
set_option maxHeartbeats 2000000 in
theorem show_char (h : Buf w0.heap.size w V S) (hb : Below w0.heap.size w0 w) (hs : S.size ≤ 100000000)
    (HC : ∀ w2 V2, Buf w0.heap.size w2 V2 (S ++ strB [99, 104, 97, 114]) → FrO w0.heap.size w w2 → Calls Tryd.prog 42 #[V2, .slice A ns cs] w2 (ShowV w0.heap.size w2 (S ++ strB [99, 104, 97, 114]) (strB [123] ++ setB s ++ strB [125]))) : Calls Tryd.prog 26 #[V, .agg #[.int .i64 1, .slice A ns cs, .int .i64 mn, .int .i64 mx, .slice D nk ck]] w (ShowV w0.heap.size w S (nodeB 1 s mn mx K)) := by
  have hN : S ++ strB [99, 104, 97, 114] ++ (strB [123] ++ setB s ++ strB [125]) = S ++ nodeB 1 s mn mx K := by show _ = S ++ (strB [99, 104, 97, 114, 123] ++ setB s ++ strB [125]); rw [show strB [99, 104, 97, 114, 123] = strB [99, 104, 97, 114] ++ strB [123] from by rw [strB_append]; rfl]; simp only [ba_assoc]
  obtain ⟨W1, g, hW1, hg, hbel, hsz, hbox⟩ := box_world w #[.int .i64 1, .slice A ns cs, .int .i64 mn, .int .i64 mx, .slice D nk ck] 26
  have h1 : Buf w0.heap.size W1 V S := by rw [hW1]; exact h.alloc _
  have f1 : FrO w0.heap.size w W1 := by rw [hW1]; exact (FrO.refl _ _).alloc hb.size _
  have hbx1 : W1.heap[g]? = some (.cells #[.int .i64 1, .slice A ns cs, .int .i64 mn, .int .i64 mx, .slice D nk ck] 26 (0, 0)) := by rw [hW1, hg]; exact heap_alloc_new w _
  have hB1 : w0.heap.size ≤ W1.heap.size := Nat.le_trans hb.size f1.1.size
  obtain ⟨n0, n1, n2, n3, n4, _⟩ := box_facts' hbx1
  obtain ⟨V2, w2, ha, hb2, hf2⟩ := buf_str (w := W1.drew) h1 ⟨#[99, 104, 97, 114]⟩ hB1 (by show _ + 4 ≤ _; omega)
  have hbx2 := hf2.keep (k := g) (show W1.drew.heap[g]? = _ from hbx1) (by decide)
  have m := cell_of_row w2 g 1 _ _ (0, 0) hbx2
  have HCC := Lib.hid (HC w2 V2 hb2 (f1.trans (f1.drew.trans hf2 |> fun q => (FrO.refl w0.heap.size W1).drew.trans hf2)))
  obtain ⟨U2, hU2, hb2⟩ := hb2.letter
  obtain ⟨A2, c2, rfl, _⟩ := hb2.slice
  obtain ⟨Av, cv, rfl, _⟩ := h.slice
  have H2 := Lib.hid (And.intro (f1.trans ((FrO.refl w0.heap.size W1).drew.trans hf2)) hN)
  clear h hb hb2 hf2 f1 h1 hbx1 hbx2 hN HC hU2
  go_enter Tryd.func26, Tryd.ntmps26
  go_wp2_with fail
  rw [← hW1, ← hg]
  clear hW1 hg hbox hbel hsz
  go_wp2_with fail
  go_region_law (first
    | (refine step_append2 rfl _ _ 39 9 rfl rfl _ _ _ _ rfl rfl ha ?_)
    | (go_simp; go_at_call 42; (with_reducible refine HCC.out.mono ?_); rintro e w4 ⟨V4, rfl, hb4, hf4⟩; have H4 := Lib.hid (And.intro hb4 hf4); clear hb4 hf4))
  all_goals
    go_wp2
    go_ret
    refine ⟨V4, rfl, ?_, H2.out.1.trans H4.out.2⟩
    rw [← H2.out.2]
    exact H4.out.1
set_option maxHeartbeats 2000000 in
theorem show_cat (h : Buf w0.heap.size w V S) (hb : Below w0.heap.size w0 w) (hs : S.size ≤ 100000000)
    (HC : ∀ w2 V2, Buf w0.heap.size w2 V2 (S ++ strB [99, 97, 116]) → FrO w0.heap.size w w2 → Calls Tryd.prog 43 #[V2, .slice D nk ck] w2 (ShowV w0.heap.size w2 (S ++ strB [99, 97, 116]) (strB [40] ++ K ++ strB [41]))) : Calls Tryd.prog 26 #[V, .agg #[.int .i64 4, .slice A ns cs, .int .i64 mn, .int .i64 mx, .slice D nk ck]] w (ShowV w0.heap.size w S (nodeB 4 s mn mx K)) := by
  have hN : S ++ strB [99, 97, 116] ++ (strB [40] ++ K ++ strB [41]) = S ++ nodeB 4 s mn mx K := by show _ = S ++ (strB [99, 97, 116, 40] ++ K ++ strB [41]); rw [show strB [99, 97, 116, 40] = strB [99, 97, 116] ++ strB [40] from by rw [strB_append]; rfl]; simp only [ba_assoc]
  obtain ⟨W1, g, hW1, hg, hbel, hsz, hbox⟩ := box_world w #[.int .i64 4, .slice A ns cs, .int .i64 mn, .int .i64 mx, .slice D nk ck] 26
  have h1 : Buf w0.heap.size W1 V S := by rw [hW1]; exact h.alloc _
  have f1 : FrO w0.heap.size w W1 := by rw [hW1]; exact (FrO.refl _ _).alloc hb.size _
  have hbx1 : W1.heap[g]? = some (.cells #[.int .i64 4, .slice A ns cs, .int .i64 mn, .int .i64 mx, .slice D nk ck] 26 (0, 0)) := by rw [hW1, hg]; exact heap_alloc_new w _
  have hB1 : w0.heap.size ≤ W1.heap.size := Nat.le_trans hb.size f1.1.size
  obtain ⟨n0, n1, n2, n3, n4, _⟩ := box_facts' hbx1
  obtain ⟨V2, w2, ha, hb2, hf2⟩ := buf_str (w := W1.drew) h1 ⟨#[99, 97, 116]⟩ hB1 (by show _ + 3 ≤ _; omega)
  have hbx2 := hf2.keep (k := g) (show W1.drew.heap[g]? = _ from hbx1) (by decide)
  have m := cell_of_row w2 g 4 _ _ (0, 0) hbx2
  have HCC := Lib.hid (HC w2 V2 hb2 (f1.trans (f1.drew.trans hf2 |> fun q => (FrO.refl w0.heap.size W1).drew.trans hf2)))
  obtain ⟨U2, hU2, hb2⟩ := hb2.letter
  obtain ⟨A2, c2, rfl, _⟩ := hb2.slice
  obtain ⟨Av, cv, rfl, _⟩ := h.slice
  have H2 := Lib.hid (And.intro (f1.trans ((FrO.refl w0.heap.size W1).drew.trans hf2)) hN)
  clear h hb hb2 hf2 f1 h1 hbx1 hbx2 hN HC hU2
  go_enter Tryd.func26, Tryd.ntmps26
  go_wp2_with fail
  rw [← hW1, ← hg]
  clear hW1 hg hbox hbel hsz
  go_wp2_with fail
  go_region_law (first
    | (refine step_append2 rfl _ _ 39 9 rfl rfl _ _ _ _ rfl rfl ha ?_)
    | (go_simp; go_at_call 43; (with_reducible refine HCC.out.mono ?_); rintro e w4 ⟨V4, rfl, hb4, hf4⟩; have H4 := Lib.hid (And.intro hb4 hf4); clear hb4 hf4))
  all_goals
    go_wp2
    go_ret
    refine ⟨V4, rfl, ?_, H2.out.1.trans H4.out.2⟩
    rw [← H2.out.2]
    exact H4.out.1
set_option maxHeartbeats 2000000 in
theorem show_alt (h : Buf w0.heap.size w V S) (hb : Below w0.heap.size w0 w) (hs : S.size ≤ 100000000)
    (HC : ∀ w2 V2, Buf w0.heap.size w2 V2 (S ++ strB [97, 108, 116]) → FrO w0.heap.size w w2 → Calls Tryd.prog 43 #[V2, .slice D nk ck] w2 (ShowV w0.heap.size w2 (S ++ strB [97, 108, 116]) (strB [40] ++ K ++ strB [41]))) : Calls Tryd.prog 26 #[V, .agg #[.int .i64 5, .slice A ns cs, .int .i64 mn, .int .i64 mx, .slice D nk ck]] w (ShowV w0.heap.size w S (nodeB 5 s mn mx K)) := by
  have hN : S ++ strB [97, 108, 116] ++ (strB [40] ++ K ++ strB [41]) = S ++ nodeB 5 s mn mx K := by show _ = S ++ (strB [97, 108, 116, 40] ++ K ++ strB [41]); rw [show strB [97, 108, 116, 40] = strB [97, 108, 116] ++ strB [40] from by rw [strB_append]; rfl]; simp only [ba_assoc]
  obtain ⟨W1, g, hW1, hg, hbel, hsz, hbox⟩ := box_world w #[.int .i64 5, .slice A ns cs, .int .i64 mn, .int .i64 mx, .slice D nk ck] 26
  have h1 : Buf w0.heap.size W1 V S := by rw [hW1]; exact h.alloc _
  have f1 : FrO w0.heap.size w W1 := by rw [hW1]; exact (FrO.refl _ _).alloc hb.size _
  have hbx1 : W1.heap[g]? = some (.cells #[.int .i64 5, .slice A ns cs, .int .i64 mn, .int .i64 mx, .slice D nk ck] 26 (0, 0)) := by rw [hW1, hg]; exact heap_alloc_new w _
  have hB1 : w0.heap.size ≤ W1.heap.size := Nat.le_trans hb.size f1.1.size
  obtain ⟨n0, n1, n2, n3, n4, _⟩ := box_facts' hbx1
  obtain ⟨V2, w2, ha, hb2, hf2⟩ := buf_str (w := W1.drew) h1 ⟨#[97, 108, 116]⟩ hB1 (by show _ + 3 ≤ _; omega)
  have hbx2 := hf2.keep (k := g) (show W1.drew.heap[g]? = _ from hbx1) (by decide)
  have m := cell_of_row w2 g 4 _ _ (0, 0) hbx2
  have HCC := Lib.hid (HC w2 V2 hb2 (f1.trans (f1.drew.trans hf2 |> fun q => (FrO.refl w0.heap.size W1).drew.trans hf2)))
  obtain ⟨U2, hU2, hb2⟩ := hb2.letter
  obtain ⟨A2, c2, rfl, _⟩ := hb2.slice
  obtain ⟨Av, cv, rfl, _⟩ := h.slice
  have H2 := Lib.hid (And.intro (f1.trans ((FrO.refl w0.heap.size W1).drew.trans hf2)) hN)
  clear h hb hb2 hf2 f1 h1 hbx1 hbx2 hN HC hU2
  go_enter Tryd.func26, Tryd.ntmps26
  go_wp2_with fail
  rw [← hW1, ← hg]
  clear hW1 hg hbox hbel hsz
  go_wp2_with fail
  go_region_law (first
    | (refine step_append2 rfl _ _ 39 9 rfl rfl _ _ _ _ rfl rfl ha ?_)
    | (go_simp; go_at_call 43; (with_reducible refine HCC.out.mono ?_); rintro e w4 ⟨V4, rfl, hb4, hf4⟩; have H4 := Lib.hid (And.intro hb4 hf4); clear hb4 hf4))
  all_goals
    go_wp2
    go_ret
    refine ⟨V4, rfl, ?_, H2.out.1.trans H4.out.2⟩
    rw [← H2.out.2]
    exact H4.out.1
end
end Go.Proofs.YtajnedkjmgjjbaaDoor
