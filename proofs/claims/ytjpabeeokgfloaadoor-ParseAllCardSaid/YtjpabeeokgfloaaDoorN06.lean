/- How long what is shown may be. -/
import Derived.Test.YtjpabeeokgfloaaDoorM03
import Derived.Test.YtjpabeeokgfloaaDoorM04
import Derived.Test.YtjpabeeokgfloaaDoorM09
import Derived.Test.YtjpabeeokgfloaaDoorN05
import Derived.Lib.OthersKept
import Derived.Lib.AppendStr
import Derived.Deep.RegionHeldLaw
import Derived.Deep.RegionLaw
import Derived.BigQuiet
namespace Go.Proofs.YtjpabeeokgfloaaDoor
open Go Go.RowKit
set_option linter.unusedVariables false

/-- A whole number of 64 bits. -/
def In64 (n : Int) : Prop := -9223372036854775808 ≤ n ∧ n ≤ 9223372036854775807
/-- All numbers of a tree are. -/
def WfW : Wood → Prop
  | .nil => True
  | .cons op s mn mx k x => (In64 op ∧ In64 mn ∧ In64 mx ∧ ∀ p ∈ s, In64 p.1 ∧ In64 p.2) ∧ WfW k ∧ WfW x
theorem wfW_nth : ∀ (a : Wood) (j : Nat), j < a.len → WfW a → WfW (a.nth j)
  | .nil, _, h, _ => by simp [Wood.len] at h
  | .cons .., 0, _, ⟨h1, h2, _⟩ => ⟨h1, h2, trivial⟩
  | .cons _ _ _ _ _ x, j + 1, h, ⟨_, _, h3⟩ => wfW_nth x j (by simp only [Wood.len] at h; omega) h3
theorem ba_size (a b : ByteArray) : (a ++ b).size = a.size + b.size := ByteArray.size_append
theorem digB_size {n : Int} (h : In64 n) : (digB n).size ≤ 21 := by
  unfold In64 at h
  have e : (digB n).size = (Lib.itoa n).length := strB_size _
  rw [e]
  unfold Lib.itoa
  split
  · rw [List.length_cons, Lib.decDigits_length]
    have := nDigits_le (u := n.natAbs) (by omega)
    omega
  · rw [Lib.decDigits_length]
    have := nDigits_le (u := n.toNat) (by omega)
    omega
theorem joinB_size (sep : ByteArray) : ∀ l : List ByteArray, (joinB sep l).size ≤ (l.map ByteArray.size).sum + sep.size * l.length
  | [] => Nat.zero_le _
  | [x] => by simp [joinB]
  | x :: y :: l => by
    have ih := joinB_size sep (y :: l)
    rw [joinB, ba_size, ba_size, List.map_cons, List.sum_cons, List.length_cons, Nat.mul_add, Nat.mul_one]
    omega
theorem rngB_size {p : Int × Int} (h : In64 p.1 ∧ In64 p.2) : (rngB p).size ≤ 43 := by
  have h1 := digB_size h.1
  have h2 := digB_size h.2
  unfold rngB
  split
  · omega
  · rw [ba_size, ba_size, strB_size]
    simp only [List.length_cons, List.length_nil]
    omega
theorem setB_size : ∀ {s : List (Int × Int)}, (∀ p ∈ s, In64 p.1 ∧ In64 p.2) → (setB s).size ≤ 44 * s.length := by
  intro s h
  have h1 := joinB_size (strB [32]) (s.map rngB)
  rw [strB_size, List.length_map] at h1
  have h2 : ((s.map rngB).map ByteArray.size).sum ≤ 43 * s.length := by
    clear h1
    induction s with
    | nil => exact Nat.le_refl _
    | cons p s ih =>
      have := rngB_size (h p (by simp))
      have := ih fun q hq => h q (List.mem_cons_of_mem _ hq)
      rw [List.map_cons, List.map_cons, List.sum_cons, List.length_cons]
      omega
  have e : setB s = joinB (strB [32]) (s.map rngB) := rfl
  rw [e]
  simp only [List.length_cons, List.length_nil] at h1
  omega
theorem nodeB_size {op : Int} {s : List (Int × Int)} {mn mx : Int} (K : ByteArray) (h1 : In64 mn) (h2 : In64 mx) (h3 : ∀ p ∈ s, In64 p.1 ∧ In64 p.2) : (nodeB op s mn mx K).size ≤ 56 + 44 * s.length + K.size := by
  have d1 := digB_size h1
  have d2 := digB_size h2
  have d3 := setB_size h3
  unfold nodeB
  (repeat' split) <;> simp only [ba_size, strB_size, List.length_cons, List.length_nil] <;> omega
theorem showW_size : ∀ {a : Wood}, WfW a → ((showW a).map ByteArray.size).sum + a.len ≤ 64 * heavy a
  | .nil, _ => Nat.le_refl _
  | .cons op s mn mx k x, ⟨⟨_, h1, h2, h3⟩, h4, h5⟩ => by
    have i1 := showW_size h4
    have i2 := showW_size h5
    have j1 := joinB_size (strB [44]) (showW k)
    rw [strB_size, showW_len] at j1
    simp only [List.length_cons, List.length_nil] at j1
    have n1 := nodeB_size (op := op) (joinB (strB [44]) (showW k)) h1 h2 h3
    simp only [showW, List.map_cons, List.sum_cons, Wood.len, heavy]
    omega
theorem kidsB_size {a : Wood} (h : WfW a) : (kidsB a).size ≤ 64 * heavy a := by
  have h1 := showW_size h
  have j1 := joinB_size (strB [44]) (showW a)
  rw [strB_size, showW_len] at j1
  simp only [List.length_cons, List.length_nil] at j1
  have e : kidsB a = joinB (strB [44]) (showW a) := rfl
  rw [e]
  omega
theorem wfW_take : ∀ (a : Wood) (j : Nat), WfW a → WfW (a.take j)
  | .nil, j, _ => by cases j <;> trivial
  | .cons .., 0, _ => trivial
  | .cons _ _ _ _ _ x, j + 1, ⟨h1, h2, h3⟩ => ⟨h1, h2, wfW_take x j h3⟩
theorem heavy_take : ∀ (a : Wood) (j : Nat), heavy (a.take j) ≤ heavy a
  | .nil, j => by cases j <;> exact Nat.le_refl _
  | .cons .., 0 => Nat.zero_le _
  | .cons _ _ _ _ _ x, j + 1 => by have := heavy_take x j; simp only [Wood.take, heavy]; omega
end Go.Proofs.YtjpabeeokgfloaaDoor
/- A row of octets that grows: texts, octets, numbers put behind it. -/
namespace Go.Proofs.YtjpabeeokgfloaaDoor
open Go Go.RowKit
set_option linter.unusedVariables false
set_option maxRecDepth 20000

/-- The row of octets at V reads as the text S. -/
def Buf (B : Nat) (w : World) (V : Value) (S : ByteArray) : Prop := w.ownsRow B 5 1 V S.size (Lib.byteCells S.data.toList)
/-- Below B nothing has turned, and above it nothing but rows of octets. -/
def FrO (B : Nat) (w w' : World) : Prop := Below B w w' ∧ Lib.OthersKept 5 none w w'
theorem FrO.refl (B : Nat) (w : World) : FrO B w w := ⟨Below.refl _ _, Lib.OthersKept.refl _ _ _⟩
theorem FrO.trans {B : Nat} {a b c : World} (h : FrO B a b) (k : FrO B b c) : FrO B a c := ⟨h.1.trans k.1, h.2.trans k.2⟩
theorem FrO.drewN {B : Nat} {a b : World} (h : FrO B a b) (q : Nat) : FrO B a (b.drewN q) := ⟨below_drewN h.1 q, h.2⟩
theorem FrO.drew {B : Nat} {a b : World} (h : FrO B a b) : FrO B a b.drew := ⟨h.1.drew, h.2⟩
theorem FrO.alloc {B : Nat} {a b : World} (h : FrO B a b) (hB : B ≤ a.heap.size) (o : Obj) : FrO B a (b.alloc o) := ⟨h.1.alloc (Nat.le_trans hB h.1.size) o, h.2.alloc o⟩
theorem FrO.mono {B B' : Nat} {a b : World} (h : FrO B a b) (hB : B' ≤ B) : FrO B' a b := ⟨h.1.mono hB, h.2⟩
/-- A block that is no row of octets stays. -/
theorem FrO.keep {B : Nat} {a b : World} (h : FrO B a b) {k : Nat} {cs : Array Value} {t : TypeId} {fr : Nat × Nat} (hk : a.heap[k]? = some (.cells cs t fr)) (ht : t ≠ 5) : b.heap[k]? = some (.cells cs t fr) :=
  h.2 k _ hk (by simp) fun c fz e => by injection e with _ e _; exact ht e

/-- append in a region that draws, by what its run is known to give (of a text behind octets). -/
theorem step_append2 {P : Program} {ops : Array Oper} {o : Oper} {a : Act} {w : World} {K : Act → World → Prop} {Q : Exit → Act → World → Prop} {E : Prop} (hgd : o.guard = none) (s x : Operand) (t u : TypeId)
    (ho : o.op = .call { callee := .builtin .append, args := #[s, x], argTypes := #[t, u] }) (hty : o.type = t)
    (v y v' : Value) (w' : World) (hs : a.eval s = v) (hx : a.eval x = y) (hrun : (Builtin.append_ #[t, u] t #[v, y]).run P w = .ok v' w')
    (hK : K (a.put o.dst v') w') : if Region.wanted o (yielded ops a.tmps) = true then Oper.wp P o a w K Q else E := by
  have hw : Region.wanted o (yielded ops a.tmps) = true := by simp [Region.wanted, hgd]
  rw [if_pos hw]
  subst hty
  unfold Oper.wp
  simp [execOp, ho, resolve, invoke, builtin, hs, hx, hrun, Result.andThen]
  exact hK
/-- append in a region that draws, by what its run is known to give. -/
theorem step_append_run {P : Program} {ops : Array Oper} {o : Oper} {a : Act} {w : World} {K : Act → World → Prop} {Q : Exit → Act → World → Prop} {E : Prop} (hgd : o.guard = none) (s x : Operand) (t : TypeId)
    (ho : o.op = .call { callee := .builtin .append, args := #[s, x], argTypes := #[t, t] }) (hty : o.type = t)
    (v y v' : Value) (w' : World) (hs : a.eval s = v) (hx : a.eval x = y) (hrun : (Builtin.append_ #[t, t] t #[v, y]).run P w = .ok v' w')
    (hK : K (a.put o.dst v') w') : if Region.wanted o (yielded ops a.tmps) = true then Oper.wp P o a w K Q else E := by
  have hw : Region.wanted o (yielded ops a.tmps) = true := by simp [Region.wanted, hgd]
  rw [if_pos hw]
  subst hty
  unfold Oper.wp
  simp [execOp, ho, resolve, invoke, builtin, hs, hx, hrun, Result.andThen]
  exact hK

/-- append in a list of operations. -/
theorem wpList_append2 {P : Program} {w : World} {ops : Array Oper} {rest : List Oper} {o : Oper} {a : Act} {Q : Exit → Act → World → Prop} (hgd : o.guard = none) (s x : Operand) (t u : TypeId)
    (ho : o.op = .call { callee := .builtin .append, args := #[s, x], argTypes := #[t, u] }) (hty : o.type = t)
    (v y v' : Value) (w' : World) (hs : a.eval s = v) (hx : a.eval x = y) (hrun : (Builtin.append_ #[t, u] t #[v, y]).run P w = .ok v' w')
    (h : wpList P ops Q rest (a.put o.dst v') w') : wpList P ops Q (o :: rest) a w := by
  subst hty
  refine wpList_plain hgd fun K hK => ?_
  unfold Oper.wp
  simp [execOp, ho, resolve, invoke, builtin, hs, hx, hrun, Result.andThen]
  exact hK _ _ h

theorem info_oct : (Tryd.prog.info? 5).map (fun i => (i.zero, i.size, i.bytes)) = some (some (.int .u8 0), 1, 1) := by kernel_rfl
section
variable {w w' : World} {B : Nat} {V : Value} {S : ByteArray}
theorem Buf.nil_ (B : Nat) (w : World) : Buf B w (.slice none 0 0) ByteArray.empty := World.ownsRow_nil _ _ _ _
theorem Buf.slice (h : Buf B w V S) : ∃ A c, V = .slice A S.size c ∧ RowI .u8 w A S.size (nums S) ∧ S.size ≤ c ∧ c ≤ maxLen := by
  have e : Lib.byteCells S.data.toList = (nums S).map (.int .u8) := by simp [Lib.byteCells, nums]
  unfold Buf at h
  rw [e] at h
  have hl := nums_length S
  rw [← hl] at h ⊢
  exact row_of_own h
theorem Buf.alloc (h : Buf B w V S) (o : Obj) : Buf B (w.alloc o) V S := own_alloc h o
theorem Buf.drewN (h : Buf B w V S) (q : Nat) : Buf B (w.drewN q) V S := h
theorem Buf.drew (h : Buf B w V S) : Buf B w.drew V S := h
theorem Buf.grown_frame (h : Buf B w V S) (hB : B ≤ w.heap.size) {a : World} (hf : FrO B a w) (hg : w.grownBy w' V.ownBlock) : FrO B a w' := by
  refine ⟨hf.1.grown hg hB fun k hk => (row_lt h hk).1, hf.2.grown hg fun g hk => ?_⟩
  rcases h.2 with ⟨e, _⟩ | ⟨b, cap, cur, e, _, hr, _⟩
  · subst e; cases hk
  · subst e
    injection hk with hk
    subst hk
    exact ⟨cur, (0, 0), hr⟩
/-- A text is put behind. -/
theorem buf_str (h : Buf B w V S) (T : ByteArray) (hB : B ≤ w.heap.size) (hs : S.size + T.size ≤ 140000000) :
    ∃ V' w', (Builtin.append_ #[51, 9] 51 #[V, .string T]).run Tryd.prog w = .ok V' w' ∧ Buf B w' V' (S ++ T) ∧ FrO B w w' := by
  obtain ⟨i0, hi, hz0, hz1, hz2⟩ := info_parts info_oct
  obtain ⟨V', w', h1, h2, h3, _⟩ := Lib.run_append_own_string (P := Tryd.prog) w B 51 9 51 5 i0 Tryd.underlying51 Tryd.underlying9 hi hz0 hz1 hz2 V S.size _ h T (by unfold maxLen; omega) (by omega) hB
  refine ⟨V', w', h1, ?_, h.grown_frame hB (FrO.refl _ _) h3⟩
  unfold Buf
  rw [show (S ++ T).data.toList = S.data.toList ++ T.data.toList by simp, show Lib.byteCells (S.data.toList ++ T.data.toList) = Lib.byteCells S.data.toList ++ Lib.strCells T by simp [Lib.byteCells, Lib.strCells], ba_size]
  exact h2
/-- An octet is put behind: it lies in a block of its own, just made. -/
theorem buf_byte (h : Buf B w V S) (c : UInt8) (k : Int) (hk : k = (c.toNat : Int)) (hB : B ≤ w.heap.size) (hs : S.size ≤ 140000000) :
    ∃ V' w', (Builtin.append_ #[51, 51] 51 #[V, .slice (some ⟨w.heap.size, 0, none⟩) 1 1]).run Tryd.prog (w.alloc (.cells #[.int .u8 k] 5)) = .ok V' w' ∧ Buf B w' V' (S ++ strB [c]) ∧ FrO B w w' := by
  subst hk
  obtain ⟨V', w', h1, h2, h3⟩ := push_run 51 5 (.int .u8 0) 1 Tryd.underlying51 info_oct rfl w B V S.size _ h (.int .u8 (c.toNat : Int)) rfl (by omega) (by unfold maxLen; omega) hB
  refine ⟨V', w', h1, ?_, (h.alloc (.cells #[.int .u8 (c.toNat : Int)] 5)).grown_frame (by simp; omega) ((FrO.refl _ _).alloc hB _) h3⟩
  unfold Buf
  rw [show (S ++ strB [c]).data.toList = S.data.toList ++ [c] by simp [strB], show Lib.byteCells (S.data.toList ++ [c]) = Lib.byteCells S.data.toList ++ [.int .u8 (c.toNat : Int)] by simp [Lib.byteCells], ba_size]
  exact h2
end
/-- The table of powers, as it was laid; nothing below B turns. -/
def Tab (B : Nat) (w : World) : Prop := Lib.TabBelow Tryd.prog B w "internal/strconv.uint64pow10" .u64 Lib.pow10Tab
theorem Tab.on {B : Nat} {w w' : World} (h : Tab B w) (hb : Below B w w') : Tab B w' := Lib.TabBelow.on h hb
theorem Tab.up {B B' : Nat} {w : World} (h : Tab B w) (hB : B ≤ B') : Tab B' w := fun w' hb => h w' (hb.mono hB)
/-- A number is put behind. -/
theorem number_buf {B : Nat} {w : World} {V : Value} {S : ByteArray} (h : Buf B w V S) (n : Int) (hn : In64 n) (hB : B ≤ w.heap.size) (hs : S.size ≤ 140000000) (ht : Tab B w) :
    Calls Tryd.prog 32 #[V, .int .i64 n] w fun e w' => ∃ V', e = .returned V' ∧ Buf B w' V' (S ++ digB n) ∧ FrO B w w' := by
  have HA := Lib.hid (Tryd.append_int B S.size n hn.1 hn.2 V _ w h hB (by omega) ht)
  obtain ⟨A, c, rfl, _⟩ := h.slice
  clear h
  go_enter Tryd.func32, Tryd.ntmps32
  go_wp2_with (go_at_call 47; (with_reducible refine HA.out.mono ?_); rintro e w1 ⟨v, rfl, ho, hb, hk⟩; have HO := Lib.hid (And.intro ho (And.intro hb hk)); clear ho hb hk)
  go_ret
  refine ⟨v, rfl, ?_, HO.out.2⟩
  have := HO.out.1
  unfold Buf
  rw [show (S ++ digB n).data.toList = S.data.toList ++ Lib.itoa n by simp [digB], Lib.byteCells_append, ba_size, show (digB n).size = (Lib.itoa n).length by simp [digB, ByteArray.size]]
  exact this
end Go.Proofs.YtjpabeeokgfloaaDoor
/- The program's showSet. -/
namespace Go.Proofs.YtjpabeeokgfloaaDoor
open Go Go.RowKit
set_option linter.unusedVariables false
set_option maxRecDepth 20000

theorem setB_nil : setB [] = ByteArray.empty := rfl
/-- The first range; one more. -/
theorem set_step0 {S1 U : ByteArray} {s : List (Int × Int)} {j : Nat} {p : Int × Int} (hU : U = S1 ++ setB (s.take j)) (ht : s.take (j + 1) = s.take j ++ [p]) (h0 : j = 0) : U ++ rngB p = S1 ++ setB (s.take (j + 1)) := by
  rw [ht, hU, h0, List.take_zero, setB_nil, ba_nil]; rfl
theorem set_step1 {S1 U : ByteArray} {s : List (Int × Int)} {j : Nat} {p : Int × Int} (hU : U = S1 ++ setB (s.take j)) (ht : s.take (j + 1) = s.take j ++ [p]) (h0 : 0 < j) : U ++ strB [32] ++ rngB p = S1 ++ setB (s.take (j + 1)) := by
  have hne : s.take j ≠ [] := fun e => by
    rw [e, List.nil_append] at ht
    have := congrArg List.length ht
    rw [List.length_take, List.length_singleton] at this
    have h2 := congrArg List.length e
    rw [List.length_take, List.length_nil] at h2
    omega
  rw [ht, setB_snoc, if_neg hne, hU]
  simp only [ba_assoc]
set_option maxHeartbeats 4000000 in
theorem showSet_buf {w0 w : World} {V : Value} {S : ByteArray} {A : Option Addr} {n c : Nat} {s : List (Int × Int)} (h : Buf w0.heap.size w V S) (hb : Below w0.heap.size w0 w) (ht : Tab w0.heap.size w) (hr : RowG w0 A n s) (hw : ∀ p ∈ s, In64 p.1 ∧ In64 p.2) (hs : S.size + 50 * n ≤ 100000000) :
    Calls Tryd.prog 30 #[V, .slice A n c] w fun e w' => ∃ V', e = .returned V' ∧ Buf w0.heap.size w' V' (S ++ strB [123] ++ setB s ++ strB [125]) ∧ FrO w0.heap.size w w' := by
  obtain ⟨V1, w1, ha1, hb1, hf1⟩ := buf_byte h 123 123 rfl hb.size (by omega)
  obtain ⟨S1, hS1⟩ : ∃ T, T = S ++ strB [123] := ⟨_, rfl⟩
  have hS1s : S1.size ≤ S.size + 1 := by rw [hS1, ba_size, strB_size]; exact Nat.le_refl _
  rw [← hS1] at hb1 ⊢
  obtain ⟨A1, c1, rfl, _⟩ := hb1.slice
  obtain ⟨A0, c0, rfl, _⟩ := h.slice
  have HR := Lib.hid hr
  have HWF := Lib.hid hw
  have HB := Lib.hid (And.intro hb ht)
  have H1 := Lib.hid (And.intro hb1 hf1)
  have hn : n ≤ 2000000 := by omega
  clear h hb ht hr hw hb1 hf1 hS1
  go_enter Tryd.func30, Tryd.ntmps30
  go_wp2_with (at_builtin; refine wpList_append_run rfl _ _ 51 rfl rfl _ _ _ _ rfl rfl ha1 ?_)
  go_loopw [0, 12] (fun vb vi wr => ∃ (j : Nat) (U : ByteArray), vi = .int .i64 (j : Int) ∧ j ≤ n ∧ U.size ≤ S.size + 1 + 46 * j ∧
    ∃ (A : Option Addr) (c : Nat), vb = .slice A U.size c ∧ Hid (Buf w0.heap.size wr (.slice A U.size c) U ∧ FrO w0.heap.size w wr ∧ U = S1 ++ setB (s.take j))) (fun _ vi _ => n - (intOf vi).toNat)
  case atStart => exact ⟨0, S1, rfl, Nat.zero_le _, by omega, A1, c1, rfl, Lib.hid ⟨H1.out.1, H1.out.2, by rw [List.take_zero, setB_nil, ba_nil]⟩⟩
  case round =>
    obtain ⟨j, U, rfl, hj, hU, Ab, cb, rfl, H⟩ := hrel
    by_cases hlt : j < n
    · obtain ⟨b, o, rfl, hblt, hc⟩ := HR.out.2 (by omega)
      obtain ⟨e0, e1⟩ := hc j hlt
      have hbw : Below w0.heap.size w0 wr := HB.out.1.trans H.out.2.1.1
      have c0 := (hbw.cell (p := ⟨b, o + j * 2, none⟩) hblt).trans e0
      have c1 := (hbw.cell (p := ⟨b, o + j * 2 + 1, none⟩) hblt).trans e1
      have hmem : s.getD j (0, 0) ∈ s := by
        rw [List.getD, List.getElem?_eq_getElem (by have := HR.out.1; omega)]
        exact List.getElem_mem _
      have htk : s.take (j + 1) = s.take j ++ [s.getD j (0, 0)] := by
        rw [List.take_succ_eq_append_getElem (by have := HR.out.1; omega)]
        simp [List.getD, List.getElem?_eq_getElem (show j < s.length by have := HR.out.1; omega)]
      have hwf := HWF.out _ hmem
      obtain ⟨r, hrr⟩ : ∃ r, r = s.getD j (0, 0) := ⟨_, rfl⟩
      rw [← hrr] at c0 c1 htk hwf
      obtain ⟨x, y⟩ := r
      dsimp only at c0 c1 hwf
      clear hc e0 e1 hmem hrr
      have hBw : w0.heap.size ≤ w.heap.size := HB.out.1.size
      have hdx := digB_size hwf.1
      have hdy := digB_size hwf.2
      rcases Nat.eq_zero_or_pos j with h0 | h0
      · have hj0 : ¬ 0 < j := by omega
        have HTK := Lib.hid (And.intro htk h0)
        clear htk h0
        have HBX := Lib.hid (heap_alloc_new wr (.cells #[.int .i64 x, .int .i64 y] 62))
        have HFW := Lib.hid (H.out.2.1.alloc hBw (.cells #[.int .i64 x, .int .i64 y] 62))
        have HN := Lib.hid (number_buf (H.out.1.alloc (.cells #[.int .i64 x, .int .i64 y] 62)) x hwf.1 (Nat.le_trans HB.out.1.size (H.out.2.1.alloc hBw (.cells #[.int .i64 x, .int .i64 y] 62)).1.size) (by omega) (HB.out.2.on (H.out.2.1.alloc hBw (.cells #[.int .i64 x, .int .i64 y] 62)).1))
        by_cases hxy : x = y
        · subst hxy
          have hne : (x != x) = false := by simp
          go_wp2_with (first
            | (go_at_call 32; (with_reducible refine HN.out.mono ?_); rintro e w2 ⟨V2, rfl, hb2, hf2⟩; obtain ⟨A2, c2, rfl, _⟩ := hb2.slice; have hbx := hf2.keep (k := wr.heap.size) HBX.out (by decide); have q0 := cell_of_row w2 wr.heap.size 0 _ _ (0, 0) hbx; have q1 := cell_of_row w2 wr.heap.size 1 _ _ (0, 0) hbx; have H2 := Lib.hid (And.intro hb2 hf2); clear hb2 hf2 hbx))
          refine ⟨⟨j + 1, U ++ digB x, by go_num, by omega, by rw [ba_size]; omega, _, _, by first | rfl | (rw [ba_size]), Lib.hid ⟨H2.out.1, HFW.out.trans H2.out.2, ?_⟩⟩, by simp [intOf]; omega⟩
          rw [← set_step0 H.out.2.2 HTK.out.1 HTK.out.2, show rngB (x, x) = digB x from if_pos rfl]
        · have hne : (x != y) = true := by simpa using hxy
          go_wp2_with (first
            | (go_at_call 32; (with_reducible refine HN.out.mono ?_); rintro e w2 ⟨V2, rfl, hb2, hf2⟩; obtain ⟨U2, hU2⟩ : ∃ T, T = U ++ digB x := ⟨_, rfl⟩; rw [← hU2] at hb2; have hU2s : U2.size ≤ U.size + 21 := (by rw [hU2, ba_size]; omega); obtain ⟨A2, c2, rfl, _⟩ := hb2.slice; have hbx := hf2.keep (k := wr.heap.size) HBX.out (by decide); have q0 := cell_of_row w2 wr.heap.size 0 _ _ (0, 0) hbx; have q1 := cell_of_row w2 wr.heap.size 1 _ _ (0, 0) hbx; have H2 := Lib.hid (And.intro hb2 (And.intro hf2 (And.intro hU2 hbx))); clear hb2 hf2 hU2 hbx))
          have hB2 : w0.heap.size ≤ w2.heap.size := Nat.le_trans HB.out.1.size (Nat.le_trans HFW.out.1.size H2.out.2.1.1.size)
          obtain ⟨V3, w3, ha3, hb3, hf3⟩ := buf_byte (w := w2.drew) H2.out.1 45 45 rfl (by exact hB2) (by omega)
          obtain ⟨U3, hU3⟩ : ∃ T, T = U2 ++ strB [45] := ⟨_, rfl⟩
          have hU3s : U3.size ≤ U2.size + 1 := by rw [hU3, ba_size, strB_size]; exact Nat.le_refl _
          rw [← hU3] at hb3
          obtain ⟨A3, c3, rfl, _⟩ := hb3.slice
          have ha3d : (Builtin.append_ #[51, 51] 51 #[.slice A2 U2.size c2, .slice (some ⟨w2.heap.size, 0, none⟩) 1 1]).run Tryd.prog (w2.alloc (.cells #[.int .u8 45] 5)).drew = .ok (.slice A3 U3.size c3) w3 := ha3
          have hb2d : w2.drew.heap[wr.heap.size]? = some (.cells #[.int .i64 x, .int .i64 y] 62 (0, 0)) := H2.out.2.2.2
          have p2 := fun o => cell_of_row (w2.alloc o) wr.heap.size 1 _ _ (0, 0) (((FrO.refl w0.heap.size w2).alloc hB2 o).keep hb2d (by decide))
          have p3 := cell_of_row w3 wr.heap.size 1 _ _ (0, 0) (hf3.keep hb2d (by decide))
          have hfw3 : FrO w0.heap.size w w3 := (HFW.out.trans (H2.out.2.1.drew)).trans hf3
          have HN3 := Lib.hid (number_buf hb3 y hwf.2 (Nat.le_trans HB.out.1.size hfw3.1.size) (by omega) (HB.out.2.on hfw3.1))
          have H3 := Lib.hid (And.intro hfw3 hU3)
          clear hb3 hf3 hU3 hfw3 hb2d
          clear q0 ha3
          go_region_law (first
            | (refine step_append_run rfl _ _ 51 rfl rfl _ _ _ _ rfl rfl ha3d ?_)
            | (go_simp; go_at_call 32; (with_reducible refine HN3.out.mono ?_); rintro e w4 ⟨V4, rfl, hb4, hf4⟩; obtain ⟨A4, c4, rfl, _⟩ := hb4.slice; have H4 := Lib.hid (And.intro hb4 hf4); clear hb4 hf4))
          all_goals
            go_wp2
            refine ⟨⟨j + 1, U3 ++ digB y, by go_num, by omega, by rw [ba_size]; omega, _, _, by first | rfl | (rw [ba_size]), Lib.hid ⟨H4.out.1, H3.out.1.trans H4.out.2, ?_⟩⟩, by simp [intOf]; omega⟩
            rw [← set_step0 H.out.2.2 HTK.out.1 HTK.out.2, show rngB (x, y) = digB x ++ (strB [45] ++ digB y) from if_neg (fun e => hxy e.symm), H3.out.2, H2.out.2.2.1]
            simp only [ba_assoc]
      · have HTK := Lib.hid (And.intro htk h0)
        obtain ⟨V8, w8, ha8, hb8, hf8⟩ := buf_byte (H.out.1.alloc (.cells #[.int .i64 x, .int .i64 y] 62)) 32 32 rfl (Nat.le_trans (Nat.le_trans hBw H.out.2.1.1.size) (by simp)) (by omega)
        rw [show (wr.alloc (.cells #[.int .i64 x, .int .i64 y] 62)).heap.size = wr.heap.size + 1 by simp] at ha8
        obtain ⟨U8, hU8⟩ : ∃ T, T = U ++ strB [32] := ⟨_, rfl⟩
        have hU8s : U8.size ≤ U.size + 1 := by rw [hU8, ba_size, strB_size]; exact Nat.le_refl _
        rw [← hU8] at hb8
        obtain ⟨A8, c8, rfl, _⟩ := hb8.slice
        have hbx8 := hf8.keep (k := wr.heap.size) (heap_alloc_new wr (.cells #[.int .i64 x, .int .i64 y] 62)) (by decide)
        have r0 := cell_of_row w8 wr.heap.size 0 _ _ (0, 0) hbx8
        have HBX := Lib.hid hbx8
        have hf8o := Lib.hid ((H.out.2.1.alloc hBw (.cells #[.int .i64 x, .int .i64 y] 62)).trans hf8)
        have hb8o := Lib.hid hb8
        have HU8 := Lib.hid hU8
        clear htk hb8 hf8 hU8 hbx8
        have HFW := Lib.hid hf8o.out
        have HN := Lib.hid (number_buf hb8o.out x hwf.1 (Nat.le_trans HB.out.1.size hf8o.out.1.size) (by omega) (HB.out.2.on hf8o.out.1))
        by_cases hxy : x = y
        · subst hxy
          have hne : (x != x) = false := by simp
          go_wp2_with (first
            | (at_builtin; refine wpList_append_run rfl _ _ 51 rfl rfl _ _ _ _ rfl rfl ha8 ?_)
            | (go_at_call 32; (with_reducible refine HN.out.mono ?_); rintro e w2 ⟨V2, rfl, hb2, hf2⟩; obtain ⟨A2, c2, rfl, _⟩ := hb2.slice; have hbx := hf2.keep (k := wr.heap.size) HBX.out (by decide); have q0 := cell_of_row w2 wr.heap.size 0 _ _ (0, 0) hbx; have q1 := cell_of_row w2 wr.heap.size 1 _ _ (0, 0) hbx; have H2 := Lib.hid (And.intro hb2 hf2); clear hb2 hf2 hbx))
          refine ⟨⟨j + 1, U8 ++ digB x, by go_num, by omega, by rw [ba_size]; omega, _, _, by first | rfl | (rw [ba_size]), Lib.hid ⟨H2.out.1, HFW.out.trans H2.out.2, ?_⟩⟩, by simp [intOf]; omega⟩
          rw [← set_step1 H.out.2.2 HTK.out.1 HTK.out.2, show rngB (x, x) = digB x from if_pos rfl]
          rw [HU8.out]
        · have hne : (x != y) = true := by simpa using hxy
          go_wp2_with (first
            | (at_builtin; refine wpList_append_run rfl _ _ 51 rfl rfl _ _ _ _ rfl rfl ha8 ?_)
            | (go_at_call 32; (with_reducible refine HN.out.mono ?_); rintro e w2 ⟨V2, rfl, hb2, hf2⟩; obtain ⟨U2, hU2⟩ : ∃ T, T = U8 ++ digB x := ⟨_, rfl⟩; rw [← hU2] at hb2; have hU2s : U2.size ≤ U8.size + 21 := (by rw [hU2, ba_size]; omega); obtain ⟨A2, c2, rfl, _⟩ := hb2.slice; have hbx := hf2.keep (k := wr.heap.size) HBX.out (by decide); have q0 := cell_of_row w2 wr.heap.size 0 _ _ (0, 0) hbx; have q1 := cell_of_row w2 wr.heap.size 1 _ _ (0, 0) hbx; have H2 := Lib.hid (And.intro hb2 (And.intro hf2 (And.intro hU2 hbx))); clear hb2 hf2 hU2 hbx))
          have hB2 : w0.heap.size ≤ w2.heap.size := Nat.le_trans HB.out.1.size (Nat.le_trans HFW.out.1.size H2.out.2.1.1.size)
          obtain ⟨V3, w3, ha3, hb3, hf3⟩ := buf_byte (w := w2.drew) H2.out.1 45 45 rfl (by exact hB2) (by omega)
          obtain ⟨U3, hU3⟩ : ∃ T, T = U2 ++ strB [45] := ⟨_, rfl⟩
          have hU3s : U3.size ≤ U2.size + 1 := by rw [hU3, ba_size, strB_size]; exact Nat.le_refl _
          rw [← hU3] at hb3
          obtain ⟨A3, c3, rfl, _⟩ := hb3.slice
          have ha3d : (Builtin.append_ #[51, 51] 51 #[.slice A2 U2.size c2, .slice (some ⟨w2.heap.size, 0, none⟩) 1 1]).run Tryd.prog (w2.alloc (.cells #[.int .u8 45] 5)).drew = .ok (.slice A3 U3.size c3) w3 := ha3
          have hb2d : w2.drew.heap[wr.heap.size]? = some (.cells #[.int .i64 x, .int .i64 y] 62 (0, 0)) := H2.out.2.2.2
          have p2 := fun o => cell_of_row (w2.alloc o) wr.heap.size 1 _ _ (0, 0) (((FrO.refl w0.heap.size w2).alloc hB2 o).keep hb2d (by decide))
          have p3 := cell_of_row w3 wr.heap.size 1 _ _ (0, 0) (hf3.keep hb2d (by decide))
          have hfw3 : FrO w0.heap.size w w3 := (HFW.out.trans (H2.out.2.1.drew)).trans hf3
          have HN3 := Lib.hid (number_buf hb3 y hwf.2 (Nat.le_trans HB.out.1.size hfw3.1.size) (by omega) (HB.out.2.on hfw3.1))
          have H3 := Lib.hid (And.intro hfw3 hU3)
          clear hb3 hf3 hU3 hfw3 hb2d
          clear q0 ha3
          go_region_law (first
            | (refine step_append_run rfl _ _ 51 rfl rfl _ _ _ _ rfl rfl ha3d ?_)
            | (go_simp; go_at_call 32; (with_reducible refine HN3.out.mono ?_); rintro e w4 ⟨V4, rfl, hb4, hf4⟩; obtain ⟨A4, c4, rfl, _⟩ := hb4.slice; have H4 := Lib.hid (And.intro hb4 hf4); clear hb4 hf4))
          all_goals
            go_wp2
            refine ⟨⟨j + 1, U3 ++ digB y, by go_num, by omega, by rw [ba_size]; omega, _, _, by first | rfl | (rw [ba_size]), Lib.hid ⟨H4.out.1, H3.out.1.trans H4.out.2, ?_⟩⟩, by simp [intOf]; omega⟩
            rw [← set_step1 H.out.2.2 HTK.out.1 HTK.out.2, show rngB (x, y) = digB x ++ (strB [45] ++ digB y) from if_neg (fun e => hxy e.symm), H3.out.2, H2.out.2.2.1]
            rw [HU8.out]
            simp only [ba_assoc]
    · have hjn : j = n := by omega
      subst hjn
      obtain ⟨V9, w9, ha9, hb9, hf9⟩ := buf_byte H.out.1 125 125 rfl (by have := HB.out.1.size; have := H.out.2.1.1.size; omega) (by omega)
      have H9 := Lib.hid (And.intro hb9 hf9)
      clear hb9 hf9
      go_wp2_with (at_builtin; refine wpList_append_run rfl _ _ 51 rfl rfl _ _ _ _ rfl rfl ha9 ?_)
      go_ret
      refine ⟨V9, rfl, ?_, H.out.2.1.trans H9.out.2⟩
      have := H9.out.1
      rw [H.out.2.2, List.take_of_length_le (by have := HR.out.1; omega)] at this
      exact this
end Go.Proofs.YtjpabeeokgfloaaDoor
/- The document's Show. -/
namespace Go.Proofs.YtjpabeeokgfloaaDoor
open Go Go.RowKit
set_option linter.unusedVariables false
set_option maxRecDepth 20000

theorem oneB_cons (op : Int) (s : List (Int × Int)) (mn mx : Int) (k : Wood) : oneB (.cons op s mn mx k .nil) = nodeB op s mn mx (kidsB k) := rfl
def NodeL (op : Int) (A : Option Addr) (ns cs : Nat) (mn mx : Int) (D : Option Addr) (nk ck : Nat) : Value := .agg #[.int .i64 op, .slice A ns cs, .int .i64 mn, .int .i64 mx, .slice D nk ck]



end Go.Proofs.YtjpabeeokgfloaaDoor
