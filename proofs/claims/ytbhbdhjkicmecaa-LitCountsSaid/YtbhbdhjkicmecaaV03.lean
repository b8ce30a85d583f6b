/- A row of octets that grows: texts, octets put behind it. -/
import Derived.Test.YtbhbdhjkicmecaaM01
import Derived.Test.YtbhbdhjkicmecaaM03
import Derived.Test.YtbhbdhjkicmecaaM04
import Derived.Test.YtbhbdhjkicmecaaM06
import Derived.Test.YtbhbdhjkicmecaaM07
import Derived.Test.YtbhbdhjkicmecaaV01
import Derived.Test.YtbhbdhjkicmecaaV02
import Derived.Lib.OthersKept
import Derived.Lib.AppendStr
import Derived.Deep.RegionHeldLaw
import Derived.Deep.RegionLaw
import Derived.BigQuiet
import Derived.Lib.SliceRun
namespace Go.Proofs.Ytbhbdhjkicmecaa
open Go Go.RowKit
set_option linter.unusedVariables false
set_option maxRecDepth 20000

/-- The row of octets at V reads as the text S. -/
def Buf (B : Nat) (w : World) (V : Value) (S : ByteArray) : Prop := w.ownsRow B 5 1 V S.size (Lib.byteCells S.data.toList)
/-- Below B nothing has turned, and above it nothing but rows of octets. -/
def FrO (B : Nat) (w w' : World) : Prop := Below B w w' ∧ Lib.OthersKept 5 none w w'
theorem FrO.refl (B : Nat) (w : World) : FrO B w w := ⟨Below.refl _ _, Lib.OthersKept.refl _ _ _⟩
theorem FrO.trans {B : Nat} {a b c : World} (h : FrO B a b) (k : FrO B b c) : FrO B a c := ⟨h.1.trans k.1, h.2.trans k.2⟩
theorem FrO.drewN {B : Nat} {a b : World} (h : FrO B a b) (q : Nat) : FrO B a (b.drewN q) := ⟨below_drewN h.1 q, h.2⟩
theorem FrO.drew {B : Nat} {a b : World} (h : FrO B a b) : FrO B a b.drew := ⟨h.1.drew, h.2⟩
theorem FrO.alloc {B : Nat} {a b : World} (h : FrO B a b) (hB : B ≤ a.heap.size) (o : Obj) : FrO B a (b.alloc o) := ⟨h.1.alloc (Nat.le_trans hB h.1.size) o, h.2.alloc o⟩
theorem FrO.mono {B B' : Nat} {a b : World} (h : FrO B a b) (hB : B' ≤ B) : FrO B' a b := ⟨h.1.mono hB, h.2⟩
/-- A block that is no row of octets stays. -/
theorem FrO.keep {B : Nat} {a b : World} (h : FrO B a b) {k : Nat} {cs : Array Value} {t : TypeId} {fr : Nat × Nat} (hk : a.heap[k]? = some (.cells cs t fr)) (ht : t ≠ 5) : b.heap[k]? = some (.cells cs t fr) :=
  h.2 k _ hk (by simp) fun c fz e => by injection e with _ e _; exact ht e

/-- append in a region that draws, by what its run is known to give (of a text behind octets). -/
theorem step_append2 {P : Program} {ops : Array Oper} {o : Oper} {a : Act} {w : World} {K : Act → World → Prop} {Q : Exit → Act → World → Prop} {E : Prop} (hgd : o.guard = none) (s x : Operand) (t u : TypeId)
    (ho : o.op = .call { callee := .builtin .append, args := #[s, x], argTypes := #[t, u] }) (hty : o.type = t)
    (v y v' : Value) (w' : World) (hs : a.eval s = v) (hx : a.eval x = y) (hrun : (Builtin.append_ #[t, u] t #[v, y]).run P w = .ok v' w')
    (hK : K (a.put o.dst v') w') : if Region.wanted o (yielded ops a.tmps) = true then Oper.wp P o a w K Q else E := by
  have hw : Region.wanted o (yielded ops a.tmps) = true := by simp [Region.wanted, hgd]
  rw [if_pos hw]
  subst hty
  unfold Oper.wp
  simp [execOp, ho, resolve, invoke, builtin, hs, hx, hrun, Result.andThen]
  exact hK
/-- append in a region that draws, by what its run is known to give. -/
theorem step_append_run {P : Program} {ops : Array Oper} {o : Oper} {a : Act} {w : World} {K : Act → World → Prop} {Q : Exit → Act → World → Prop} {E : Prop} (hgd : o.guard = none) (s x : Operand) (t : TypeId)
    (ho : o.op = .call { callee := .builtin .append, args := #[s, x], argTypes := #[t, t] }) (hty : o.type = t)
    (v y v' : Value) (w' : World) (hs : a.eval s = v) (hx : a.eval x = y) (hrun : (Builtin.append_ #[t, t] t #[v, y]).run P w = .ok v' w')
    (hK : K (a.put o.dst v') w') : if Region.wanted o (yielded ops a.tmps) = true then Oper.wp P o a w K Q else E := by
  have hw : Region.wanted o (yielded ops a.tmps) = true := by simp [Region.wanted, hgd]
  rw [if_pos hw]
  subst hty
  unfold Oper.wp
  simp [execOp, ho, resolve, invoke, builtin, hs, hx, hrun, Result.andThen]
  exact hK

/-- append in a list of operations. -/
theorem wpList_append2 {P : Program} {w : World} {ops : Array Oper} {rest : List Oper} {o : Oper} {a : Act} {Q : Exit → Act → World → Prop} (hgd : o.guard = none) (s x : Operand) (t u : TypeId)
    (ho : o.op = .call { callee := .builtin .append, args := #[s, x], argTypes := #[t, u] }) (hty : o.type = t)
    (v y v' : Value) (w' : World) (hs : a.eval s = v) (hx : a.eval x = y) (hrun : (Builtin.append_ #[t, u] t #[v, y]).run P w = .ok v' w')
    (h : wpList P ops Q rest (a.put o.dst v') w') : wpList P ops Q (o :: rest) a w := by
  subst hty
  refine wpList_plain hgd fun K hK => ?_
  unfold Oper.wp
  simp [execOp, ho, resolve, invoke, builtin, hs, hx, hrun, Result.andThen]
  exact hK _ _ h

theorem info_oct : (Try.prog.info? 5).map (fun i => (i.zero, i.size, i.bytes)) = some (some (.int .u8 0), 1, 1) := by kernel_rfl
section
variable {w w' : World} {B : Nat} {V : Value} {S : ByteArray}
theorem Buf.nil_ (B : Nat) (w : World) : Buf B w (.slice none 0 0) ByteArray.empty := World.ownsRow_nil _ _ _ _
theorem Buf.slice (h : Buf B w V S) : ∃ A c, V = .slice A S.size c ∧ RowI .u8 w A S.size (nums S) ∧ S.size ≤ c ∧ c ≤ maxLen := by
  have e : Lib.byteCells S.data.toList = (nums S).map (.int .u8) := by simp [Lib.byteCells, nums]
  unfold Buf at h
  rw [e] at h
  have hl := nums_length S
  rw [← hl] at h ⊢
  exact row_of_own h
theorem Buf.alloc (h : Buf B w V S) (o : Obj) : Buf B (w.alloc o) V S := own_alloc h o
theorem Buf.drewN (h : Buf B w V S) (q : Nat) : Buf B (w.drewN q) V S := h
theorem Buf.drew (h : Buf B w V S) : Buf B w.drew V S := h
theorem Buf.grown_frame (h : Buf B w V S) (hB : B ≤ w.heap.size) {a : World} (hf : FrO B a w) (hg : w.grownBy w' V.ownBlock) : FrO B a w' := by
  refine ⟨hf.1.grown hg hB fun k hk => (row_lt h hk).1, hf.2.grown hg fun g hk => ?_⟩
  rcases h.2 with ⟨e, _⟩ | ⟨b, cap, cur, e, _, hr, _⟩
  · subst e; cases hk
  · subst e
    injection hk with hk
    subst hk
    exact ⟨cur, (0, 0), hr⟩
/-- A text is put behind. -/
theorem buf_str (h : Buf B w V S) (T : ByteArray) (hB : B ≤ w.heap.size) (hs : S.size + T.size ≤ 140000000) :
    ∃ V' w', (Builtin.append_ #[25, 9] 25 #[V, .string T]).run Try.prog w = .ok V' w' ∧ Buf B w' V' (S ++ T) ∧ FrO B w w' := by
  obtain ⟨i0, hi, hz0, hz1, hz2⟩ := info_parts info_oct
  obtain ⟨V', w', h1, h2, h3, _⟩ := Lib.run_append_own_string (P := Try.prog) w B 25 9 25 5 i0 Try.underlying25 Try.underlying9 hi hz0 hz1 hz2 V S.size _ h T (by unfold maxLen; omega) (by omega) hB
  refine ⟨V', w', h1, ?_, h.grown_frame hB (FrO.refl _ _) h3⟩
  unfold Buf
  rw [show (S ++ T).data.toList = S.data.toList ++ T.data.toList by simp, show Lib.byteCells (S.data.toList ++ T.data.toList) = Lib.byteCells S.data.toList ++ Lib.strCells T by simp [Lib.byteCells, Lib.strCells], ByteArray.size_append]
  exact h2
/-- An octet is put behind: it lies in a block of its own, just made. -/
theorem buf_byte (h : Buf B w V S) (c : UInt8) (k : Int) (hk : k = (c.toNat : Int)) (hB : B ≤ w.heap.size) (hs : S.size ≤ 140000000) :
    ∃ V' w', (Builtin.append_ #[25, 25] 25 #[V, .slice (some ⟨w.heap.size, 0, none⟩) 1 1]).run Try.prog (w.alloc (.cells #[.int .u8 k] 5)) = .ok V' w' ∧ Buf B w' V' (S ++ strB [c]) ∧ FrO B w w' := by
  subst hk
  obtain ⟨V', w', h1, h2, h3⟩ := push_run 25 5 (.int .u8 0) 1 Try.underlying25 info_oct rfl w B V S.size _ h (.int .u8 (c.toNat : Int)) rfl (by omega) (by unfold maxLen; omega) hB
  refine ⟨V', w', h1, ?_, (h.alloc (.cells #[.int .u8 (c.toNat : Int)] 5)).grown_frame (by simp; omega) ((FrO.refl _ _).alloc hB _) h3⟩
  unfold Buf
  rw [show (S ++ strB [c]).data.toList = S.data.toList ++ [c] by simp [strB], show Lib.byteCells (S.data.toList ++ [c]) = Lib.byteCells S.data.toList ++ [.int .u8 (c.toNat : Int)] by simp [Lib.byteCells], ByteArray.size_append]
  exact h2
end
end Go.Proofs.Ytbhbdhjkicmecaa
/- Parts one behind the other. -/
namespace Go.Proofs.Ytbhbdhjkicmecaa
open Go Go.RowKit
set_option linter.unusedVariables false
set_option maxRecDepth 20000

theorem rowI_to {k : IntKind} {w : World} {A : Option Addr} {n : Nat} {xs : List Int} (h : RowI k w A n xs) {m : Nat} (hm : m ≤ n) : RowI k w A m (xs.take m) := by
  refine ⟨by rw [List.length_take, h.1]; omega, fun h0 => ?_⟩
  obtain ⟨b, o, hA, hlt, hc⟩ := h.2 (by omega)
  refine ⟨b, o, hA, hlt, fun j hj => ?_⟩
  rw [hc j (by omega)]
  simp [List.getD, hj]
theorem u8_elemP : Try.prog.elem 25 = 5 := by kernel_rfl
theorem u8_sizeP (w : World) : (sizeOf 5).run Try.prog w = .ok 1 w := by kernel_rfl
theorem u8_sliceP : Try.prog.underlying 25 = some (.slice (Try.prog.elem 25)) := by rw [u8_elemP]; exact Try.underlying25
theorem upto_200 (A : Option Addr) (n c : Nat) (hh : 200 ≤ c) (w : World) :
    (Instr.slice 25 (.slice A n c) none (some (.int .i64 200)) none).run Try.prog w = .ok (.slice A 200 c) w := by
  have hr := run_slice_h (P := Try.prog) (w := w) (t := 25) (a := A) (len := n) (cap := c) (ht := u8_sliceP) (kh := .i64) (h := ((200 : Nat) : Int)) (h0 := by omega) (h2 := by omega)
  rw [show (200 : Int) = ((200 : Nat) : Int) from rfl, hr, u8_elemP, u8_sizeP]
  have ha : (if c = 0 then A else A.map fun x => x.add (0 * 1)) = A := by
    split
    · rfl
    · cases A <;> simp [Addr.add]
  simp [Result.andThen, sliced]
  intro hc
  rw [if_neg hc] at ha
  simpa using ha
theorem take_str (S : ByteArray) (n : Nat) : strOfNums ((nums S).take n) = S.extract 0 n := by
  rw [← strOfNums_nums (S.extract 0 n)]
  congr 1
  unfold nums
  rw [← List.map_take]
  congr 1
  rw [ByteArray.data_extract, Array.toList_extract]
  simp
theorem rowP_step {acc s : ByteArray} {t : List Pre} (h : ¬ 200 < (acc ++ s).size) : rowP acc ((s, true) :: t) = rowP (acc ++ s) t := by rw [rowP, if_neg h, if_pos rfl]
theorem rowP_cut {acc s : ByteArray} {b : Bool} {t : List Pre} (h : 200 < (acc ++ s).size) : rowP acc ((s, b) :: t) = ((acc ++ s).extract 0 200, false) := by rw [rowP, if_pos h]
theorem rowP_end {acc s : ByteArray} {t : List Pre} (h : ¬ 200 < (acc ++ s).size) : rowP acc ((s, false) :: t) = (acc ++ s, false) := by rw [rowP, if_neg h]; rfl
set_option maxHeartbeats 4000000 in
theorem row_kids (g : Nat) (n : Nat) (P : List Pre) (hP : P.length = n) (hsz : ∀ p ∈ P, p.1.size ≤ 200) (hn : n ≤ 100000) (w : World)
    (HC : ∀ (j : Nat) (p : Pre), P[j]? = some p → ∀ w', Below w.heap.size w w' → Calls Try.prog 30 #[.int .i64 (j : Int), .pointer (some ⟨g, 0, none⟩)] w' fun e w'' => e = .returned (.tuple #[.string p.1, .bool p.2]) ∧ Below w'.heap.size w' w'') :
    Calls Try.prog 29 #[.int .i64 (n : Int), .func (.func 30) #[] #[.pointer (some ⟨g, 0, none⟩)]] w fun e w' => e = .returned (.tuple #[.string (rowP ByteArray.empty P).1, .bool (rowP ByteArray.empty P).2]) ∧ Below w.heap.size w w' := by
  have HK := Lib.hid HC
  have HP := Lib.hid (And.intro hP hsz)
  obtain ⟨R, hR⟩ : ∃ R, R = rowP ByteArray.empty P := ⟨_, rfl⟩
  rw [← hR]
  have HR := Lib.hid hR
  have hni : (n : Int) ≤ 100000 := by omega
  clear HC hP hsz hR
  go_enter Try.func29, Try.ntmps29
  go_wp2_with fail
  go_loopw [6, 11] (fun v6 v11 wr => ∃ (k c : Nat) (A : Option Addr) (S : ByteArray), v6 = .slice A S.size c ∧ v11 = .int .i64 (k : Int) ∧ k ≤ n ∧ Hid (S.size ≤ 200 ∧ Buf w.heap.size wr (.slice A S.size c) S ∧ rowP S (P.drop k) = R ∧ Below w.heap.size w wr)) (fun _ v11 _ => n - (intOf v11).toNat)
  case atStart => exact ⟨0, 0, none, ByteArray.empty, rfl, rfl, Nat.zero_le _, Lib.hid ⟨by simp, Buf.nil_ _ _, by rw [List.drop_zero, HR.out], Below.refl _ _⟩⟩
  case round =>
    obtain ⟨k, c, A, S, rfl, rfl, hkn, H⟩ := hrel
    by_cases hlt : k < n
    · obtain ⟨⟨s, b⟩, hp⟩ : ∃ p, P[k]? = some p := ⟨_, List.getElem?_eq_getElem (by rw [HP.out.1]; exact hlt)⟩
      have hdr : P.drop k = (s, b) :: P.drop (k + 1) := by
        rw [List.drop_eq_getElem_cons (by rw [HP.out.1]; exact hlt)]
        congr 1
        exact Option.some.inj ((List.getElem?_eq_getElem _).symm.trans hp)
      have hs2 := HP.out.2 _ (List.mem_of_getElem? hp)
      have hrow := H.out.2.2.1
      rw [hdr] at hrow
      have HCk := Lib.hid (HK.out k (s, b) hp wr H.out.2.2.2)
      have hki : (k : Int) < (n : Int) := by omega
      have HX := Lib.hid (And.intro hrow (And.intro hs2 hlt))
      obtain ⟨Z, hZ⟩ : ∃ Z, Z = S ++ s := ⟨_, rfl⟩
      have hZs : Z.size = S.size + s.size := by rw [hZ, ByteArray.size_append]
      have HZ := Lib.hid (And.intro hZ hZs)
      have hZ4 : (Z.size : Int) ≤ 400 := by have := H.out.1; dsimp only at hs2; omega
      clear hdr hrow hp hs2 hlt hkn hZ hZs
      by_cases hbig : 200 < Z.size
      · have hb1 : (200 : Int) < (Z.size : Int) := by omega
        have e := HX.out.1
        rw [rowP_cut (by rw [← HZ.out.1]; exact hbig), ← HZ.out.1] at e
        have HE := Lib.hid e
        have HB := Lib.hid hbig
        clear e hbig
        go_wp2_with (first
          | (go_at_call 30; (with_reducible refine HCk.out.mono ?_); rintro e w1 ⟨rfl, hb1⟩; obtain ⟨V', w2, happ, hbuf, hfr⟩ := buf_str (own_kept H.out.2.1 hb1) s (Nat.le_trans H.out.2.2.2.size hb1.size) (by have := H.out.1; have := HX.out.2.1; dsimp only at this; omega); rw [← HZ.out.1] at hbuf; obtain ⟨A', c', rfl, hrw, hc1, hc2⟩ := hbuf.slice; have HAPP := Lib.hid happ; have u1 := upto_200 A' Z.size c' (by have := HB.out; omega); have s1 := strRow w2 A' 200 c' _ (rowI_to hrw (Nat.le_of_lt HB.out)); rw [take_str] at s1; have H2 := Lib.hid (H.out.2.2.2.trans ((hb1.mono H.out.2.2.2.size).trans hfr.1)); clear happ hbuf hfr hrw hc1 hc2 hb1)
          | (at_builtin; refine wpList_append2 rfl (.tmp 20) (.tmp 21) 25 9 rfl rfl _ _ _ _ rfl rfl HAPP.out ?_))
        go_ret2
        exact ⟨by rw [← HE.out]; rfl, H2.out⟩
      · have hb1 : ¬ (200 : Int) < (Z.size : Int) := by omega
        have HB := Lib.hid hbig
        clear hbig
        rcases b with _ | _
        · have e := HX.out.1
          rw [rowP_end (by rw [← HZ.out.1]; exact HB.out), ← HZ.out.1] at e
          have HE := Lib.hid e
          clear e
          go_wp2_with (first
            | (go_at_call 30; (with_reducible refine HCk.out.mono ?_); rintro e w1 ⟨rfl, hb1⟩; obtain ⟨V', w2, happ, hbuf, hfr⟩ := buf_str (own_kept H.out.2.1 hb1) s (Nat.le_trans H.out.2.2.2.size hb1.size) (by have := H.out.1; have := HX.out.2.1; dsimp only at this; omega); rw [← HZ.out.1] at hbuf; obtain ⟨A', c', rfl, hrw, hc1, hc2⟩ := hbuf.slice; have HAPP := Lib.hid happ; have s1 := strRow w2 A' Z.size c' _ hrw; rw [strOfNums_nums] at s1; have H2 := Lib.hid (H.out.2.2.2.trans ((hb1.mono H.out.2.2.2.size).trans hfr.1)); clear happ hbuf hfr hrw hc1 hc2 hb1)
            | (at_builtin; refine wpList_append2 rfl (.tmp 20) (.tmp 21) 25 9 rfl rfl _ _ _ _ rfl rfl HAPP.out ?_))
          go_ret2
          exact ⟨by rw [← HE.out]; rfl, H2.out⟩
        · have e := HX.out.1
          rw [rowP_step (by rw [← HZ.out.1]; exact HB.out), ← HZ.out.1] at e
          have HE := Lib.hid e
          clear e
          go_wp2_with (first
            | (go_at_call 30; (with_reducible refine HCk.out.mono ?_); rintro e w1 ⟨rfl, hb1⟩; obtain ⟨V', w2, happ, hbuf, hfr⟩ := buf_str (own_kept H.out.2.1 hb1) s (Nat.le_trans H.out.2.2.2.size hb1.size) (by have := H.out.1; have := HX.out.2.1; dsimp only at this; omega); rw [← HZ.out.1] at hbuf; obtain ⟨A', c', rfl, hrw, hc1, hc2⟩ := hbuf.slice; have HAPP := Lib.hid happ; have H2 := Lib.hid (And.intro hbuf (H.out.2.2.2.trans ((hb1.mono H.out.2.2.2.size).trans hfr.1))); clear happ hbuf hfr hrw hc1 hc2 hb1)
            | (at_builtin; refine wpList_append2 rfl (.tmp 20) (.tmp 21) 25 9 rfl rfl _ _ _ _ rfl rfl HAPP.out ?_))
          exact ⟨⟨k + 1, c', A', Z, rfl, rfl, HX.out.2.2, Lib.hid ⟨Nat.le_of_not_lt HB.out, H2.out.1, HE.out, H2.out.2⟩⟩, by have := HX.out.2.2; simp [intOf]; omega⟩
    · obtain rfl : k = n := by omega
      have e := H.out.2.2.1
      rw [List.drop_of_length_le (by rw [HP.out.1]; exact Nat.le_refl _), rowP] at e
      obtain ⟨A1, c1, e1, hrw, _, _⟩ := H.out.2.1.slice
      injection e1 with e1 _ e3
      subst e1
      subst e3
      have s1 := strRow wr A S.size c _ hrw
      rw [strOfNums_nums] at s1
      have HE := Lib.hid e
      clear e hrw
      go_wp2
      go_ret2
      exact ⟨by rw [← HE.out]; rfl, H.out.2.2.2⟩
set_option maxHeartbeats 4000000 in
theorem row_times (g h : Nat) (n : Nat) (P : List Pre) (hP : P.length = n) (hsz : ∀ p ∈ P, p.1.size ≤ 200) (hn : n ≤ 100000) (w : World)
    (HC : ∀ (j : Nat) (p : Pre), P[j]? = some p → ∀ w', Below w.heap.size w w' → Calls Try.prog 32 #[.int .i64 (j : Int), .pointer (some ⟨g, 0, none⟩), .pointer (some ⟨h, 0, none⟩)] w' fun e w'' => e = .returned (.tuple #[.string p.1, .bool p.2]) ∧ Below w'.heap.size w' w'') :
    Calls Try.prog 29 #[.int .i64 (n : Int), .func (.func 32) #[] #[.pointer (some ⟨g, 0, none⟩), .pointer (some ⟨h, 0, none⟩)]] w fun e w' => e = .returned (.tuple #[.string (rowP ByteArray.empty P).1, .bool (rowP ByteArray.empty P).2]) ∧ Below w.heap.size w w' := by
  have HK := Lib.hid HC
  have HP := Lib.hid (And.intro hP hsz)
  obtain ⟨R, hR⟩ : ∃ R, R = rowP ByteArray.empty P := ⟨_, rfl⟩
  rw [← hR]
  have HR := Lib.hid hR
  have hni : (n : Int) ≤ 100000 := by omega
  clear HC hP hsz hR
  go_enter Try.func29, Try.ntmps29
  go_wp2_with fail
  go_loopw [6, 11] (fun v6 v11 wr => ∃ (k c : Nat) (A : Option Addr) (S : ByteArray), v6 = .slice A S.size c ∧ v11 = .int .i64 (k : Int) ∧ k ≤ n ∧ Hid (S.size ≤ 200 ∧ Buf w.heap.size wr (.slice A S.size c) S ∧ rowP S (P.drop k) = R ∧ Below w.heap.size w wr)) (fun _ v11 _ => n - (intOf v11).toNat)
  case atStart => exact ⟨0, 0, none, ByteArray.empty, rfl, rfl, Nat.zero_le _, Lib.hid ⟨by simp, Buf.nil_ _ _, by rw [List.drop_zero, HR.out], Below.refl _ _⟩⟩
  case round =>
    obtain ⟨k, c, A, S, rfl, rfl, hkn, H⟩ := hrel
    by_cases hlt : k < n
    · obtain ⟨⟨s, b⟩, hp⟩ : ∃ p, P[k]? = some p := ⟨_, List.getElem?_eq_getElem (by rw [HP.out.1]; exact hlt)⟩
      have hdr : P.drop k = (s, b) :: P.drop (k + 1) := by
        rw [List.drop_eq_getElem_cons (by rw [HP.out.1]; exact hlt)]
        congr 1
        exact Option.some.inj ((List.getElem?_eq_getElem _).symm.trans hp)
      have hs2 := HP.out.2 _ (List.mem_of_getElem? hp)
      have hrow := H.out.2.2.1
      rw [hdr] at hrow
      have HCk := Lib.hid (HK.out k (s, b) hp wr H.out.2.2.2)
      have hki : (k : Int) < (n : Int) := by omega
      have HX := Lib.hid (And.intro hrow (And.intro hs2 hlt))
      obtain ⟨Z, hZ⟩ : ∃ Z, Z = S ++ s := ⟨_, rfl⟩
      have hZs : Z.size = S.size + s.size := by rw [hZ, ByteArray.size_append]
      have HZ := Lib.hid (And.intro hZ hZs)
      have hZ4 : (Z.size : Int) ≤ 400 := by have := H.out.1; dsimp only at hs2; omega
      clear hdr hrow hp hs2 hlt hkn hZ hZs
      by_cases hbig : 200 < Z.size
      · have hb1 : (200 : Int) < (Z.size : Int) := by omega
        have e := HX.out.1
        rw [rowP_cut (by rw [← HZ.out.1]; exact hbig), ← HZ.out.1] at e
        have HE := Lib.hid e
        have HB := Lib.hid hbig
        clear e hbig
        go_wp2_with (first
          | (go_at_call 32; (with_reducible refine HCk.out.mono ?_); rintro e w1 ⟨rfl, hb1⟩; obtain ⟨V', w2, happ, hbuf, hfr⟩ := buf_str (own_kept H.out.2.1 hb1) s (Nat.le_trans H.out.2.2.2.size hb1.size) (by have := H.out.1; have := HX.out.2.1; dsimp only at this; omega); rw [← HZ.out.1] at hbuf; obtain ⟨A', c', rfl, hrw, hc1, hc2⟩ := hbuf.slice; have HAPP := Lib.hid happ; have u1 := upto_200 A' Z.size c' (by have := HB.out; omega); have s1 := strRow w2 A' 200 c' _ (rowI_to hrw (Nat.le_of_lt HB.out)); rw [take_str] at s1; have H2 := Lib.hid (H.out.2.2.2.trans ((hb1.mono H.out.2.2.2.size).trans hfr.1)); clear happ hbuf hfr hrw hc1 hc2 hb1)
          | (at_builtin; refine wpList_append2 rfl (.tmp 20) (.tmp 21) 25 9 rfl rfl _ _ _ _ rfl rfl HAPP.out ?_))
        go_ret2
        exact ⟨by rw [← HE.out]; rfl, H2.out⟩
      · have hb1 : ¬ (200 : Int) < (Z.size : Int) := by omega
        have HB := Lib.hid hbig
        clear hbig
        rcases b with _ | _
        · have e := HX.out.1
          rw [rowP_end (by rw [← HZ.out.1]; exact HB.out), ← HZ.out.1] at e
          have HE := Lib.hid e
          clear e
          go_wp2_with (first
            | (go_at_call 32; (with_reducible refine HCk.out.mono ?_); rintro e w1 ⟨rfl, hb1⟩; obtain ⟨V', w2, happ, hbuf, hfr⟩ := buf_str (own_kept H.out.2.1 hb1) s (Nat.le_trans H.out.2.2.2.size hb1.size) (by have := H.out.1; have := HX.out.2.1; dsimp only at this; omega); rw [← HZ.out.1] at hbuf; obtain ⟨A', c', rfl, hrw, hc1, hc2⟩ := hbuf.slice; have HAPP := Lib.hid happ; have s1 := strRow w2 A' Z.size c' _ hrw; rw [strOfNums_nums] at s1; have H2 := Lib.hid (H.out.2.2.2.trans ((hb1.mono H.out.2.2.2.size).trans hfr.1)); clear happ hbuf hfr hrw hc1 hc2 hb1)
            | (at_builtin; refine wpList_append2 rfl (.tmp 20) (.tmp 21) 25 9 rfl rfl _ _ _ _ rfl rfl HAPP.out ?_))
          go_ret2
          exact ⟨by rw [← HE.out]; rfl, H2.out⟩
        · have e := HX.out.1
          rw [rowP_step (by rw [← HZ.out.1]; exact HB.out), ← HZ.out.1] at e
          have HE := Lib.hid e
          clear e
          go_wp2_with (first
            | (go_at_call 32; (with_reducible refine HCk.out.mono ?_); rintro e w1 ⟨rfl, hb1⟩; obtain ⟨V', w2, happ, hbuf, hfr⟩ := buf_str (own_kept H.out.2.1 hb1) s (Nat.le_trans H.out.2.2.2.size hb1.size) (by have := H.out.1; have := HX.out.2.1; dsimp only at this; omega); rw [← HZ.out.1] at hbuf; obtain ⟨A', c', rfl, hrw, hc1, hc2⟩ := hbuf.slice; have HAPP := Lib.hid happ; have H2 := Lib.hid (And.intro hbuf (H.out.2.2.2.trans ((hb1.mono H.out.2.2.2.size).trans hfr.1))); clear happ hbuf hfr hrw hc1 hc2 hb1)
            | (at_builtin; refine wpList_append2 rfl (.tmp 20) (.tmp 21) 25 9 rfl rfl _ _ _ _ rfl rfl HAPP.out ?_))
          exact ⟨⟨k + 1, c', A', Z, rfl, rfl, HX.out.2.2, Lib.hid ⟨Nat.le_of_not_lt HB.out, H2.out.1, HE.out, H2.out.2⟩⟩, by have := HX.out.2.2; simp [intOf]; omega⟩
    · obtain rfl : k = n := by omega
      have e := H.out.2.2.1
      rw [List.drop_of_length_le (by rw [HP.out.1]; exact Nat.le_refl _), rowP] at e
      obtain ⟨A1, c1, e1, hrw, _, _⟩ := H.out.2.1.slice
      injection e1 with e1 _ e3
      subst e1
      subst e3
      have s1 := strRow wr A S.size c _ hrw
      rw [strOfNums_nums] at s1
      have HE := Lib.hid e
      clear e hrw
      go_wp2
      go_ret2
      exact ⟨by rw [← HE.out]; rfl, H.out.2.2.2⟩
end Go.Proofs.Ytbhbdhjkicmecaa
/- Trees one behind the other. -/
namespace Go.Proofs.Ytbhbdhjkicmecaa
open Go Go.RowKit
set_option linter.unusedVariables false
set_option maxRecDepth 20000

/-- What Prefix is to answer for that value. -/
def PreC (w0 : World) (v : Value) (p : Pre) : Prop :=
  ∀ w, Below w0.heap.size w0 w → Calls Try.prog 8 #[v] w fun e w' => e = .returned (.tuple #[.string p.1, .bool p.2]) ∧ Below w.heap.size w w'
/-- Kids of which Prefix answers so. -/
def KidsC (F : Nat → Prop) (w0 : World) (D : Option Addr) (nk : Nat) (K : Wood) : Prop :=
  KidsAt F w0 D nk K ∧ ∀ j, j < nk → ∀ v, NodeIn F w0 v (K.nth j) → PreC w0 v ((prefs K)[j]?.getD (ByteArray.empty, false))
section
variable {F : Nat → Prop} {w0 : World} {D : Option Addr} {nk ck : Nat} {K : Wood}
set_option maxHeartbeats 4000000 in
theorem tog1_any (h : KidsC F w0 D nk K) (hnk : nk ≤ 100000) (g : Nat) (j : Nat) (hj : j < nk) (w : World) (hb : Below w0.heap.size w0 w) (hg : w.cell? ⟨g, 0, none⟩ = some (.slice D nk ck)) (p : Pre) (hp : (prefs K)[j]? = some p) :
    Calls Try.prog 30 #[.int .i64 (j : Int), .pointer (some ⟨g, 0, none⟩)] w fun e w' => e = .returned (.tuple #[.string p.1, .bool p.2]) ∧ Below w.heap.size w w' := by
  obtain ⟨b, o, op, s, mn, mx, k', A', D', ns, cs, nk', ck', rfl, hbl, e, c0, c1, c2, c3, c4, hin⟩ := h.1.kid hj
  have hpr := h.2 j hj _ hin w hb
  rw [hp, Option.getD_some] at hpr
  have HP := Lib.hid hpr
  have up : ∀ i v, w0.cell? ⟨b, i, none⟩ = some v → w.cell? ⟨b, i, none⟩ = some v := fun i v hv => (hb.cell (p := ⟨b, i, none⟩) hbl).trans hv
  have d0 := up _ _ c0
  have d1 := up _ _ c1
  have d2 := up _ _ c2
  have d3 := up _ _ c3
  have d4 := up _ _ c4
  have hji : (j : Int) < (nk : Int) := by omega
  have hj0 : (0 : Int) ≤ (j : Int) := by omega
  clear up c0 c1 c2 c3 c4 hin e hpr h hp hb hj
  go_enter Try.func30, Try.ntmps30
  go_wp2_with (go_at_call 8; (with_reducible refine HP.out.mono ?_); rintro e w1 ⟨rfl, hb1⟩; have HB := Lib.hid hb1; clear hb1)
  go_ret2
  exact ⟨rfl, HB.out⟩
set_option maxHeartbeats 4000000 in
theorem together_any (h : KidsC F w0 D nk K) (hnk : nk ≤ 100000) (hsz : ∀ p ∈ prefs K, p.1.size ≤ 200) (w : World) (hb : Below w0.heap.size w0 w) :
    Calls Try.prog 14 #[.slice D nk ck] w fun e w' => e = .returned (.tuple #[.string (rowP ByteArray.empty (prefs K)).1, .bool (rowP ByteArray.empty (prefs K)).2]) ∧ Below w.heap.size w w' := by
  have hb1 : Below w.heap.size w (w.alloc (.cells #[.slice D nk ck] 29)) := (Below.refl _ _).alloc (Nat.le_refl _) _
  have hR := row_kids w.heap.size nk (prefs K) (by rw [prefs_len, h.1.1]) hsz hnk (w.alloc (.cells #[.slice D nk ck] 29)) (fun j p hp w' hw' => by
    have hj : j < nk := by have := (List.getElem?_eq_some_iff.1 hp).1; rwa [prefs_len, h.1.1] at this
    exact tog1_any h hnk w.heap.size j hj w' ((hb.trans (hb1.mono hb.size)).trans (hw'.mono (Nat.le_trans hb.size (by simp)))) ((hw'.cell (p := ⟨w.heap.size, 0, none⟩) (by simp)).trans (cell_of_row _ w.heap.size 0 _ _ (0, 0) (heap_alloc_new w _))) p hp)
  have HR := Lib.hid hR
  have HB := Lib.hid hb1
  clear hR hb1 h hsz hb
  go_enter Try.func14, Try.ntmps14
  go_wp2_with (go_at_call 29; (with_reducible refine HR.out.mono ?_); rintro e w1 ⟨rfl, hb1⟩; have HB1 := Lib.hid hb1; clear hb1)
  go_ret2
  exact ⟨rfl, HB.out.trans (HB1.out.mono (by simp))⟩
end
end Go.Proofs.Ytbhbdhjkicmecaa
/- How much two texts have alike. -/
namespace Go.Proofs.Ytbhbdhjkicmecaa
open Go Go.RowKit
set_option linter.unusedVariables false
set_option maxRecDepth 20000

set_option maxHeartbeats 4000000 in
theorem alike_any (s t : ByteArray) (w : World) (hs : s.size ≤ 100000) (ht : t.size ≤ 100000) :
    Calls Try.prog 31 #[.string s, .string t] w fun e w' => e = .returned (.int .i64 (likeB s t : Nat)) ∧ Below w.heap.size w w' := by
  obtain ⟨m, hm⟩ : ∃ m : Nat, m = min s.size t.size := ⟨_, rfl⟩
  have hmin : min (s.size : Int) (t.size : Int) = (m : Int) := by omega
  have HM := Lib.hid hm
  have hm1 : (m : Int) ≤ 100000 := by omega
  obtain ⟨R, hR⟩ : ∃ R, R = likeB s t := ⟨_, rfl⟩
  rw [← hR]
  have HR := Lib.hid hR
  clear hm hR
  go_enter Try.func31, Try.ntmps31
  go_wp2_with fail
  go_loopw [5] (fun v5 wr => ∃ k : Nat, v5 = .int .i64 (k : Int) ∧ k ≤ m ∧ Hid ((∀ i, i < k → (nums s)[i]? = (nums t)[i]?) ∧ Below w.heap.size w wr)) (fun v5 _ => m - (intOf v5).toNat)
  case atStart => exact ⟨0, rfl, Nat.zero_le _, Lib.hid ⟨fun i h => absurd h (by omega), Below.refl _ _⟩⟩
  case round =>
    obtain ⟨k, rfl, hkm, H⟩ := hrel
    by_cases hlt : k < m
    · obtain ⟨x, hx, _, _, hix⟩ := nums_some (L := s) (k := k) (by have := HM.out; omega)
      obtain ⟨y, hy, _, _, hiy⟩ := nums_some (L := t) (k := k) (by have := HM.out; omega)
      have hd : decide (k < m) = true := decide_eq_true hlt
      have hki : (k : Int) < (m : Int) := by omega
      have hk0 : (0 : Int) ≤ (k : Int) := by omega
      by_cases hxy : x = y
      · subst hxy
        have HX := Lib.hid (And.intro hx (And.intro hy hlt))
        clear hx hy hlt hkm
        go_wp2_with fail
        go_quiet (fail)
        go_wp2
        refine ⟨⟨k + 1, rfl, HX.out.2.2, Lib.hid ⟨fun i hi => ?_, below_drewN H.out.2 _⟩⟩, by have := HX.out.2.2; simp [intOf]; omega⟩
        rcases Nat.lt_or_ge i k with h1 | h1
        · exact H.out.1 i h1
        · obtain rfl : i = k := by omega
          rw [HX.out.1, HX.out.2.1]
      · have hb1 : (x == y) = false := by simp [hxy]
        have HX := Lib.hid (And.intro hx (And.intro hy hlt))
        clear hx hy hlt hkm
        go_wp2_with fail
        go_quiet (fail)
        go_wp2
        go_ret
        refine ⟨?_, below_drewN H.out.2 _⟩
        have e : R = k := by
          rw [HR.out]
          refine likeL_is _ _ k (by rw [nums_length]; have := HM.out; have := HX.out.2.2; omega) (by rw [nums_length]; have := HM.out; have := HX.out.2.2; omega) H.out.1 (.inr (.inr ?_))
          rw [HX.out.1, HX.out.2.1]
          intro h; injection h with h; exact hxy h
        rw [e]; rfl
    · obtain rfl : k = m := by omega
      have hd : decide (k < k) = false := by simp
      go_wp2_with fail
      go_quiet (fail)
      go_wp2
      go_ret
      refine ⟨?_, below_drewN H.out.2 _⟩
      have e : R = k := by
        rw [HR.out]
        refine likeL_is _ _ k (by rw [nums_length]; have := HM.out; omega) (by rw [nums_length]; have := HM.out; omega) H.out.1 ?_
        rw [nums_length, nums_length]
        have := HM.out
        omega
      rw [e]; rfl
end Go.Proofs.Ytbhbdhjkicmecaa
/- Trees side by side. -/
namespace Go.Proofs.Ytbhbdhjkicmecaa
open Go Go.RowKit
set_option linter.unusedVariables false
set_option maxRecDepth 20000

theorem cut_to (x : ByteArray) (n : Nat) (hn : n ≤ x.size) (w : World) : (Instr.slice 9 (.string x) none (some (.int .i64 (n : Int))) none).run Try.prog w = .ok (.string (x.extract 0 n)) w := by
  have := run_slice_string_h (P := Try.prog) w 9 x Try.underlying9 .i64 (n : Int) (by omega) (by omega)
  rwa [Int.toNat_natCast] at this
section
variable {F : Nat → Prop} {w0 : World} {D : Option Addr} {nk ck : Nat} {K : Wood}
set_option maxHeartbeats 8000000 in
theorem alts_any (h : KidsC F w0 D nk K) (hnk : nk ≤ 100000) (hsz : ∀ p ∈ prefs K, p.1.size ≤ 200) (w : World) (hb : Below w0.heap.size w0 w) :
    Calls Try.prog 15 #[.slice D nk ck] w fun e w' => e = .returned (.tuple #[.string (altP (prefs K)).1, .bool (altP (prefs K)).2]) ∧ Below w.heap.size w w' := by
  have HK := Lib.hid h
  obtain ⟨P, hP⟩ : ∃ P, P = prefs K := ⟨_, rfl⟩
  have HP := Lib.hid (And.intro hP (And.intro (show P.length = nk by rw [hP, prefs_len, h.1.1]) (show ∀ p ∈ P, p.1.size ≤ 200 by rw [hP]; exact hsz)))
  obtain ⟨R, hR⟩ : ∃ R, R = altP P := ⟨_, rfl⟩
  rw [← hP, ← hR]
  have HR := Lib.hid hR
  have HB := Lib.hid hb
  have hnki : (nk : Int) ≤ 100000 := by omega
  clear h hsz hb hP hR
  go_enter Try.func15, Try.ntmps15
  go_wp2_with fail
  go_loopw [4, 5, 13] (fun v4 v5 v13 wr => ∃ (k : Nat) (x : ByteArray) (b : Bool), v4 = .string x ∧ v5 = .bool b ∧ v13 = .int .i64 (k : Int) ∧ k ≤ nk ∧ Hid (x.size ≤ 200 ∧ (k = 0 → x = ByteArray.empty ∧ b = true) ∧ (0 < k → altG (x, b) (P.drop k) = R) ∧ Below w.heap.size w wr)) (fun _ _ v13 _ => nk - (intOf v13).toNat)
  case atStart => exact ⟨0, ByteArray.empty, true, rfl, rfl, rfl, Nat.zero_le _, Lib.hid ⟨by simp, fun _ => ⟨rfl, rfl⟩, fun h => absurd h (by omega), Below.refl _ _⟩⟩
  case round =>
    obtain ⟨k, x, b, rfl, rfl, rfl, hkn, H⟩ := hrel
    by_cases hlt : k < nk
    · obtain ⟨⟨s, just⟩, hp⟩ : ∃ p, P[k]? = some p := ⟨_, List.getElem?_eq_getElem (by rw [HP.out.2.1]; exact hlt)⟩
      have hdr : P.drop k = (s, just) :: P.drop (k + 1) := by
        rw [List.drop_eq_getElem_cons (by rw [HP.out.2.1]; exact hlt)]
        congr 1
        exact Option.some.inj ((List.getElem?_eq_getElem _).symm.trans hp)
      have hs2 : s.size ≤ 200 := HP.out.2.2 _ (List.mem_of_getElem? hp)
      have hbr : Below w0.heap.size w0 wr := HB.out.trans (H.out.2.2.2.mono HB.out.size)
      obtain ⟨bk, o, op, st, mn, mx, k', A', D', ns, cs, nk', ck', rfl, hbl, e, c0, c1, c2, c3, c4, hin⟩ := HK.out.1.kid hlt
      have hpr := HK.out.2 k hlt _ hin (wr.alloc (.cells #[.int .i64 op, .slice A' ns cs, .int .i64 mn, .int .i64 mx, .slice D' nk' ck'] 31)) (hbr.alloc hbr.size _)
      rw [← HP.out.1, hp, Option.getD_some] at hpr
      have HPr := Lib.hid hpr
      have up : ∀ i v, w0.cell? ⟨bk, i, none⟩ = some v → wr.cell? ⟨bk, i, none⟩ = some v := fun i v hv => (hbr.cell (p := ⟨bk, i, none⟩) hbl).trans hv
      have d0 := up _ _ c0
      have d1 := up _ _ c1
      have d2 := up _ _ c2
      have d3 := up _ _ c3
      have d4 := up _ _ c4
      have hki : (k : Int) < (nk : Int) := by omega
      have hk0 : (0 : Int) ≤ (k : Int) := by omega
      -- the text that is held against it, its whole
      obtain ⟨y, hy⟩ : ∃ y : ByteArray, y = if k = 0 then s else x := ⟨_, rfl⟩
      have hstep : altG (y, b) ((s, just) :: P.drop (k + 1)) = R := by
        rw [← hdr]
        rcases Nat.eq_zero_or_pos k with h0 | h0
        · subst h0
          obtain ⟨_, rfl⟩ := H.out.2.1 rfl
          rw [if_pos rfl] at hy
          subst hy
          rw [HR.out, List.drop_zero]
          rw [List.drop_zero] at hdr
          rw [hdr]
          rfl
        · rw [if_neg (by omega)] at hy
          subst hy
          exact H.out.2.2.1 h0
      rw [altG] at hstep
      obtain ⟨n, hn⟩ : ∃ n, n = likeB y s := ⟨_, rfl⟩
      have hy2 : y.size ≤ 200 := by rw [hy]; by_cases h0 : k = 0 <;> simp [h0, hs2, H.out.1]
      have hle := likeB_le y s
      have hA := fun W => alike_any y s W (by omega) (by omega)
      dsimp only at hstep
      rw [← hn] at hstep hle hA
      obtain ⟨q1, hq1⟩ : ∃ q, q = (n == y.size) := ⟨_, rfl⟩
      obtain ⟨q2, hq2⟩ : ∃ q, q = (n == s.size) := ⟨_, rfl⟩
      have hc1 : ((n : Int) == (y.size : Int)) = q1 := by rw [hq1, Bool.eq_iff_iff]; simp; omega
      have hc2 : ((n : Int) == (s.size : Int)) = q2 := by rw [hq2, Bool.eq_iff_iff]; simp; omega
      rw [← hq1, ← hq2] at hstep
      have hcut := cut_to y n hle.1
      obtain ⟨z, hz⟩ : ∃ z, z = y.extract 0 n := ⟨_, rfl⟩
      rw [← hz] at hstep hcut
      have hz2 : z.size ≤ 200 := by rw [hz]; simp only [ByteArray.size_extract]; omega
      have HA := Lib.hid hA
      have HX := Lib.hid (And.intro hstep (And.intro hz2 hlt))
      have hni : (n : Int) ≤ 200 := by omega
      have hcs : (b = false) ∨ (b = true ∧ just = false) ∨ (b = true ∧ just = true ∧ q1 = false) ∨ (b = true ∧ just = true ∧ q1 = true ∧ q2 = false) ∨ (b = true ∧ just = true ∧ q1 = true ∧ q2 = true) := by
        cases b <;> cases just <;> cases q1 <;> cases q2 <;> simp
      clear hdr hp hs2 e c0 c1 c2 c3 c4 hin up hpr hstep hn hle hA hq1 hq2 hz hz2 hkn hlt
      rcases Nat.eq_zero_or_pos k with h0 | h0
      · have hkz : ((k : Int) == 0) = true := by simp; omega
        rw [if_pos h0] at hy
        subst hy
        obtain ⟨_, rfl⟩ := H.out.2.1 h0
        have H0 := Lib.hid h0
        have hqq := hc1.symm.trans hc2
        subst hqq
        clear h0 hc2 hcs
        rcases (show just = false ∨ (just = true ∧ q1 = false) ∨ (just = true ∧ q1 = true) by cases just <;> cases q1 <;> simp) with rfl | ⟨rfl, rfl⟩ | ⟨rfl, rfl⟩
        all_goals
          go_wp2_with (first
            | (go_at_call 8; (with_reducible refine HPr.out.mono ?_); rintro e w1 ⟨rfl, hb1⟩; have H1 := Lib.hid hb1; clear hb1)
            | (go_at_call 31; (with_reducible refine (HA.out _).mono ?_); rintro e w2 ⟨rfl, hb2⟩; have H2 := Lib.hid hb2; clear hb2))
          refine ⟨⟨k + 1, z, _, rfl, rfl, rfl, HX.out.2.2, Lib.hid ⟨HX.out.2.1, fun h => absurd h (by omega), fun _ => ?_, ?_⟩⟩, by have := HX.out.2.2; simp [intOf]; omega⟩
          · have := HX.out.1
            simpa using this
          · exact (H.out.2.2.2.alloc H.out.2.2.2.size _).trans ((H1.out.mono (Nat.le_trans H.out.2.2.2.size (by simp))).trans (H2.out.mono (Nat.le_trans (Nat.le_trans H.out.2.2.2.size (by simp)) H1.out.size)))
      · have hkz : ((k : Int) == 0) = false := by simp; omega
        rw [if_neg (by omega)] at hy
        subst hy
        clear h0
        rcases hcs with rfl | ⟨rfl, rfl⟩ | ⟨rfl, rfl, rfl⟩ | ⟨rfl, rfl, rfl, rfl⟩ | ⟨rfl, rfl, rfl, rfl⟩
        all_goals
          go_wp2_with (first
            | (go_at_call 8; (with_reducible refine HPr.out.mono ?_); rintro e w1 ⟨rfl, hb1⟩; have H1 := Lib.hid hb1; clear hb1)
            | (go_at_call 31; (with_reducible refine (HA.out _).mono ?_); rintro e w2 ⟨rfl, hb2⟩; have H2 := Lib.hid hb2; clear hb2))
          refine ⟨⟨k + 1, z, _, rfl, rfl, rfl, HX.out.2.2, Lib.hid ⟨HX.out.2.1, fun h => absurd h (by omega), fun _ => ?_, ?_⟩⟩, by have := HX.out.2.2; simp [intOf]; omega⟩
          · have := HX.out.1
            simpa using this
          · exact (H.out.2.2.2.alloc H.out.2.2.2.size _).trans ((H1.out.mono (Nat.le_trans H.out.2.2.2.size (by simp))).trans (H2.out.mono (Nat.le_trans (Nat.le_trans H.out.2.2.2.size (by simp)) H1.out.size)))
    · obtain rfl : k = nk := by omega
      have hRe : R = (x, b) := by
        rcases Nat.eq_zero_or_pos k with h0 | h0
        · obtain ⟨rfl, rfl⟩ := H.out.2.1 h0
          have := HP.out.2.1
          have hn : P = [] := List.eq_nil_of_length_eq_zero (by omega)
          rw [HR.out, hn]
          rfl
        · have := H.out.2.2.1 h0
          rw [List.drop_of_length_le (by rw [HP.out.2.1]; exact Nat.le_refl _)] at this
          exact this.symm
      have HRe := Lib.hid hRe
      clear hRe
      go_wp2
      go_ret2
      exact ⟨by rw [HRe.out]; rfl, H.out.2.2.2⟩
end
end Go.Proofs.Ytbhbdhjkicmecaa
