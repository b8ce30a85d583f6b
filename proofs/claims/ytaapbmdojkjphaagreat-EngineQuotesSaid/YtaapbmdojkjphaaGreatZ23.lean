/- Texts. -/
import Derived.Test.YtaapbmdojkjphaaGreatZ01
import Derived.Test.YtaapbmdojkjphaaGreatZ02
import Derived.Test.YtaapbmdojkjphaaGreatZ03
import Derived.Test.YtaapbmdojkjphaaGreatZ10
import Derived.Test.YtaapbmdojkjphaaGreatZ11
import Derived.Test.YtaapbmdojkjphaaGreatZ22
import Derived.Lib.SliceRun
import Derived.Lib.OthersKept
import Derived.Lib.AppendStr
import Derived.Deep.RegionHeldLaw
import Derived.Deep.RegionLaw
import Derived.BigQuiet
namespace Go.Proofs.YtaapbmdojkjphaaGreat
open Go Go.RowKit
theorem bytes_some (s : ByteArray) (w : World) (hs : s.size ≤ maxLen) : ∃ A c w', (convert 9 41 (.string s)).run Tryz.prog w = .ok (.slice (some A) s.size c) w' ∧ RowI .u8 w' (some A) s.size (nums s) ∧ s.size ≤ c ∧ c ≤ maxLen ∧ Below w.heap.size w w' := by
  refine ⟨_, _, _, run_bytes_of_string w _ _ _ s Tryz.underlying9 Tryz.underlying41 Tryz.underlying5, ⟨nums_length s, fun h0 => ⟨_, _, rfl, ?_, fun j hj => ?_⟩⟩, ?_, ?_, ?_⟩
  · show w.heap.size < (w.heap.push _).size
    rw [Array.size_push]; omega
  · rw [Nat.zero_add]
    refine (World.cell?_alloc_mark w.drew _ _ _ j).trans ?_
    unfold bytesRow
    rw [Array.getElem?_append_left (by rw [Array.size_map]; exact hj), Array.getElem?_map]
    have hj' : j < s.data.size := hj
    have hn : j < (nums s).length := by rw [nums_length]; exact hj
    rw [Array.getElem?_eq_getElem hj']
    have e := nums_get s j hj hn
    rw [List.getD, List.getElem?_eq_getElem hn, Option.getD_some, e]
    rfl
  · exact grownCap_ge w s.size 0 _
  · exact grownCap_le_maxLen w s.size 0 _ hs
  · exact ((Below.refl _ _).drew).alloc (Nat.le_refl _) _
end Go.Proofs.YtaapbmdojkjphaaGreat
namespace Go.Proofs.YtaapbmdojkjphaaGreat
open Go Go.RowKit
set_option linter.unusedVariables false
set_option maxRecDepth 20000
theorem u8_elem9 : Tryz.prog.elem 41 = 5 := by kernel_rfl
theorem u8_size9 (w : World) : (sizeOf 5).run Tryz.prog w = .ok 1 w := by kernel_rfl
theorem u8_slice9 : Tryz.prog.underlying 41 = some (.slice (Tryz.prog.elem 41)) := by rw [u8_elem9]; exact Tryz.underlying41
theorem cut_from (A : Option Addr) (n c l : Nat) (hl : l ≤ n) :
    ∃ A', (∀ w : World, (Instr.slice 41 (.slice A n c) (some (.int .i64 (l : Int))) none none).run Tryz.prog w = .ok (.slice A' (n - l) (c - l)) w) ∧
      (∀ (w : World) (xs : List Int), RowI .u8 w A n xs → n ≤ c → RowI .u8 w A' (n - l) (xs.drop l)) ∧ ∀ B, (∀ a, A = some a → a.block = B) → ∀ a, A' = some a → a.block = B := by
  refine ⟨if c = l then A else A.map (·.add (l * 1)), fun w => ?_, fun w xs h hnc => ?_, fun B hB a ha => ?_⟩
  · have hr := run_slice_l (P := Tryz.prog) (w := w) (t := 41) (a := A) (len := n) (cap := c) (ht := u8_slice9) (kl := .i64) (l := (l : Int)) (h0 := by omega) (h1 := by omega)
    rw [hr, u8_elem9, u8_size9]
    simp [Result.andThen, sliced]
  · refine ⟨by rw [List.length_drop, h.1], fun h0 => ?_⟩
    obtain ⟨b, o, hA, hlt, hc⟩ := h.2 (by omega)
    rw [if_neg (by omega), hA]
    refine ⟨b, o + l, by simp [Addr.add], hlt, fun j hj => ?_⟩
    rw [Nat.add_assoc, hc (l + j) (by omega)]
    simp [List.getD, List.getElem?_drop]
  · split at ha
    · exact hB a ha
    · rcases A with _ | x
      · cases ha
      · have h1 := hB x rfl
        simp at ha
        subst ha
        unfold Addr.add
        split <;> exact h1
set_option maxHeartbeats 4000000 in
theorem decode_any (s : ByteArray) (w : World) (hs : s.size ≤ 200) :
    Calls Tryz.prog 37 #[.string s] w (DecV s w) := by
  obtain ⟨A0, c0, w0, hcv, hrow, hc1, hc2, hb0⟩ := bytes_some s w (by unfold maxLen; omega)
  have HB := Lib.hid (And.intro hrow (And.intro hc1 (And.intro hc2 hb0)))
  have hby := Lib.hid (nums_byte s)
  clear hrow hc1 hc2 hb0
  go_enter Tryz.func37, Tryz.ntmps37
  go_wp2_with fail
  go_loopw [4, 5] (fun vp vb wr => ∃ (q pc n c : Nat) (P A : Option Addr) (xs lr : List Int), vp = .slice P q pc ∧ vb = .slice A n c ∧ q + n ≤ 200 ∧
    Hid (wr.ownsRow w.heap.size 3 1 (.slice P q pc) q (xs.map (.int .i64)) ∧ Below w.heap.size w wr ∧ RowI .u8 wr A n lr ∧ n ≤ c ∧ c ≤ maxLen ∧ (∀ x ∈ lr, 0 ≤ x ∧ x < 256) ∧ pointsL (nums s) = (pointsL lr).map (fun r => xs ++ r) ∧ (∀ a, A = some a → a.block = A0.block) ∧ (Value.slice P q pc).ownBlock ≠ some A0.block)) (fun _ vb _ => match vb with | .slice _ n _ => n | _ => 0)
  case atStart => exact ⟨0, 0, s.size, c0, none, some A0, [], nums s, rfl, rfl, by omega, Lib.hid ⟨ownI_nil _ _, HB.out.2.2.2, HB.out.1, HB.out.2.1, HB.out.2.2.1, hby.out, by cases pointsL (nums s) <;> rfl, fun a e => by injection e with e; rw [e], by intro e; cases e⟩⟩
  case round =>
    obtain ⟨q, pc, n, c, P, A, xs, lr, rfl, rfl, hqn, H⟩ := hrel
    rcases Nat.eq_zero_or_pos n with h0 | h0
    · subst h0
      go_wp2
      go_ret2
      have hl : lr = [] := List.eq_nil_of_length_eq_zero H.out.2.2.1.1
      refine ⟨H.out.2.1, .inr ⟨P, q, pc, xs, rfl, ?_, H.out.1⟩⟩
      have := H.out.2.2.2.2.2.2.1
      rw [hl, pointsL_nil] at this
      rw [this]
      simp
    · have hne : lr ≠ [] := fun e => by have := H.out.2.2.1.1; rw [e] at this; simp at this; omega
      have hgb := getI_bounds hne
      have hgp := pointsL_cons hne
      rw [H.out.2.2.1.1] at hgb
      have HG := Lib.hid (get_any A n c lr wr H.out.2.2.1 H.out.2.2.2.2.2.1 H.out.2.2.2.1 H.out.2.2.2.2.1 (by omega))
      obtain ⟨g1, hg1⟩ : ∃ g, g = (getI lr).1 := ⟨_, rfl⟩
      obtain ⟨g2, hg2⟩ : ∃ g, g = (getI lr).2 := ⟨_, rfl⟩
      rw [← hg2] at hgb
      rw [← hg1, ← hg2] at HG hgp
      obtain ⟨m, hm⟩ := Int.eq_ofNat_of_zero_le (show 0 ≤ g2 by omega)
      subst hm
      have HSz := Lib.hid fun w => size_any g1 w
      clear hg1 hg2
      by_cases hz : (m : Int) = szI g1
      · rw [if_pos hz] at hgp
        have hneq : ((m : Int) != szI g1) = false := by simpa using hz
        obtain ⟨A', hcut, hrc, hblk⟩ := cut_from A n c m (by omega)
        have HBK := Lib.hid hblk
        have HGP := Lib.hid hgp
        have HRC := Lib.hid hrc
        have hnm : m ≤ n := by omega
        have hm1 : 1 ≤ m := by omega
        have h00 : ((0 : Int) < (n : Int)) := by omega
        clear hz hgp hrc hgb hblk
        go_wp2_with (first
          | (go_at_call 27; (with_reducible refine HG.out.mono ?_); rintro e w1 ⟨rfl, k, rfl⟩; obtain ⟨P', pc', w3, ha, how, hb3, hkp⟩ := appI_at (W := w) (w := (wr.drewN k).alloc (.cells #[.int .i64 g1] 3)) (own_alloc (w := wr.drewN k) H.out.1 _) (RowI.new .i64 (wr.drewN k) [g1] 3) (fun e => by cases e) (by omega) (by simp) ((below_drewN H.out.2.1 k).alloc H.out.2.1.size _); have HA := Lib.hid ha; have HW := Lib.hid (And.intro how (And.intro hb3 hkp)); clear ha how hb3 hkp)
          | (go_at_call 28; (with_reducible refine (HSz.out _).mono ?_); rintro e w2 ⟨rfl, rfl⟩)
          | (at_builtin; refine wpList_append_run rfl _ _ 46 rfl rfl _ _ _ _ rfl rfl HA.out ?_))
        have hA0 : A0.block < wr.heap.size ∧ RowI .u8 w3 A n lr := by
          obtain ⟨b, o, hA, hlt, _⟩ := H.out.2.2.1.2 h0
          have hb : b = A0.block := H.out.2.2.2.2.2.2.2.1 _ hA
          have hk := HW.out.2.2 A0.block (by rw [← hb]; simp; omega) H.out.2.2.2.2.2.2.2.2
          refine ⟨by omega, rowI_keep H.out.2.2.1 fun b' o' hA' hlt' => ?_⟩
          have hb' : b' = A0.block := H.out.2.2.2.2.2.2.2.1 _ hA'
          rw [hb', hk.2]
          exact Below.heap_alloc (wr.drewN k) _ _ (by rw [← hb]; exact hlt)
        refine ⟨⟨q + 1, pc', n - m, c - m, P', A', xs ++ [g1], lr.drop m, rfl, rfl, by omega, Lib.hid ⟨HW.out.1, HW.out.2.1, HRC.out w3 lr hA0.2 H.out.2.2.2.1, by have := H.out.2.2.2.1; omega, Nat.le_trans (Nat.sub_le _ _) H.out.2.2.2.2.1, fun x hx => H.out.2.2.2.2.2.1 x (List.mem_of_mem_drop hx), ?_, HBK.out _ H.out.2.2.2.2.2.2.2.1, (HW.out.2.2 A0.block (by simp; omega) H.out.2.2.2.2.2.2.2.2).1⟩⟩, ?_⟩
        · rw [H.out.2.2.2.2.2.2.1, HGP.out]
          rw [show ((m : Int)).toNat = m by simp]
          cases pointsL (lr.drop m) with
          | none => rfl
          | some r => simp
        · show n - m < n
          omega
      · rw [if_neg hz] at hgp
        have hneq : ((m : Int) != szI g1) = true := by simpa using hz
        have HGP := Lib.hid hgp
        have h00 : ((0 : Int) < (n : Int)) := by omega
        clear hz hgp hgb
        go_wp2_with (first
          | (go_at_call 27; (with_reducible refine HG.out.mono ?_); rintro e w1 ⟨rfl, k, rfl⟩)
          | (go_at_call 28; (with_reducible refine (HSz.out _).mono ?_); rintro e w2 ⟨rfl, rfl⟩))
        go_ret2
        refine ⟨below_drewN H.out.2.1 k, .inl ⟨rfl, ?_⟩⟩
        rw [H.out.2.2.2.2.2.2.1, HGP.out]; rfl
end Go.Proofs.YtaapbmdojkjphaaGreat
namespace Go.Proofs.YtaapbmdojkjphaaGreat
open Go Go.RowKit
set_option linter.unusedVariables false
set_option maxRecDepth 20000
set_option maxHeartbeats 4000000 in
theorem isText_any (s : ByteArray) (w : World) (hs : s.size ≤ 200) :
    Calls Tryz.prog 12 #[.string s] w fun e w' => e = .returned (.bool (pointsL (nums s)).isSome) ∧ Below w.heap.size w w' := by
  obtain ⟨A0, c0, w0, hcv, hrow, hc1, hc2, hb0⟩ := bytes_some s w (by unfold maxLen; omega)
  have HB := Lib.hid (And.intro hrow (And.intro hc1 (And.intro hc2 hb0)))
  have hby := Lib.hid (nums_byte s)
  obtain ⟨R, hR⟩ : ∃ R, R = (pointsL (nums s)).isSome := ⟨_, rfl⟩
  rw [← hR]
  have HR := Lib.hid hR
  clear hrow hc1 hc2 hb0 hR
  go_enter Tryz.func12, Tryz.ntmps12
  go_wp2_with fail
  go_loopw [3] (fun vb wr => ∃ (n c : Nat) (A : Option Addr) (lr : List Int), vb = .slice A n c ∧ n ≤ 200 ∧
    Hid (Below w.heap.size w wr ∧ RowI .u8 wr A n lr ∧ n ≤ c ∧ c ≤ maxLen ∧ (∀ x ∈ lr, 0 ≤ x ∧ x < 256) ∧ R = (pointsL lr).isSome)) (fun vb _ => match vb with | .slice _ n _ => n | _ => 0)
  case atStart => exact ⟨s.size, c0, some A0, nums s, rfl, hs, Lib.hid ⟨HB.out.2.2.2, HB.out.1, HB.out.2.1, HB.out.2.2.1, hby.out, HR.out⟩⟩
  case round =>
    obtain ⟨n, c, A, lr, rfl, hqn, H⟩ := hrel
    rcases Nat.eq_zero_or_pos n with h0 | h0
    · subst h0
      go_wp2
      go_ret
      have hl : lr = [] := List.eq_nil_of_length_eq_zero H.out.2.1.1
      refine ⟨?_, H.out.1⟩
      rw [H.out.2.2.2.2.2, hl, pointsL_nil]
      rfl
    · have hne : lr ≠ [] := fun e => by have := H.out.2.1.1; rw [e] at this; simp at this; omega
      have hgb := getI_bounds hne
      have hgp := pointsL_cons hne
      rw [H.out.2.1.1] at hgb
      have HG := Lib.hid (get_any A n c lr wr H.out.2.1 H.out.2.2.2.2.1 H.out.2.2.1 H.out.2.2.2.1 (by omega))
      obtain ⟨g1, hg1⟩ : ∃ g, g = (getI lr).1 := ⟨_, rfl⟩
      obtain ⟨g2, hg2⟩ : ∃ g, g = (getI lr).2 := ⟨_, rfl⟩
      rw [← hg2] at hgb
      rw [← hg1, ← hg2] at HG hgp
      obtain ⟨m, hm⟩ := Int.eq_ofNat_of_zero_le (show 0 ≤ g2 by omega)
      subst hm
      have HSz := Lib.hid fun w => size_any g1 w
      clear hg1 hg2
      by_cases hz : (m : Int) = szI g1
      · rw [if_pos hz] at hgp
        have hneq : ((m : Int) != szI g1) = false := by simpa using hz
        obtain ⟨A', hcut, hrc, hblk⟩ := cut_from A n c m (by omega)
        have HGP := Lib.hid hgp
        have HRC := Lib.hid hrc
        have hnm : m ≤ n := by omega
        have hm1 : 1 ≤ m := by omega
        have h00 : ((0 : Int) < (n : Int)) := by omega
        clear hz hgp hrc hgb hblk
        go_wp2_with (first
          | (go_at_call 27; (with_reducible refine HG.out.mono ?_); rintro e w1 ⟨rfl, k, rfl⟩)
          | (go_at_call 28; (with_reducible refine (HSz.out _).mono ?_); rintro e w2 ⟨rfl, rfl⟩))
        refine ⟨⟨n - m, c - m, A', lr.drop m, rfl, by omega, Lib.hid ⟨below_drewN H.out.1 k, HRC.out _ lr H.out.2.1 H.out.2.2.1, by have := H.out.2.2.1; omega, Nat.le_trans (Nat.sub_le _ _) H.out.2.2.2.1, fun x hx => H.out.2.2.2.2.1 x (List.mem_of_mem_drop hx), ?_⟩⟩, ?_⟩
        · rw [H.out.2.2.2.2.2, HGP.out]
          rw [show ((m : Int)).toNat = m by simp]
          cases pointsL (lr.drop m) with
          | none => rfl
          | some r => rfl
        · show n - m < n
          omega
      · rw [if_neg hz] at hgp
        have hneq : ((m : Int) != szI g1) = true := by simpa using hz
        have HGP := Lib.hid hgp
        have h00 : ((0 : Int) < (n : Int)) := by omega
        clear hz hgp hgb
        go_wp2_with (first
          | (go_at_call 27; (with_reducible refine HG.out.mono ?_); rintro e w1 ⟨rfl, k, rfl⟩)
          | (go_at_call 28; (with_reducible refine (HSz.out _).mono ?_); rintro e w2 ⟨rfl, rfl⟩))
        go_ret
        refine ⟨?_, below_drewN H.out.1 k⟩
        rw [H.out.2.2.2.2.2, HGP.out]; rfl
end Go.Proofs.YtaapbmdojkjphaaGreat
namespace Go.Proofs.YtaapbmdojkjphaaGreat
open Go Go.RowKit
set_option linter.unusedVariables false
set_option maxRecDepth 20000
def Buf (B : Nat) (w : World) (V : Value) (S : ByteArray) : Prop := w.ownsRow B 5 1 V S.size (Lib.byteCells S.data.toList)
def FrO (B : Nat) (w w' : World) : Prop := Below B w w' ∧ Lib.OthersKept 5 none w w'
theorem FrO.refl (B : Nat) (w : World) : FrO B w w := ⟨Below.refl _ _, Lib.OthersKept.refl _ _ _⟩
theorem FrO.trans {B : Nat} {a b c : World} (h : FrO B a b) (k : FrO B b c) : FrO B a c := ⟨h.1.trans k.1, h.2.trans k.2⟩
theorem FrO.drewN {B : Nat} {a b : World} (h : FrO B a b) (q : Nat) : FrO B a (b.drewN q) := ⟨below_drewN h.1 q, h.2⟩
theorem FrO.drew {B : Nat} {a b : World} (h : FrO B a b) : FrO B a b.drew := ⟨h.1.drew, h.2⟩
theorem FrO.alloc {B : Nat} {a b : World} (h : FrO B a b) (hB : B ≤ a.heap.size) (o : Obj) : FrO B a (b.alloc o) := ⟨h.1.alloc (Nat.le_trans hB h.1.size) o, h.2.alloc o⟩
theorem FrO.mono {B B' : Nat} {a b : World} (h : FrO B a b) (hB : B' ≤ B) : FrO B' a b := ⟨h.1.mono hB, h.2⟩
theorem FrO.keep {B : Nat} {a b : World} (h : FrO B a b) {k : Nat} {cs : Array Value} {t : TypeId} {fr : Nat × Nat} (hk : a.heap[k]? = some (.cells cs t fr)) (ht : t ≠ 5) : b.heap[k]? = some (.cells cs t fr) :=
  h.2 k _ hk (by simp) fun c fz e => by injection e with _ e _; exact ht e
theorem wpList_append2 {P : Program} {w : World} {ops : Array Oper} {rest : List Oper} {o : Oper} {a : Act} {Q : Exit → Act → World → Prop} (hgd : o.guard = none) (s x : Operand) (t u : TypeId)
    (ho : o.op = .call { callee := .builtin .append, args := #[s, x], argTypes := #[t, u] }) (hty : o.type = t)
    (v y v' : Value) (w' : World) (hs : a.eval s = v) (hx : a.eval x = y) (hrun : (Builtin.append_ #[t, u] t #[v, y]).run P w = .ok v' w')
    (h : wpList P ops Q rest (a.put o.dst v') w') : wpList P ops Q (o :: rest) a w := by
  subst hty
  refine wpList_plain hgd fun K hK => ?_
  unfold Oper.wp
  simp [execOp, ho, resolve, invoke, builtin, hs, hx, hrun, Result.andThen]
  exact hK _ _ h
theorem info_oct : (Tryz.prog.info? 5).map (fun i => (i.zero, i.size, i.bytes)) = some (some (.int .u8 0), 1, 1) := by kernel_rfl
section
variable {w w' : World} {B : Nat} {V : Value} {S : ByteArray}
theorem Buf.nil_ (B : Nat) (w : World) : Buf B w (.slice none 0 0) ByteArray.empty := World.ownsRow_nil _ _ _ _
theorem Buf.slice (h : Buf B w V S) : ∃ A c, V = .slice A S.size c ∧ RowI .u8 w A S.size (nums S) ∧ S.size ≤ c ∧ c ≤ maxLen := by
  have e : Lib.byteCells S.data.toList = (nums S).map (.int .u8) := by simp [Lib.byteCells, nums]
  unfold Buf at h
  rw [e] at h
  have hl := nums_length S
  rw [← hl] at h ⊢
  exact row_of_own h
theorem Buf.alloc (h : Buf B w V S) (o : Obj) : Buf B (w.alloc o) V S := own_alloc h o
theorem Buf.drewN (h : Buf B w V S) (q : Nat) : Buf B (w.drewN q) V S := h
theorem Buf.drew (h : Buf B w V S) : Buf B w.drew V S := h
theorem Buf.grown_frame (h : Buf B w V S) (hB : B ≤ w.heap.size) {a : World} (hf : FrO B a w) (hg : w.grownBy w' V.ownBlock) : FrO B a w' := by
  refine ⟨hf.1.grown hg hB fun k hk => (row_lt h hk).1, hf.2.grown hg fun g hk => ?_⟩
  rcases h.2 with ⟨e, _⟩ | ⟨b, cap, cur, e, _, hr, _⟩
  · subst e; cases hk
  · subst e
    injection hk with hk
    subst hk
    exact ⟨cur, (0, 0), hr⟩
theorem buf_str (h : Buf B w V S) (T : ByteArray) (hB : B ≤ w.heap.size) (hs : S.size + T.size ≤ 140000000) :
    ∃ V' w', (Builtin.append_ #[41, 9] 41 #[V, .string T]).run Tryz.prog w = .ok V' w' ∧ Buf B w' V' (S ++ T) ∧ FrO B w w' := by
  obtain ⟨i0, hi, hz0, hz1, hz2⟩ := info_parts info_oct
  obtain ⟨V', w', h1, h2, h3, _⟩ := Lib.run_append_own_string (P := Tryz.prog) w B 41 9 41 5 i0 Tryz.underlying41 Tryz.underlying9 hi hz0 hz1 hz2 V S.size _ h T (by unfold maxLen; omega) (by omega) hB
  refine ⟨V', w', h1, ?_, h.grown_frame hB (FrO.refl _ _) h3⟩
  unfold Buf
  rw [show (S ++ T).data.toList = S.data.toList ++ T.data.toList by simp, show Lib.byteCells (S.data.toList ++ T.data.toList) = Lib.byteCells S.data.toList ++ Lib.strCells T by simp [Lib.byteCells, Lib.strCells], ByteArray.size_append]
  exact h2
theorem buf_byte (h : Buf B w V S) (c : UInt8) (k : Int) (hk : k = (c.toNat : Int)) (hB : B ≤ w.heap.size) (hs : S.size ≤ 140000000) :
    ∃ V' w', (Builtin.append_ #[41, 41] 41 #[V, .slice (some ⟨w.heap.size, 0, none⟩) 1 1]).run Tryz.prog (w.alloc (.cells #[.int .u8 k] 5)) = .ok V' w' ∧ Buf B w' V' (S ++ strB [c]) ∧ FrO B w w' := by
  subst hk
  obtain ⟨V', w', h1, h2, h3⟩ := push_run 41 5 (.int .u8 0) 1 Tryz.underlying41 info_oct rfl w B V S.size _ h (.int .u8 (c.toNat : Int)) rfl (by omega) (by unfold maxLen; omega) hB
  refine ⟨V', w', h1, ?_, (h.alloc (.cells #[.int .u8 (c.toNat : Int)] 5)).grown_frame (by simp; omega) ((FrO.refl _ _).alloc hB _) h3⟩
  unfold Buf
  rw [show (S ++ strB [c]).data.toList = S.data.toList ++ [c] by simp [strB], show Lib.byteCells (S.data.toList ++ [c]) = Lib.byteCells S.data.toList ++ [.int .u8 (c.toNat : Int)] by simp [Lib.byteCells], ByteArray.size_append]
  exact h2
end
end Go.Proofs.YtaapbmdojkjphaaGreat
namespace Go.Proofs.YtaapbmdojkjphaaGreat
open Go Go.RowKit
set_option linter.unusedVariables false
set_option maxRecDepth 20000
theorem letter_any (c : Int) (h : c = 10 ∨ c = 13 ∨ c = 9) (w : World) : Calls Tryz.prog 13 #[.int .u8 c] w fun e w' => e = .returned (.int .u8 (lettI c)) ∧ w = w' := by
  rcases h with rfl | rfl | rfl
  all_goals
    go_enter Tryz.func13, Tryz.ntmps13
    go_wp2
    go_ret
    exact ⟨rfl, rfl⟩
theorem quote_no {s : ByteArray} (h : pointsL (nums s) = none) (hs : s.size ≤ 200) (w : World) : Calls Tryz.prog 5 #[.string s] w fun e w' => e = .returned (.string (quoteS s)) ∧ Below w.heap.size w w' := by
  have HT := isText_any s w hs
  have e : quoteS s = ByteArray.empty := by unfold quoteS; rw [h]
  rw [h] at HT
  rw [e]
  have HT := Lib.hid HT
  clear h e
  go_enter Tryz.func5, Tryz.ntmps5
  go_wp2_with (go_at_call 12; (with_reducible refine HT.out.mono ?_); rintro e w1 ⟨rfl, hb⟩; have H1 := Lib.hid hb; clear hb)
  go_ret
  exact ⟨rfl, H1.out⟩
theorem nums_app (S T : ByteArray) : nums (S ++ T) = nums S ++ nums T := by
  unfold nums
  rw [ByteArray.data_append, Array.toList_append, List.map_append]
theorem buf_put {B : Nat} {w : World} {A : Option Addr} {c : Nat} {S : ByteArray} (h : Buf B w (.slice A S.size c) S) {x : Int} (hx : 0 ≤ x ∧ x < 256) (hB : B ≤ w.heap.size) (hs : S.size ≤ 100000) :
    ∃ A' c' w' S', (Builtin.append_ #[41, 41] 41 #[.slice A S.size c, .slice (some ⟨w.heap.size, 0, none⟩) 1 1]).run Tryz.prog (w.alloc (.cells #[.int .u8 x] 5)) = .ok (.slice A' S'.size c') w' ∧ Buf B w' (.slice A' S'.size c') S' ∧ nums S' = nums S ++ [x] ∧ S'.size = S.size + 1 ∧ FrO B w w' := by
  obtain ⟨u, hu⟩ : ∃ u : UInt8, x = (u.toNat : Int) := ⟨UInt8.ofNat x.toNat, by simp; omega⟩
  obtain ⟨V', w', h1, h2, h3⟩ := buf_byte h u x hu hB (by omega)
  obtain ⟨A', c', rfl, _, _, _⟩ := h2.slice
  refine ⟨A', c', w', S ++ strB [u], h1, h2, ?_, by rw [ByteArray.size_append]; rfl, h3⟩
  rw [nums_app, hu]
  rfl
set_option maxHeartbeats 8000000 in
theorem quote_yes {s : ByteArray} {rs : List Int} (h : pointsL (nums s) = some rs) (hs : s.size ≤ 200) (w : World) : Calls Tryz.prog 5 #[.string s] w fun e w' => e = .returned (.string (quoteS s)) ∧ Below w.heap.size w w' := by
  have HT := isText_any s w hs
  rw [quoteS_some h]
  rw [h] at HT
  have HT := Lib.hid HT
  have HN := Lib.hid (nums_length s)
  have HY := Lib.hid (nums_byte s)
  have HL := Lib.hid letter_any
  obtain ⟨N, hN⟩ : ∃ N, N = nums s := ⟨_, rfl⟩
  rw [← hN] at HN HY ⊢
  have HNe := Lib.hid hN
  clear h hN
  go_enter Tryz.func5, Tryz.ntmps5
  go_wp2_with (go_at_call 12; (with_reducible refine HT.out.mono ?_); rintro e w1 ⟨rfl, hb⟩; have H1 := Lib.hid hb; clear hb)
  go_loopw [3, 11] (fun v3 v11 wr => ∃ (k c : Nat) (A : Option Addr) (S : ByteArray), v3 = .slice A S.size c ∧ v11 = .int .i64 (k : Int) ∧ k ≤ s.size ∧ Hid (Buf w.heap.size wr (.slice A S.size c) S ∧ nums S = (N.take k).flatMap octQ ∧ S.size ≤ 2 * k ∧ Below w.heap.size w wr)) (fun _ v11 _ => s.size - (intOf v11).toNat)
  case atStart => exact ⟨0, 0, none, ByteArray.empty, rfl, rfl, Nat.zero_le _, Lib.hid ⟨Buf.nil_ _ _, rfl, Nat.le_refl _, H1.out⟩⟩
  case round =>
    obtain ⟨k, c, A, S, rfl, rfl, hk, H⟩ := hrel
    by_cases hlt : k < s.size
    · have hi := fun w => idx_at s k hlt w
      rw [← HNe.out] at hi
      have hkl : k < N.length := by rw [HN.out]; exact hlt
      have hx := HY.out (N.getD k 0) (by rw [List.getD, List.getElem?_eq_getElem hkl]; exact List.getElem_mem hkl)
      have hstep : (N.take (k + 1)).flatMap octQ = (N.take k).flatMap octQ ++ octQ (N.getD k 0) := by
        rw [List.take_succ_eq_append_getElem hkl, List.flatMap_append, List.getD, List.getElem?_eq_getElem hkl]
        simp
      obtain ⟨x, hxe⟩ : ∃ x, x = N.getD k 0 := ⟨_, rfl⟩
      rw [← hxe] at hi hx hstep
      have HX := Lib.hid (And.intro hx (And.intro hstep hlt))
      have hki : (k : Int) < (s.size : Int) := by omega
      have hk0 : (0 : Int) ≤ (k : Int) := by omega
      have hk9 : (k : Int) ≤ 200 := by omega
      clear hx hstep hlt hkl hxe hk
      by_cases hA : x = 10 ∨ x = 13 ∨ x = 9
      · obtain ⟨A1, c1, w2, S1, r1, hb1, hn1, hz1, hf1⟩ := buf_put H.out.1 (x := 92) (by omega) H.out.2.2.2.size (by have := H.out.2.2.1; have := HX.out.2.2; omega)
        have hl : 0 ≤ lettI x ∧ lettI x < 256 := by unfold lettI; (repeat' split) <;> omega
        obtain ⟨A2, c2, w3, S2, r2, hb2, hn2, hz2, hf2⟩ := buf_put hb1 hl (Nat.le_trans H.out.2.2.2.size hf1.1.size) (by have := H.out.2.2.1; have := HX.out.2.2; omega)
        have ho : octQ x = [92, lettI x] := by unfold octQ; rw [if_pos hA]
        have HQ := Lib.hid (And.intro hb2 (And.intro (show nums S2 = (N.take (k + 1)).flatMap octQ by rw [hn2, hn1, H.out.2.1, HX.out.2.1, ho, List.append_assoc]; rfl) (And.intro (show S2.size ≤ 2 * (k + 1) by have := H.out.2.2.1; omega) (H.out.2.2.2.trans (hf1.1.trans (hf2.1.mono (Nat.le_refl _)))))))
        have HR1 := Lib.hid r1
        have HR2 := Lib.hid r2
        have HLx := Lib.hid (HL.out x hA)
        clear hb1 hn1 hz1 hf1 hb2 hn2 hz2 hf2 ho hl r1 r2
        rcases hA with hA | hA | hA
        all_goals
          subst hA
          go_wp2_with (first
            | (go_at_call 13; (with_reducible refine (HLx.out _).mono ?_); rintro e w9 ⟨rfl, rfl⟩)
            | (at_builtin; refine wpList_append_run rfl (.tmp 40) (.tmp 41) 41 rfl rfl _ _ _ _ rfl rfl HR1.out ?_)
            | (at_builtin; refine wpList_append_run rfl (.tmp 43) (.tmp 45) 41 rfl rfl _ _ _ _ rfl rfl HR2.out ?_))
          exact ⟨⟨k + 1, c2, A2, S2, rfl, rfl, by have := HX.out.2.2; omega, HQ⟩, by have := HX.out.2.2; simp [intOf]; omega⟩
      by_cases hB : x ∈ signL
      · obtain ⟨A1, c1, w2, S1, r1, hb1, hn1, hz1, hf1⟩ := buf_put H.out.1 (x := 92) (by omega) H.out.2.2.2.size (by have := H.out.2.2.1; have := HX.out.2.2; omega)
        obtain ⟨A2, c2, w3, S2, r2, hb2, hn2, hz2, hf2⟩ := buf_put hb1 HX.out.1 (Nat.le_trans H.out.2.2.2.size hf1.1.size) (by have := H.out.2.2.1; have := HX.out.2.2; omega)
        have ho := octQ_sign hB
        have HQ := Lib.hid (And.intro hb2 (And.intro (show nums S2 = (N.take (k + 1)).flatMap octQ by rw [hn2, hn1, H.out.2.1, HX.out.2.1, ho, List.append_assoc]; rfl) (And.intro (show S2.size ≤ 2 * (k + 1) by have := H.out.2.2.1; omega) (H.out.2.2.2.trans (hf1.1.trans (hf2.1.mono (Nat.le_refl _)))))))
        have HR1 := Lib.hid r1
        have HR2 := Lib.hid r2
        clear hb1 hn1 hz1 hf1 hb2 hn2 hz2 hf2 ho r1 r2 hA
        simp only [signL, List.mem_cons, List.not_mem_nil, or_false] at hB
        rcases hB with hB | hB | hB | hB | hB | hB | hB | hB | hB | hB | hB | hB | hB | hB | hB
        all_goals
          subst hB
          go_wp2_with (first
            | (at_builtin; refine wpList_append_run rfl (.tmp 40) (.tmp 41) 41 rfl rfl _ _ _ _ rfl rfl HR1.out ?_)
            | (at_builtin; refine wpList_append_run rfl (.tmp 43) (.tmp 45) 41 rfl rfl _ _ _ _ rfl rfl HR2.out ?_))
          exact ⟨⟨k + 1, c2, A2, S2, rfl, rfl, by have := HX.out.2.2; omega, HQ⟩, by have := HX.out.2.2; simp [intOf]; omega⟩
      · obtain ⟨A2, c2, w3, S2, r2, hb2, hn2, hz2, hf2⟩ := buf_put H.out.1 HX.out.1 H.out.2.2.2.size (by have := H.out.2.2.1; have := HX.out.2.2; omega)
        have ho : octQ x = [x] := by unfold octQ; rw [if_neg hA, if_neg hB]
        have HQ := Lib.hid (And.intro hb2 (And.intro (show nums S2 = (N.take (k + 1)).flatMap octQ by rw [hn2, H.out.2.1, HX.out.2.1, ho]) (And.intro (show S2.size ≤ 2 * (k + 1) by have := H.out.2.2.1; omega) (H.out.2.2.2.trans hf2.1))))
        have HR2 := Lib.hid r2
        clear hb2 hn2 hz2 hf2 ho r2
        simp only [signL, List.mem_cons, List.not_mem_nil, or_false, not_or] at hA hB
        obtain ⟨a1, a2, a3⟩ := hA
        obtain ⟨b1, b2, b3, b4, b5, b6, b7, b8, b9, b10, b11, b12, b13, b14, b15⟩ := hB
        go_wp2_with (at_builtin; refine wpList_append_run rfl (.tmp 43) (.tmp 45) 41 rfl rfl _ _ _ _ rfl rfl HR2.out ?_)
        exact ⟨⟨k + 1, c2, A2, S2, rfl, rfl, by have := HX.out.2.2; omega, HQ⟩, by have := HX.out.2.2; simp [intOf]; omega⟩
    · obtain rfl : k = s.size := by omega
      obtain ⟨A', c', e, hr, _, _⟩ := H.out.1.slice
      have hcv := fun c' => strRow wr A S.size c' (nums S) (by injection e with e1 _ _; rw [e1]; exact hr)
      have hcv1 := hcv c
      rw [strOfNums_nums] at hcv1
      have HE : Hid (S = strOfNums (N.flatMap octQ)) := Lib.hid (by
        have := H.out.2.1
        rw [List.take_of_length_le (by rw [HN.out]; exact Nat.le_refl _)] at this
        rw [← this, strOfNums_nums])
      clear hcv hr e
      go_wp2
      go_ret
      exact ⟨by rw [← HE.out]; rfl, H.out.2.2.2⟩
theorem engQuote_any (s : ByteArray) (w : World) (hs : s.size ≤ 200) : Calls Tryz.prog 5 #[.string s] w fun e w' => e = .returned (.string (quoteS s)) ∧ Below w.heap.size w w' := by
  cases h : pointsL (nums s) with
  | none => exact quote_no h hs w
  | some rs => exact quote_yes h hs w
end Go.Proofs.YtaapbmdojkjphaaGreat
namespace Go.Proofs.YtaapbmdojkjphaaGreat
open Go Go.RowKit
set_option linter.unusedVariables false
set_option maxRecDepth 20000
def Off (g : Nat) (w w' : World) : Prop := Below g w w' ∧ ∀ k, k < w.heap.size → k ≠ g → w'.heap[k]? = w.heap[k]?
theorem Off.refl (g : Nat) (w : World) : Off g w w := ⟨Below.refl _ _, fun _ _ _ => rfl⟩
theorem Off.trans {g : Nat} {a b c : World} (h : Off g a b) (k : Off g b c) : Off g a c :=
  ⟨h.1.trans k.1, fun i h1 h2 => (k.2 i (Nat.lt_of_lt_of_le h1 h.1.size) h2).trans (h.2 i h1 h2)⟩
theorem Off.drewN {g : Nat} {a b : World} (h : Off g a b) (q : Nat) : Off g a (b.drewN q) := ⟨below_drewN h.1 q, h.2⟩
theorem Off.of_below {g : Nat} {a b : World} (h : Below a.heap.size a b) (hg : g < a.heap.size) : Off g a b := ⟨Below.mono h (Nat.le_of_lt hg), fun k hk _ => h.block k hk⟩
theorem Off.setCell {g : Nat} {a b : World} (h : Off g a b) (j : Nat) (v : Value) : Off g a (b.setCell ⟨g, j, none⟩ v) :=
  ⟨h.1.setCell (Nat.le_refl _) v, fun k hk hne => (Below.heap_setCell _ _ _ _ hne).trans (h.2 k hk hne)⟩
theorem Off.alloc {g : Nat} {a b : World} (h : Off g a b) (hg : g < a.heap.size) (o : Obj) : Off g a (b.alloc o) := h.trans (Off.of_below ((Below.refl _ _).alloc (Nat.le_refl _) o) (Nat.lt_of_lt_of_le hg h.1.size))
structure RdAt (w : World) (g : Nat) (A : Option Addr) (n c : Nat) (l : List Int) : Prop where
  blk : w.heap[g]? = some (.cells #[.slice A n c] 82 (0, 0))
  row : RowI .i64 w A n l
  cap : n ≤ c ∧ c ≤ maxLen
  few : n ≤ 1000
  low : ∀ a, A = some a → a.block < g
  nil : A = none → n = 0 ∧ c = 0
  pts : ∀ x ∈ l, 0 ≤ x ∧ x ≤ 1114111
def Rd (w : World) (g : Nat) (l : List Int) : Prop := ∃ A n c, RdAt w g A n c l
section
variable {w w' : World} {g n c : Nat} {A : Option Addr} {l : List Int}
theorem RdAt.lt (h : RdAt w g A n c l) : g < w.heap.size := (Array.getElem?_eq_some_iff.1 h.blk).1
theorem RdAt.c0 (h : RdAt w g A n c l) : w.cell? ⟨g, 0, none⟩ = some (.slice A n c) := cell_of_row w g 0 _ _ (0, 0) h.blk
theorem RdAt.fz (h : RdAt w g A n c l) : w.frozen? ⟨g, 0, none⟩ = false := by have := h.blk; simp [World.frozen?, this]
theorem RdAt.drewN (h : RdAt w g A n c l) (q : Nat) : RdAt (w.drewN q) g A n c l := ⟨h.blk, h.row, h.cap, h.few, h.low, h.nil, h.pts⟩
theorem RdAt.below (h : RdAt w g A n c l) (hb : Below w.heap.size w w') : RdAt w' g A n c l := ⟨(hb.block g h.lt).trans h.blk, h.row.below hb (Nat.le_refl _), h.cap, h.few, h.low, h.nil, h.pts⟩
theorem RdAt.keep (h : RdAt w g A n c l) {B : Nat} (hb : Below B w w') (hB : g < B) : RdAt w' g A n c l :=
  ⟨(hb.block g hB).trans h.blk, rowI_keep h.row fun b o e _ => hb.block b (by have := h.low _ e; simp only at this; omega), h.cap, h.few, h.low, h.nil, h.pts⟩
theorem Rd.keep (h : Rd w g l) {B : Nat} (hb : Below B w w') (hB : g < B) : Rd w' g l := by obtain ⟨A, n, c, h⟩ := h; exact ⟨A, n, c, h.keep hb hB⟩
theorem Rd.lt (h : Rd w g l) : g < w.heap.size := by obtain ⟨A, n, c, h⟩ := h; exact h.lt
theorem Rd.below (h : Rd w g l) (hb : Below w.heap.size w w') : Rd w' g l := by obtain ⟨A, n, c, h⟩ := h; exact ⟨A, n, c, h.below hb⟩
theorem Rd.drewN (h : Rd w g l) (q : Nat) : Rd (w.drewN q) g l := by obtain ⟨A, n, c, h⟩ := h; exact ⟨A, n, c, h.drewN q⟩
theorem Rd.pts (h : Rd w g l) : ∀ x ∈ l, 0 ≤ x ∧ x ≤ 1114111 := by obtain ⟨A, n, c, h⟩ := h; exact h.pts
theorem Rd.few (h : Rd w g l) : l.length ≤ 1000 := by obtain ⟨A, n, c, h⟩ := h; rw [h.row.1]; exact h.few
theorem RdAt.nilL (h : RdAt w g A n c []) : n = 0 := by have := h.row.1; simpa using this.symm
theorem RdAt.cons {x : Int} (h : RdAt w g A n c (x :: l)) : ∃ b o, A = some ⟨b, o, none⟩ ∧ 0 < n ∧ n = l.length + 1 ∧ b ≠ g ∧ w.cell? ⟨b, o, none⟩ = some (.int .i64 x) ∧ 0 ≤ x ∧ x ≤ 1114111 := by
  have hl := h.row.1
  rw [List.length_cons] at hl
  obtain ⟨b, o, hA, _, hc⟩ := h.row.2 (by omega)
  have := hc 0 (by omega)
  have hp := h.pts x (List.mem_cons_self ..)
  exact ⟨b, o, hA, by omega, by omega, Nat.ne_of_lt (h.low _ hA), by simpa using this, hp.1, hp.2⟩
theorem RdAt.cut (h : RdAt w g A n c l) {k : Nat} (hk : k ≤ n) {A' : Option Addr} {n' c' : Nat} (hA : (k < c ∧ A' = Option.map (fun x => x.add k) A) ∨ (k = c ∧ A' = A)) (hn : n' = n - k) (hc : c' = c - k) : RdAt (w.setCell ⟨g, 0, none⟩ (.slice A' n' c')) g A' n' c' (l.drop k) := by
  subst hn; subst hc
  have hrow : RowI .i64 w A' (n - k) (l.drop k) := by
    rcases hA with ⟨_, rfl⟩ | ⟨rfl, rfl⟩
    · exact rowI_from h.row hk
    · have hn : n = k := by have := h.cap.1; omega
      have : l.drop k = [] := List.drop_of_length_le (by rw [h.row.1]; omega)
      rw [this, hn, Nat.sub_self]
      exact RowI.nil_
  have hne : ∀ a, A' = some a → a.block < g := by
    rcases hA with ⟨_, rfl⟩ | ⟨_, rfl⟩
    · intro a e
      rcases A with _ | a'
      · cases e
      · simp only [Option.map_some, Option.some.injEq] at e
        subst e
        have := h.low a' rfl
        unfold Addr.add
        split <;> exact this
    · exact h.low
  refine ⟨heap_setCell_same w g 0 _ _ _ h.blk, ?_, ⟨by have := h.cap; omega, by have := h.cap; omega⟩, by have := h.few; omega, hne, ?_, fun x hx => h.pts x (List.mem_of_mem_drop hx)⟩
  · exact rowI_keep hrow fun b o e _ => Below.heap_setCell _ _ _ _ (Nat.ne_of_lt (hne _ e))
  · intro e
    rcases hA with ⟨_, rfl⟩ | ⟨_, rfl⟩
    · rcases A with _ | a
      · have := h.nil rfl; omega
      · cases e
    · have := h.nil e; omega
end
theorem peek_any {w : World} {g : Nat} {l : List Int} (h : Rd w g l) :
    Calls Tryz.prog 101 #[.pointer (some ⟨g, 0, none⟩)] w fun e w' => e = .returned (.int .i64 (l.headD (-1))) ∧ w = w' := by
  obtain ⟨A, n, c, h⟩ := h
  have c0 := h.c0
  rcases l with _ | ⟨x, l⟩
  · have hn := h.nilL
    subst hn
    clear h
    go_enter Tryz.func101, Tryz.ntmps101
    go_wp2
    go_ret
    exact ⟨rfl, rfl⟩
  · obtain ⟨b, o, rfl, h0, _, _, c1, _, _⟩ := h.cons
    have h1 : ((n : Int) == 0) = false := by simp; omega
    clear h
    go_enter Tryz.func101, Tryz.ntmps101
    go_wp2
    go_ret
    exact ⟨rfl, rfl⟩
theorem next_nil {w : World} {g : Nat} (h : Rd w g []) :
    Calls Tryz.prog 103 #[.pointer (some ⟨g, 0, none⟩)] w fun e w' => e = .returned (.int .i64 (-1)) ∧ w = w' := by
  have HP := Lib.hid (peek_any h)
  clear h
  go_enter Tryz.func103, Tryz.ntmps103
  go_wp2_with (go_at_call 101; (with_reducible refine HP.out.mono ?_); rintro e w1 ⟨rfl, rfl⟩; rw [show ([] : List Int).headD (-1) = -1 from rfl])
  go_ret
  exact ⟨rfl, rfl⟩
theorem next_cons {w : World} {g : Nat} {x : Int} {l : List Int} (h : Rd w g (x :: l)) :
    Calls Tryz.prog 103 #[.pointer (some ⟨g, 0, none⟩)] w fun e w' => e = .returned (.int .i64 x) ∧ Rd w' g l ∧ Off g w w' := by
  have HP := Lib.hid (peek_any h)
  obtain ⟨A, n, c, h⟩ := h
  have c0 := h.c0
  have f0 := h.fz
  obtain ⟨b, o, rfl, h0, hnl, _, _, hx0, _⟩ := h.cons
  have hx : (x != -1) = true := by simp; omega
  obtain ⟨hc1, hc2⟩ := h.cap
  rcases Nat.eq_or_lt_of_le (show 1 ≤ c by omega) with hc | hc
  · subst hc
    have hn : n = 1 := by omega
    subst hn
    have HC := Lib.hid (h.cut (k := 1) (Nat.le_refl _) (.inr ⟨rfl, rfl⟩) rfl rfl)
    clear h hc1 hc2 hnl h0
    go_enter Tryz.func103, Tryz.ntmps103
    go_wp2_with (go_at_call 101; (with_reducible refine HP.out.mono ?_); rintro e w1 ⟨rfl, rfl⟩; rw [show (x :: l).headD (-1) = x from rfl])
    go_ret
    exact ⟨rfl, ⟨_, _, _, HC.out⟩, (Off.refl _ _).setCell _ _⟩
  · have HC := Lib.hid (h.cut (k := 1) (A' := some ⟨b, o + 1, none⟩) (n' := l.length) (c' := c - 1) (show 1 ≤ n by omega) (.inl ⟨hc, by simp [Addr.add]⟩) (by omega) rfl)
    subst hnl
    have h2 : ((l.length : Int) + 1) ≤ (c : Int) := by omega
    clear h hc2
    go_enter Tryz.func103, Tryz.ntmps103
    go_wp2_with (go_at_call 101; (with_reducible refine HP.out.mono ?_); rintro e w1 ⟨rfl, rfl⟩; rw [show (x :: l).headD (-1) = x from rfl])
    go_ret
    exact ⟨rfl, ⟨_, _, _, HC.out⟩, (Off.refl _ _).setCell _ _⟩
theorem next_any {w : World} {g : Nat} {l : List Int} (h : Rd w g l) :
    Calls Tryz.prog 103 #[.pointer (some ⟨g, 0, none⟩)] w fun e w' => e = .returned (.int .i64 (l.headD (-1))) ∧ Rd w' g l.tail ∧ Off g w w' := by
  rcases l with _ | ⟨x, l⟩
  · exact (next_nil h).mono fun e w' ⟨he, hw⟩ => ⟨he, hw ▸ h, hw ▸ Off.refl _ _⟩
  · exact next_cons h
theorem take_no {w : World} {g : Nat} {l : List Int} {x : Int} (h : Rd w g l) (hx : l.headD (-1) ≠ x) :
    Calls Tryz.prog 61 #[.pointer (some ⟨g, 0, none⟩), .int .i64 x] w fun e w' => e = .returned (.bool false) ∧ w = w' := by
  have HP := Lib.hid (peek_any h)
  have hx : (l.headD (-1) != x) = true := by simpa using hx
  generalize l.headD (-1) = y at HP hx
  clear h
  go_enter Tryz.func61, Tryz.ntmps61
  go_wp2_with (go_at_call 101; (with_reducible refine HP.out.mono ?_); rintro e w1 ⟨rfl, rfl⟩)
  go_ret
  exact ⟨rfl, rfl⟩
theorem take_yes {w : World} {g : Nat} {l : List Int} {x : Int} (h : Rd w g (x :: l)) :
    Calls Tryz.prog 61 #[.pointer (some ⟨g, 0, none⟩), .int .i64 x] w fun e w' => e = .returned (.bool true) ∧ Rd w' g l ∧ Off g w w' := by
  have HP := Lib.hid (peek_any h)
  have HN := Lib.hid (next_cons h)
  have hx : (x != x) = false := by simp
  clear h
  go_enter Tryz.func61, Tryz.ntmps61
  go_wp2_with (first
    | (go_at_call 101; (with_reducible refine HP.out.mono ?_); rintro e w1 ⟨rfl, rfl⟩; rw [show (x :: l).headD (-1) = x from rfl])
    | (go_at_call 103; (with_reducible refine HN.out.mono ?_); rintro e w2 ⟨rfl, hr, ho⟩; have HO := Lib.hid (And.intro hr ho); clear hr ho))
  go_ret
  exact ⟨rfl, HO.out.1, HO.out.2⟩
end Go.Proofs.YtaapbmdojkjphaaGreat
