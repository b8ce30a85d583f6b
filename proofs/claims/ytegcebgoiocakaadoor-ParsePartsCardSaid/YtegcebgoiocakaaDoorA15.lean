/- []byte(s), which is never nil. -/
import Derived.Test.YtegcebgoiocakaaDoorA02
import Derived.Test.YtegcebgoiocakaaDoorA06
import Derived.Test.YtegcebgoiocakaaDoorA12
import Derived.Test.YtegcebgoiocakaaDoorA13
import Derived.Test.YtegcebgoiocakaaDoorA14
import Derived.Lib.SliceRun
namespace Go.Proofs.YtegcebgoiocakaaDoor
open Go Go.RowKit

/-- []byte(s): never nil. -/
theorem bytes_some (s : ByteArray) (w : World) (hs : s.size ≤ maxLen) : ∃ A c w', (convert 9 42 (.string s)).run Tryd.prog w = .ok (.slice (some A) s.size c) w' ∧ RowI .u8 w' (some A) s.size (nums s) ∧ s.size ≤ c ∧ c ≤ maxLen ∧ Below w.heap.size w w' := by
  refine ⟨_, _, _, run_bytes_of_string w _ _ _ s Tryd.underlying9 Tryd.underlying42 Tryd.underlying5, ⟨nums_length s, fun h0 => ⟨_, _, rfl, ?_, fun j hj => ?_⟩⟩, ?_, ?_, ?_⟩
  · show w.heap.size < (w.heap.push _).size
    rw [Array.size_push]; omega
  · rw [Nat.zero_add]
    refine (World.cell?_alloc_mark w.drew _ _ _ j).trans ?_
    unfold bytesRow
    rw [Array.getElem?_append_left (by rw [Array.size_map]; exact hj), Array.getElem?_map]
    have hj' : j < s.data.size := hj
    have hn : j < (nums s).length := by rw [nums_length]; exact hj
    rw [Array.getElem?_eq_getElem hj']
    have e := nums_get s j hj hn
    rw [List.getD, List.getElem?_eq_getElem hn, Option.getD_some, e]
    rfl
  · exact grownCap_ge w s.size 0 _
  · exact grownCap_le_maxLen w s.size 0 _ hs
  · exact ((Below.refl _ _).drew).alloc (Nat.le_refl _) _
end Go.Proofs.YtegcebgoiocakaaDoor
/- The parser's decode. -/
namespace Go.Proofs.YtegcebgoiocakaaDoor
open Go Go.RowKit
set_option linter.unusedVariables false
set_option maxRecDepth 20000

theorem u8_elem9 : Tryd.prog.elem 42 = 5 := by kernel_rfl
theorem u8_size9 (w : World) : (sizeOf 5).run Tryd.prog w = .ok 1 w := by kernel_rfl
theorem u8_slice9 : Tryd.prog.underlying 42 = some (.slice (Tryd.prog.elem 42)) := by rw [u8_elem9]; exact Tryd.underlying42
/-- b[l:], of a slice of octets at whatever address. -/
theorem cut_from (A : Option Addr) (n c l : Nat) (hl : l ≤ n) :
    ∃ A', (∀ w : World, (Instr.slice 42 (.slice A n c) (some (.int .i64 (l : Int))) none none).run Tryd.prog w = .ok (.slice A' (n - l) (c - l)) w) ∧
      (∀ (w : World) (xs : List Int), RowI .u8 w A n xs → n ≤ c → RowI .u8 w A' (n - l) (xs.drop l)) ∧ ∀ B, (∀ a, A = some a → a.block = B) → ∀ a, A' = some a → a.block = B := by
  refine ⟨if c = l then A else A.map (·.add (l * 1)), fun w => ?_, fun w xs h hnc => ?_, fun B hB a ha => ?_⟩
  · have hr := run_slice_l (P := Tryd.prog) (w := w) (t := 42) (a := A) (len := n) (cap := c) (ht := u8_slice9) (kl := .i64) (l := (l : Int)) (h0 := by omega) (h1 := by omega)
    rw [hr, u8_elem9, u8_size9]
    simp [Result.andThen, sliced]
  · refine ⟨by rw [List.length_drop, h.1], fun h0 => ?_⟩
    obtain ⟨b, o, hA, hlt, hc⟩ := h.2 (by omega)
    rw [if_neg (by omega), hA]
    refine ⟨b, o + l, by simp [Addr.add], hlt, fun j hj => ?_⟩
    rw [Nat.add_assoc, hc (l + j) (by omega)]
    simp [List.getD, List.getElem?_drop]
  · split at ha
    · exact hB a ha
    · rcases A with _ | x
      · cases ha
      · have h1 := hB x rfl
        simp at ha
        subst ha
        unfold Addr.add
        split <;> exact h1

set_option maxHeartbeats 4000000 in
theorem decode_any (s : ByteArray) (w : World) (hs : s.size ≤ 200) :
    Calls Tryd.prog 9 #[.string s] w (DecV s w) := by
  obtain ⟨A0, c0, w0, hcv, hrow, hc1, hc2, hb0⟩ := bytes_some s w (by unfold maxLen; omega)
  have HB := Lib.hid (And.intro hrow (And.intro hc1 (And.intro hc2 hb0)))
  have hby := Lib.hid (nums_byte s)
  clear hrow hc1 hc2 hb0
  go_enter Tryd.func9, Tryd.ntmps9
  go_wp2_with fail
  go_loopw [4, 5] (fun vp vb wr => ∃ (q pc n c : Nat) (P A : Option Addr) (xs lr : List Int), vp = .slice P q pc ∧ vb = .slice A n c ∧ q + n ≤ 200 ∧
    Hid (wr.ownsRow w.heap.size 3 1 (.slice P q pc) q (xs.map (.int .i64)) ∧ Below w.heap.size w wr ∧ RowI .u8 wr A n lr ∧ n ≤ c ∧ c ≤ maxLen ∧ (∀ x ∈ lr, 0 ≤ x ∧ x < 256) ∧ pointsL (nums s) = (pointsL lr).map (fun r => xs ++ r) ∧ (∀ a, A = some a → a.block = A0.block) ∧ (Value.slice P q pc).ownBlock ≠ some A0.block)) (fun _ vb _ => match vb with | .slice _ n _ => n | _ => 0)
  case atStart => exact ⟨0, 0, s.size, c0, none, some A0, [], nums s, rfl, rfl, by omega, Lib.hid ⟨ownI_nil _ _, HB.out.2.2.2, HB.out.1, HB.out.2.1, HB.out.2.2.1, hby.out, by cases pointsL (nums s) <;> rfl, fun a e => by injection e with e; rw [e], by intro e; cases e⟩⟩
  case round =>
    obtain ⟨q, pc, n, c, P, A, xs, lr, rfl, rfl, hqn, H⟩ := hrel
    rcases Nat.eq_zero_or_pos n with h0 | h0
    · subst h0
      go_wp2
      go_ret2
      have hl : lr = [] := List.eq_nil_of_length_eq_zero H.out.2.2.1.1
      refine ⟨H.out.2.1, .inr ⟨P, q, pc, xs, rfl, ?_, H.out.1⟩⟩
      have := H.out.2.2.2.2.2.2.1
      rw [hl, pointsL_nil] at this
      rw [this]
      simp
    · have hne : lr ≠ [] := fun e => by have := H.out.2.2.1.1; rw [e] at this; simp at this; omega
      have hgb := getI_bounds hne
      have hgp := pointsL_cons hne
      rw [H.out.2.2.1.1] at hgb
      have HG := Lib.hid (get_any A n c lr wr H.out.2.2.1 H.out.2.2.2.2.2.1 H.out.2.2.2.1 H.out.2.2.2.2.1 (by omega))
      obtain ⟨g1, hg1⟩ : ∃ g, g = (getI lr).1 := ⟨_, rfl⟩
      obtain ⟨g2, hg2⟩ : ∃ g, g = (getI lr).2 := ⟨_, rfl⟩
      rw [← hg2] at hgb
      rw [← hg1, ← hg2] at HG hgp
      obtain ⟨m, hm⟩ := Int.eq_ofNat_of_zero_le (show 0 ≤ g2 by omega)
      subst hm
      have HSz := Lib.hid fun w => size_any g1 w
      clear hg1 hg2
      by_cases hz : (m : Int) = szI g1
      · rw [if_pos hz] at hgp
        have hneq : ((m : Int) != szI g1) = false := by simpa using hz
        obtain ⟨A', hcut, hrc, hblk⟩ := cut_from A n c m (by omega)
        have HBK := Lib.hid hblk
        have HGP := Lib.hid hgp
        have HRC := Lib.hid hrc
        have hnm : m ≤ n := by omega
        have hm1 : 1 ≤ m := by omega
        have h00 : ((0 : Int) < (n : Int)) := by omega
        clear hz hgp hrc hgb hblk
        go_wp2_with (first
          | (go_at_call 13; (with_reducible refine HG.out.mono ?_); rintro e w1 ⟨rfl, k, rfl⟩; obtain ⟨P', pc', w3, ha, how, hb3, hkp⟩ := appI_at (W := w) (w := (wr.drewN k).alloc (.cells #[.int .i64 g1] 3)) (own_alloc (w := wr.drewN k) H.out.1 _) (RowI.new .i64 (wr.drewN k) [g1] 3) (fun e => by cases e) (by omega) (by simp) ((below_drewN H.out.2.1 k).alloc H.out.2.1.size _); have HA := Lib.hid ha; have HW := Lib.hid (And.intro how (And.intro hb3 hkp)); clear ha how hb3 hkp)
          | (go_at_call 14; (with_reducible refine (HSz.out _).mono ?_); rintro e w2 ⟨rfl, rfl⟩)
          | (at_builtin; refine wpList_append_run rfl _ _ 34 rfl rfl _ _ _ _ rfl rfl HA.out ?_))
        have hA0 : A0.block < wr.heap.size ∧ RowI .u8 w3 A n lr := by
          obtain ⟨b, o, hA, hlt, _⟩ := H.out.2.2.1.2 h0
          have hb : b = A0.block := H.out.2.2.2.2.2.2.2.1 _ hA
          have hk := HW.out.2.2 A0.block (by rw [← hb]; simp; omega) H.out.2.2.2.2.2.2.2.2
          refine ⟨by omega, rowI_keep H.out.2.2.1 fun b' o' hA' hlt' => ?_⟩
          have hb' : b' = A0.block := H.out.2.2.2.2.2.2.2.1 _ hA'
          rw [hb', hk.2]
          exact Below.heap_alloc (wr.drewN k) _ _ (by rw [← hb]; exact hlt)
        refine ⟨⟨q + 1, pc', n - m, c - m, P', A', xs ++ [g1], lr.drop m, rfl, rfl, by omega, Lib.hid ⟨HW.out.1, HW.out.2.1, HRC.out w3 lr hA0.2 H.out.2.2.2.1, by have := H.out.2.2.2.1; omega, Nat.le_trans (Nat.sub_le _ _) H.out.2.2.2.2.1, fun x hx => H.out.2.2.2.2.2.1 x (List.mem_of_mem_drop hx), ?_, HBK.out _ H.out.2.2.2.2.2.2.2.1, (HW.out.2.2 A0.block (by simp; omega) H.out.2.2.2.2.2.2.2.2).1⟩⟩, ?_⟩
        · rw [H.out.2.2.2.2.2.2.1, HGP.out]
          rw [show ((m : Int)).toNat = m by simp]
          cases pointsL (lr.drop m) with
          | none => rfl
          | some r => simp
        · show n - m < n
          omega
      · rw [if_neg hz] at hgp
        have hneq : ((m : Int) != szI g1) = true := by simpa using hz
        have HGP := Lib.hid hgp
        have h00 : ((0 : Int) < (n : Int)) := by omega
        clear hz hgp hgb
        go_wp2_with (first
          | (go_at_call 13; (with_reducible refine HG.out.mono ?_); rintro e w1 ⟨rfl, k, rfl⟩)
          | (go_at_call 14; (with_reducible refine (HSz.out _).mono ?_); rintro e w2 ⟨rfl, rfl⟩))
        go_ret2
        refine ⟨below_drewN H.out.2.1 k, .inl ⟨rfl, ?_⟩⟩
        rw [H.out.2.2.2.2.2.2.1, HGP.out]; rfl
end Go.Proofs.YtegcebgoiocakaaDoor
/- A text's tree. -/
namespace Go.Proofs.YtegcebgoiocakaaDoor
open Go Go.RowKit

/-- A text's tree. -/
def parseT (s : ByteArray) : Option Wood := (pointsL (nums s)).bind treeL
end Go.Proofs.YtegcebgoiocakaaDoor
/- The program's Parse. -/
namespace Go.Proofs.YtegcebgoiocakaaDoor
open Go Go.RowKit
set_option linter.unusedVariables false
set_option maxRecDepth 20000

/-- What Parse answers. -/
def ParseV (s : ByteArray) (w : World) (e : Ending) (w' : World) : Prop :=
  Below w.heap.size w w' ∧ ((200 < s.size ∧ e = .returned (.tuple #[zeroNV.val, .int .i64 16])) ∨ (s.size ≤ 200 ∧ parseT s = none ∧ e = .returned (.tuple #[zeroNV.val, .int .i64 15])) ∨
    ∃ (x : NV) (n : Wood), s.size ≤ 200 ∧ parseT s = some n ∧ e = .returned (.tuple #[x.val, .int .i64 0]) ∧ NodesIn (fun b => w.heap.size ≤ b) w' [x] n)
/-- A room for an answer was made first; nothing up to it has turned. -/
def RoomB (w a : World) : Prop := Below w.heap.size w a ∧ w.heap.size < a.heap.size ∧ a.heap[w.heap.size]? = some (.cells #[.int .i64 0, .slice none 0 0, .int .i64 0, .int .i64 0, .slice none 0 0] 26 (0, 0))
section
variable {w a b : World}
theorem RoomB.lt (h : RoomB w a) : w.heap.size < a.heap.size := h.2.1
theorem RoomB.start (w : World) : RoomB w (w.alloc (.cells #[.int .i64 0, .slice none 0 0, .int .i64 0, .int .i64 0, .slice none 0 0] 26)) := ⟨(Below.refl _ _).alloc (Nat.le_refl _) _, by simp, heap_alloc_new w _⟩
theorem RoomB.next (h : RoomB w a) {B : Nat} (hb : Below B a b) (hB : w.heap.size < B) : RoomB w b := ⟨h.1.trans (hb.mono (Nat.le_of_lt hB)), Nat.lt_of_lt_of_le h.2.1 hb.size, (hb.block _ hB).trans h.2.2⟩
theorem RoomB.alloc (h : RoomB w a) (o : Obj) : RoomB w (a.alloc o) := h.next ((Below.refl _ _).alloc (Nat.le_refl _) o) h.2.1
theorem RoomB.put (h : RoomB w a) (v0 v1 v2 v3 v4 : Value) : Below w.heap.size w (put5 a w.heap.size v0 v1 v2 v3 v4) := h.1.trans (put5_below a (Nat.le_refl _) _ _ _ _ _)
theorem RoomB.facts (h : RoomB w a) : a.cell? ⟨w.heap.size, 0, none⟩ = some (.int .i64 0) ∧ a.cell? ⟨w.heap.size, 1, none⟩ = some (.slice none 0 0) ∧ a.cell? ⟨w.heap.size, 2, none⟩ = some (.int .i64 0) ∧ a.cell? ⟨w.heap.size, 3, none⟩ = some (.int .i64 0) ∧ a.cell? ⟨w.heap.size, 4, none⟩ = some (.slice none 0 0) ∧ ∀ j, a.frozen? ⟨w.heap.size, j, none⟩ = false := box_facts h.2.2
theorem RoomB.cells (h : RoomB w a) (v0 v1 v2 v3 v4 : Value) : (put5 a w.heap.size v0 v1 v2 v3 v4).cell? ⟨w.heap.size, 0, none⟩ = some v0 ∧ (put5 a w.heap.size v0 v1 v2 v3 v4).cell? ⟨w.heap.size, 1, none⟩ = some v1 ∧ (put5 a w.heap.size v0 v1 v2 v3 v4).cell? ⟨w.heap.size, 2, none⟩ = some v2 ∧ (put5 a w.heap.size v0 v1 v2 v3 v4).cell? ⟨w.heap.size, 3, none⟩ = some v3 ∧ (put5 a w.heap.size v0 v1 v2 v3 v4).cell? ⟨w.heap.size, 4, none⟩ = some v4 ∧ ∀ j, (put5 a w.heap.size v0 v1 v2 v3 v4).frozen? ⟨w.heap.size, j, none⟩ = false := box_facts (put5_heap h.2.2 _ _ _ _ _)
end
set_option maxHeartbeats 2000000 in
theorem parse_big (s : ByteArray) (w : World) (hs : 200 < s.size) :
    Calls Tryd.prog 5 #[.string s] w (ParseV s w) := by
  have HR := Lib.hid (RoomB.start w)
  have h2 : (200 : Int) < (s.size : Int) := by omega
  go_enter Tryd.func5, Tryd.ntmps5
  go_wp2
  (try simp only [Exit.inBlock, Exit.then])
  refine bodyPost_ret (v := .tuple #[zeroNV.val, .int .i64 16]) ?_ rfl ?_
  · rw [results_cell_tmp rfl]; go_simp
    rfl
  · exact ⟨HR.out.1, .inl ⟨hs, rfl⟩⟩
set_option maxHeartbeats 2000000 in
theorem parse_octets (s : ByteArray) (w : World) (hs : s.size ≤ 200) (hp : pointsL (nums s) = none) :
    Calls Tryd.prog 5 #[.string s] w (ParseV s w) := by
  have HR1 := Lib.hid (RoomB.start w)
  have h2 : ¬ (200 : Int) < (s.size : Int) := by omega
  have HD := Lib.hid fun w => show Calls Tryd.prog 9 #[.string s] w fun e w' => e = .returned (.tuple #[.slice none 0 0, .bool false]) ∧ Below w.heap.size w w' from (decode_any s w hs).mono fun e w' hv => by
    obtain ⟨hb, ⟨he, _⟩ | ⟨P, q, pc, xs, he, hx, ho⟩⟩ := hv
    · exact ⟨he, hb⟩
    · rw [hp] at hx; cases hx
  have HP := Lib.hid hp
  clear hp
  go_enter Tryd.func5, Tryd.ntmps5
  go_wp2_with (go_at_call 9; (with_reducible refine (HD.out _).mono ?_); rintro e w2 ⟨rfl, hb⟩; have HR2 := Lib.hid (HR1.out.next hb HR1.out.2.1); obtain ⟨q0, q1, q2, q3, q4, qf⟩ := HR2.out.facts; clear hb)
  obtain ⟨z0, z1, z2, z3, z4, _⟩ := HR2.out.cells (.int .i64 0) (.slice none 0 0) (.int .i64 0) (.int .i64 0) (.slice none 0 0)
  simp only [put5] at z0 z1 z2 z3 z4
  (try simp only [Exit.inBlock, Exit.then])
  refine bodyPost_ret (v := .tuple #[zeroNV.val, .int .i64 15]) ?_ rfl ?_
  · rw [results_cell_tmp rfl]; go_simp
    rfl
  · exact ⟨HR2.out.put _ _ _ _ _, .inr (.inl ⟨hs, by unfold parseT; rw [HP.out]; rfl, rfl⟩)⟩
theorem reader_pat (F : FacesS) {l : List Int} {w2 : World} {B : Nat} {P : Option Addr} {q pc : Nat} (hpt : ∀ x ∈ l, 0 ≤ x ∧ x ≤ 1114111) (hll : l.length ≤ 200) (ho : w2.ownsRow B 3 1 (.slice P q pc) q (l.map (.int .i64))) {k : Nat} (hk : k < w2.heap.size) :
    Calls Tryd.prog 10 #[.pointer (some ⟨w2.heap.size, 0, none⟩), .int .i64 0] (w2.alloc (.cells #[.slice P q pc] 38)) (PatV 0 w2.heap.size l (w2.alloc (.cells #[.slice P q pc] 38))) := by
  obtain ⟨hrow, h1, h2, h3, h4⟩ := ownI_row ho
  have hq : q ≤ 1000 := by have := hrow.1; omega
  refine pattern_any F w2.heap.size (l.length + 1) l (Nat.lt_succ_self _) 0 (by omega) _ ⟨P, q, pc, heap_alloc_new w2 _, hrow.alloc _, ⟨h1, h2⟩, hq, fun a ha => ?_, h3, hpt⟩
  rcases ho.2 with ⟨e, _⟩ | ⟨g, cap, cur, e, _, hg, _⟩
  · injection e with e _ _; rw [ha] at e; cases e
  · injection e with e _ _
    rw [ha] at e
    injection e with e
    subst e
    exact (Array.getElem?_eq_some_iff.1 hg).1
set_option maxHeartbeats 4000000 in
theorem parse_points (F : FacesS) (s : ByteArray) (w : World) (hs : s.size ≤ 200) {l : List Int} (hp : pointsL (nums s) = some l) :
    Calls Tryd.prog 5 #[.string s] w (ParseV s w) := by
  have HR1 := Lib.hid (RoomB.start w)
  have h2 : ¬ (200 : Int) < (s.size : Int) := by omega
  have hll : l.length ≤ 200 := by have := pointsL_len _ _ _ (Nat.le_refl _) hp; rw [nums_length] at this; omega
  have HD := Lib.hid fun w => show Calls Tryd.prog 9 #[.string s] w fun e w' => ∃ P q pc, e = .returned (.tuple #[.slice P q pc, .bool true]) ∧ w'.ownsRow w.heap.size 3 1 (.slice P q pc) q (l.map (.int .i64)) ∧ Below w.heap.size w w' from (decode_any s w hs).mono fun e w' hv => by
    obtain ⟨hb, ⟨_, hn⟩ | ⟨P, q, pc, xs, he, hx, ho⟩⟩ := hv
    · rw [hp] at hn; cases hn
    · rw [hp] at hx; injection hx with hx; subst hx
      exact ⟨P, q, pc, he, ho, hb⟩
  have HP := Lib.hid (And.intro hp (pointsL_is hp))
  clear hp
  go_enter Tryd.func5, Tryd.ntmps5
  go_wp2_with (first
    | (go_at_call 9; (with_reducible refine (HD.out _).mono ?_); rintro e w2 ⟨P, q, pc, rfl, ho, hb⟩; have HR2 := Lib.hid (HR1.out.next hb HR1.out.2.1); have HO := Lib.hid ho; clear ho hb)
    | (go_at_call 10; (with_reducible refine (reader_pat F HP.out.2 hll HO.out HR2.out.lt).mono ?_); rintro e w4 hv; rcases hv with ⟨x, rfl, hn, ho⟩ | ⟨x, n, l', rfl, hN, hlen, rfl | ⟨r, rfl⟩, hrun, ⟨A', n', c', hrd⟩, ho⟩ <;> (have HR4 := Lib.hid ((HR2.out.alloc (.cells #[.slice P q pc] 38)).next ho.1 HR2.out.2.1); have HR5 := Lib.hid (HR4.out.alloc (.cells #[.int .i64 x.op, .slice x.A x.ns x.cs, .int .i64 x.mn, .int .i64 x.mx, .slice x.D x.nk x.ck] 26)); obtain ⟨q0, q1, q2, q3, q4, qf⟩ := HR5.out.facts; (first | (have hn0 : n' = 0 := by simpa using hrd.row.1.symm); subst hn0; have c0 := (hrd.below ((Below.refl _ _).alloc (Nat.le_refl _) (.cells #[.int .i64 x.op, .slice x.A x.ns x.cs, .int .i64 x.mn, .int .i64 x.mx, .slice x.D x.nk x.ck] 26))).c0; have HH := Lib.hid (And.intro hN (And.intro hrun ho)); clear hN hrun ho hrd hlen | (have hn1 : (0 : Int) < (n' : Int) := by have := hrd.row.1; rw [List.length_cons] at this; omega); have c0 := (hrd.below ((Below.refl _ _).alloc (Nat.le_refl _) (.cells #[.int .i64 x.op, .slice x.A x.ns x.cs, .int .i64 x.mn, .int .i64 x.mx, .slice x.D x.nk x.ck] 26))).c0; have HH := Lib.hid (And.intro hN (And.intro hrun ho)); clear hN hrun ho hrd hlen | (clear ho)); simp only [NV.val])))
  · obtain ⟨z0, z1, z2, z3, z4, _⟩ := HR5.out.cells (.int .i64 0) (.slice none 0 0) (.int .i64 0) (.int .i64 0) (.slice none 0 0)
    simp only [put5] at z0 z1 z2 z3 z4
    (try simp only [Exit.inBlock, Exit.then])
    refine bodyPost_ret (v := .tuple #[zeroNV.val, .int .i64 15]) ?_ rfl ?_
    · rw [results_cell_tmp rfl]; go_simp
      rfl
    · exact ⟨HR5.out.put _ _ _ _ _, .inr (.inl ⟨hs, by unfold parseT; rw [HP.out.1]; exact hn [] rfl, rfl⟩)⟩
  · -- all was read
    focus
      obtain ⟨z0, z1, z2, z3, z4, _⟩ := HR5.out.cells (.int .i64 x.op) (.slice x.A x.ns x.cs) (.int .i64 x.mn) (.int .i64 x.mx) (.slice x.D x.nk x.ck)
      simp only [put5] at z0 z1 z2 z3 z4
      (try simp only [Exit.inBlock, Exit.then])
      refine bodyPost_ret (v := .tuple #[x.val, .int .i64 0]) ?_ rfl ?_
      · rw [results_cell_tmp rfl]; go_simp
        rfl
      · refine ⟨HR5.out.put _ _ _ _ _, .inr (.inr ⟨x, n, hs, ?_, rfl, ?_⟩)⟩
        · unfold parseT
          rw [HP.out.1]
          exact HH.out.2.1 [] rfl
        · refine HH.out.1.move (F' := fun b => w.heap.size ≤ b) (by simp) fun b hF hlt => ?_
          have hF : (w2.alloc (.cells #[.slice P q pc] 38)).heap.size ≤ b := hF
          have hsz : (w2.alloc (.cells #[.slice P q pc] 38)).heap.size = w2.heap.size + 1 := by simp
          have h1 := HR2.out.2.1
          exact ⟨by omega, (put5_other _ (by omega) _ _ _ _ _).trans (Below.heap_alloc _ _ _ hlt)⟩
  · -- something is left
    focus
      obtain ⟨z0, z1, z2, z3, z4, _⟩ := HR5.out.cells (.int .i64 0) (.slice none 0 0) (.int .i64 0) (.int .i64 0) (.slice none 0 0)
      simp only [put5] at z0 z1 z2 z3 z4
      (try simp only [Exit.inBlock, Exit.then])
      refine bodyPost_ret (v := .tuple #[zeroNV.val, .int .i64 15]) ?_ rfl ?_
      · rw [results_cell_tmp rfl]; go_simp
        rfl
      · refine ⟨HR5.out.put _ _ _ _ _, .inr (.inl ⟨hs, ?_, rfl⟩)⟩
        unfold parseT
        rw [HP.out.1]
        exact HH.out.2.1 [] rfl
/-- A text's tree, or why there is none. -/
theorem parse_any (F : FacesS) (s : ByteArray) (w : World) : Calls Tryd.prog 5 #[.string s] w (ParseV s w) := by
  by_cases hs : 200 < s.size
  · exact parse_big s w hs
  · rcases hp : pointsL (nums s) with _ | l
    · exact parse_octets s w (by omega) hp
    · exact parse_points F s w (by omega) hp
end Go.Proofs.YtegcebgoiocakaaDoor
