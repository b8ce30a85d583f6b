/- The program's Parse. -/
import Derived.Test.YtajnedkjmgjjbaaDoorM03
import Derived.Test.YtajnedkjmgjjbaaDoorM04
import Derived.Test.YtajnedkjmgjjbaaDoorM05
import Derived.Test.YtajnedkjmgjjbaaDoorM12
import Derived.Test.YtajnedkjmgjjbaaDoorM14
import Derived.Shelf.Strconv.AppendIntPublic10
import Derived.Test.YtajnedkjmgjjbaaDoorProg
import Derived.Laws.BytesArg
namespace Go.Proofs.YtajnedkjmgjjbaaDoor
open Go Go.RowKit
set_option linter.unusedVariables false
set_option maxRecDepth 20000

/-- A text's tree. -/
def parseT (s : ByteArray) : Option Wood := (pointsL (nums s)).bind treeL
/-- What Parse answers. -/
def ParseV (s : ByteArray) (w : World) (e : Ending) (w' : World) : Prop :=
  Below w.heap.size w w' ∧ ((200 < s.size ∧ e = .returned (.tuple #[zeroNV.val, .int .i64 16])) ∨ (s.size ≤ 200 ∧ parseT s = none ∧ e = .returned (.tuple #[zeroNV.val, .int .i64 15])) ∨
    ∃ (x : NV) (n : Wood), s.size ≤ 200 ∧ parseT s = some n ∧ e = .returned (.tuple #[x.val, .int .i64 0]) ∧ NodesIn (fun b => w.heap.size ≤ b) w' [x] n)
/-- A room for an answer was made first; nothing up to it has turned. -/
def RoomB (w a : World) : Prop := Below w.heap.size w a ∧ w.heap.size < a.heap.size ∧ a.heap[w.heap.size]? = some (.cells #[.int .i64 0, .slice none 0 0, .int .i64 0, .int .i64 0, .slice none 0 0] 26 (0, 0))
section
variable {w a b : World}
theorem RoomB.lt (h : RoomB w a) : w.heap.size < a.heap.size := h.2.1
theorem RoomB.start (w : World) : RoomB w (w.alloc (.cells #[.int .i64 0, .slice none 0 0, .int .i64 0, .int .i64 0, .slice none 0 0] 26)) := ⟨(Below.refl _ _).alloc (Nat.le_refl _) _, by simp, heap_alloc_new w _⟩
theorem RoomB.next (h : RoomB w a) {B : Nat} (hb : Below B a b) (hB : w.heap.size < B) : RoomB w b := ⟨h.1.trans (hb.mono (Nat.le_of_lt hB)), Nat.lt_of_lt_of_le h.2.1 hb.size, (hb.block _ hB).trans h.2.2⟩
theorem RoomB.alloc (h : RoomB w a) (o : Obj) : RoomB w (a.alloc o) := h.next ((Below.refl _ _).alloc (Nat.le_refl _) o) h.2.1
theorem RoomB.put (h : RoomB w a) (v0 v1 v2 v3 v4 : Value) : Below w.heap.size w (put5 a w.heap.size v0 v1 v2 v3 v4) := h.1.trans (put5_below a (Nat.le_refl _) _ _ _ _ _)
theorem RoomB.facts (h : RoomB w a) : a.cell? ⟨w.heap.size, 0, none⟩ = some (.int .i64 0) ∧ a.cell? ⟨w.heap.size, 1, none⟩ = some (.slice none 0 0) ∧ a.cell? ⟨w.heap.size, 2, none⟩ = some (.int .i64 0) ∧ a.cell? ⟨w.heap.size, 3, none⟩ = some (.int .i64 0) ∧ a.cell? ⟨w.heap.size, 4, none⟩ = some (.slice none 0 0) ∧ ∀ j, a.frozen? ⟨w.heap.size, j, none⟩ = false := box_facts h.2.2
theorem RoomB.cells (h : RoomB w a) (v0 v1 v2 v3 v4 : Value) : (put5 a w.heap.size v0 v1 v2 v3 v4).cell? ⟨w.heap.size, 0, none⟩ = some v0 ∧ (put5 a w.heap.size v0 v1 v2 v3 v4).cell? ⟨w.heap.size, 1, none⟩ = some v1 ∧ (put5 a w.heap.size v0 v1 v2 v3 v4).cell? ⟨w.heap.size, 2, none⟩ = some v2 ∧ (put5 a w.heap.size v0 v1 v2 v3 v4).cell? ⟨w.heap.size, 3, none⟩ = some v3 ∧ (put5 a w.heap.size v0 v1 v2 v3 v4).cell? ⟨w.heap.size, 4, none⟩ = some v4 ∧ ∀ j, (put5 a w.heap.size v0 v1 v2 v3 v4).frozen? ⟨w.heap.size, j, none⟩ = false := box_facts (put5_heap h.2.2 _ _ _ _ _)
end
set_option maxHeartbeats 2000000 in
theorem parse_big (s : ByteArray) (w : World) (hs : 200 < s.size) :
    Calls Tryd.prog 9 #[.string s] w (ParseV s w) := by
  have HR := Lib.hid (RoomB.start w)
  have h2 : (200 : Int) < (s.size : Int) := by omega
  go_enter Tryd.func9, Tryd.ntmps9
  go_wp2
  (try simp only [Exit.inBlock, Exit.then])
  refine bodyPost_ret (v := .tuple #[zeroNV.val, .int .i64 16]) ?_ rfl ?_
  · rw [results_cell_tmp rfl]; go_simp
    rfl
  · exact ⟨HR.out.1, .inl ⟨hs, rfl⟩⟩
set_option maxHeartbeats 2000000 in
theorem parse_octets (s : ByteArray) (w : World) (hs : s.size ≤ 200) (hp : pointsL (nums s) = none) :
    Calls Tryd.prog 9 #[.string s] w (ParseV s w) := by
  have HR1 := Lib.hid (RoomB.start w)
  have h2 : ¬ (200 : Int) < (s.size : Int) := by omega
  have HD := Lib.hid fun w => show Calls Tryd.prog 20 #[.string s] w fun e w' => e = .returned (.tuple #[.slice none 0 0, .bool false]) ∧ Below w.heap.size w w' from (decode_any s w hs).mono fun e w' hv => by
    obtain ⟨hb, ⟨he, _⟩ | ⟨P, q, pc, xs, he, hx, ho⟩⟩ := hv
    · exact ⟨he, hb⟩
    · rw [hp] at hx; cases hx
  have HP := Lib.hid hp
  clear hp
  go_enter Tryd.func9, Tryd.ntmps9
  go_wp2_with (go_at_call 20; (with_reducible refine (HD.out _).mono ?_); rintro e w2 ⟨rfl, hb⟩; have HR2 := Lib.hid (HR1.out.next hb HR1.out.2.1); obtain ⟨q0, q1, q2, q3, q4, qf⟩ := HR2.out.facts; clear hb)
  obtain ⟨z0, z1, z2, z3, z4, _⟩ := HR2.out.cells (.int .i64 0) (.slice none 0 0) (.int .i64 0) (.int .i64 0) (.slice none 0 0)
  simp only [put5] at z0 z1 z2 z3 z4
  (try simp only [Exit.inBlock, Exit.then])
  refine bodyPost_ret (v := .tuple #[zeroNV.val, .int .i64 15]) ?_ rfl ?_
  · rw [results_cell_tmp rfl]; go_simp
    rfl
  · exact ⟨HR2.out.put _ _ _ _ _, .inr (.inl ⟨hs, by unfold parseT; rw [HP.out]; rfl, rfl⟩)⟩
theorem reader_pat (F : FacesS) {l : List Int} {w2 : World} {B : Nat} {P : Option Addr} {q pc : Nat} (hpt : ∀ x ∈ l, 0 ≤ x ∧ x ≤ 1114111) (hll : l.length ≤ 200) (ho : w2.ownsRow B 3 1 (.slice P q pc) q (l.map (.int .i64))) {k : Nat} (hk : k < w2.heap.size) :
    Calls Tryd.prog 21 #[.pointer (some ⟨w2.heap.size, 0, none⟩), .int .i64 0] (w2.alloc (.cells #[.slice P q pc] 48)) (PatV 0 w2.heap.size l (w2.alloc (.cells #[.slice P q pc] 48))) := by
  obtain ⟨hrow, h1, h2, h3, h4⟩ := ownI_row ho
  have hq : q ≤ 1000 := by have := hrow.1; omega
  refine pattern_any F w2.heap.size (l.length + 1) l (Nat.lt_succ_self _) 0 (by omega) _ ⟨P, q, pc, heap_alloc_new w2 _, hrow.alloc _, ⟨h1, h2⟩, hq, fun a ha => ?_, h3, hpt⟩
  rcases ho.2 with ⟨e, _⟩ | ⟨g, cap, cur, e, _, hg, _⟩
  · injection e with e _ _; rw [ha] at e; cases e
  · injection e with e _ _
    rw [ha] at e
    injection e with e
    subst e
    exact (Array.getElem?_eq_some_iff.1 hg).1
set_option maxHeartbeats 4000000 in
theorem parse_points (F : FacesS) (s : ByteArray) (w : World) (hs : s.size ≤ 200) {l : List Int} (hp : pointsL (nums s) = some l) :
    Calls Tryd.prog 9 #[.string s] w (ParseV s w) := by
  have HR1 := Lib.hid (RoomB.start w)
  have h2 : ¬ (200 : Int) < (s.size : Int) := by omega
  have hll : l.length ≤ 200 := by have := pointsL_len _ _ _ (Nat.le_refl _) hp; rw [nums_length] at this; omega
  have HD := Lib.hid fun w => show Calls Tryd.prog 20 #[.string s] w fun e w' => ∃ P q pc, e = .returned (.tuple #[.slice P q pc, .bool true]) ∧ w'.ownsRow w.heap.size 3 1 (.slice P q pc) q (l.map (.int .i64)) ∧ Below w.heap.size w w' from (decode_any s w hs).mono fun e w' hv => by
    obtain ⟨hb, ⟨_, hn⟩ | ⟨P, q, pc, xs, he, hx, ho⟩⟩ := hv
    · rw [hp] at hn; cases hn
    · rw [hp] at hx; injection hx with hx; subst hx
      exact ⟨P, q, pc, he, ho, hb⟩
  have HP := Lib.hid (And.intro hp (pointsL_is hp))
  clear hp
  go_enter Tryd.func9, Tryd.ntmps9
  go_wp2_with (first
    | (go_at_call 20; (with_reducible refine (HD.out _).mono ?_); rintro e w2 ⟨P, q, pc, rfl, ho, hb⟩; have HR2 := Lib.hid (HR1.out.next hb HR1.out.2.1); have HO := Lib.hid ho; clear ho hb)
    | (go_at_call 21; (with_reducible refine (reader_pat F HP.out.2 hll HO.out HR2.out.lt).mono ?_); rintro e w4 hv; rcases hv with ⟨x, rfl, hn, ho⟩ | ⟨x, n, l', rfl, hN, hlen, rfl | ⟨r, rfl⟩, hrun, ⟨A', n', c', hrd⟩, ho⟩ <;> (have HR4 := Lib.hid ((HR2.out.alloc (.cells #[.slice P q pc] 48)).next ho.1 HR2.out.2.1); have HR5 := Lib.hid (HR4.out.alloc (.cells #[.int .i64 x.op, .slice x.A x.ns x.cs, .int .i64 x.mn, .int .i64 x.mx, .slice x.D x.nk x.ck] 26)); obtain ⟨q0, q1, q2, q3, q4, qf⟩ := HR5.out.facts; (first | (have hn0 : n' = 0 := by simpa using hrd.row.1.symm); subst hn0; have c0 := (hrd.below ((Below.refl _ _).alloc (Nat.le_refl _) (.cells #[.int .i64 x.op, .slice x.A x.ns x.cs, .int .i64 x.mn, .int .i64 x.mx, .slice x.D x.nk x.ck] 26))).c0; have HH := Lib.hid (And.intro hN (And.intro hrun ho)); clear hN hrun ho hrd hlen | (have hn1 : (0 : Int) < (n' : Int) := by have := hrd.row.1; rw [List.length_cons] at this; omega); have c0 := (hrd.below ((Below.refl _ _).alloc (Nat.le_refl _) (.cells #[.int .i64 x.op, .slice x.A x.ns x.cs, .int .i64 x.mn, .int .i64 x.mx, .slice x.D x.nk x.ck] 26))).c0; have HH := Lib.hid (And.intro hN (And.intro hrun ho)); clear hN hrun ho hrd hlen | (clear ho)); simp only [NV.val])))
  · obtain ⟨z0, z1, z2, z3, z4, _⟩ := HR5.out.cells (.int .i64 0) (.slice none 0 0) (.int .i64 0) (.int .i64 0) (.slice none 0 0)
    simp only [put5] at z0 z1 z2 z3 z4
    (try simp only [Exit.inBlock, Exit.then])
    refine bodyPost_ret (v := .tuple #[zeroNV.val, .int .i64 15]) ?_ rfl ?_
    · rw [results_cell_tmp rfl]; go_simp
      rfl
    · exact ⟨HR5.out.put _ _ _ _ _, .inr (.inl ⟨hs, by unfold parseT; rw [HP.out.1]; exact hn [] rfl, rfl⟩)⟩
  · -- all was read
    focus
      obtain ⟨z0, z1, z2, z3, z4, _⟩ := HR5.out.cells (.int .i64 x.op) (.slice x.A x.ns x.cs) (.int .i64 x.mn) (.int .i64 x.mx) (.slice x.D x.nk x.ck)
      simp only [put5] at z0 z1 z2 z3 z4
      (try simp only [Exit.inBlock, Exit.then])
      refine bodyPost_ret (v := .tuple #[x.val, .int .i64 0]) ?_ rfl ?_
      · rw [results_cell_tmp rfl]; go_simp
        rfl
      · refine ⟨HR5.out.put _ _ _ _ _, .inr (.inr ⟨x, n, hs, ?_, rfl, ?_⟩)⟩
        · unfold parseT
          rw [HP.out.1]
          exact HH.out.2.1 [] rfl
        · refine HH.out.1.move (F' := fun b => w.heap.size ≤ b) (by simp) fun b hF hlt => ?_
          have hF : (w2.alloc (.cells #[.slice P q pc] 48)).heap.size ≤ b := hF
          have hsz : (w2.alloc (.cells #[.slice P q pc] 48)).heap.size = w2.heap.size + 1 := by simp
          have h1 := HR2.out.2.1
          exact ⟨by omega, (put5_other _ (by omega) _ _ _ _ _).trans (Below.heap_alloc _ _ _ hlt)⟩
  · -- something is left
    focus
      obtain ⟨z0, z1, z2, z3, z4, _⟩ := HR5.out.cells (.int .i64 0) (.slice none 0 0) (.int .i64 0) (.int .i64 0) (.slice none 0 0)
      simp only [put5] at z0 z1 z2 z3 z4
      (try simp only [Exit.inBlock, Exit.then])
      refine bodyPost_ret (v := .tuple #[zeroNV.val, .int .i64 15]) ?_ rfl ?_
      · rw [results_cell_tmp rfl]; go_simp
        rfl
      · refine ⟨HR5.out.put _ _ _ _ _, .inr (.inl ⟨hs, ?_, rfl⟩)⟩
        unfold parseT
        rw [HP.out.1]
        exact HH.out.2.1 [] rfl
/-- A text's tree, or why there is none. -/
theorem parse_any (F : FacesS) (s : ByteArray) (w : World) : Calls Tryd.prog 9 #[.string s] w (ParseV s w) := by
  by_cases hs : 200 < s.size
  · exact parse_big s w hs
  · rcases hp : pointsL (nums s) with _ | l
    · exact parse_octets s w (by omega) hp
    · exact parse_points F s w (by omega) hp
end Go.Proofs.YtajnedkjmgjjbaaDoor
/- strconv.AppendInt at base 10: the library's own contract, laid at this program. -/
namespace Go.Proofs
open Go.Shelf
def Tryd.appendInt_ren : Go.Shelf.Ren := ⟨fun | 176 => 59 | 249 => 66 | 288 => 78 | 283 => 85 | 284 => 86 | 285 => 87 | 286 => 88 | 129 => 94 | 317 => 93 | 318 => 95 | 319 => 96 | 320 => 97 | 337 => 107 | 338 => 108 | n => n, fun | 37 => 39 | 2 => 2 | 3 => 3 | 53 => 75 | 4 => 4 | 9 => 9 | 171 => 106 | 0 => 0 | 173 => 109 | 212 => 114 | 51 => 115 | 5 => 5 | 20 => 20 | 213 => 116 | 46 => 87 | 232 => 131 | 233 => 132 | n => n, fun | 17 => 0 | 18 => 1 | 19 => 2 | n => n⟩
theorem Tryd.appendInt : Go.Proofs.LaysM.n176 Tryd.prog Tryd.appendInt_ren := {
  mixed := by kernel_rfl
  f129 := Tryd.func94.trans (congrArg some (by kernel_rfl))
  f176 := Tryd.func59.trans (congrArg some (by kernel_rfl))
  f249 := Tryd.func66.trans (congrArg some (by kernel_rfl))
  f283 := Tryd.func85.trans (congrArg some (by kernel_rfl))
  f284 := Tryd.func86.trans (congrArg some (by kernel_rfl))
  f285 := Tryd.func87.trans (congrArg some (by kernel_rfl))
  f286 := Tryd.func88.trans (congrArg some (by kernel_rfl))
  f288 := Tryd.func78.trans (congrArg some (by kernel_rfl))
  f317 := Tryd.func93.trans (congrArg some (by kernel_rfl))
  f318 := Tryd.func95.trans (congrArg some (by kernel_rfl))
  f319 := Tryd.func96.trans (congrArg some (by kernel_rfl))
  f320 := Tryd.func97.trans (congrArg some (by kernel_rfl))
  f337 := Tryd.func107.trans (congrArg some (by kernel_rfl))
  f338 := Tryd.func108.trans (congrArg some (by kernel_rfl))
  t0 := Tryd.underlying0
  a0 := Tryd.isAgg0
  z0 := Tryd.sizeOf0
  v0 := Tryd.zeroValue0
  t2 := Tryd.underlying2
  a2 := Tryd.isAgg2
  z2 := Tryd.sizeOf2
  v2 := Tryd.zeroValue2
  t3 := Tryd.underlying3
  a3 := Tryd.isAgg3
  z3 := Tryd.sizeOf3
  v3 := Tryd.zeroValue3
  t4 := Tryd.underlying4
  a4 := Tryd.isAgg4
  z4 := Tryd.sizeOf4
  v4 := Tryd.zeroValue4
  t5 := Tryd.underlying5
  a5 := Tryd.isAgg5
  z5 := Tryd.sizeOf5
  v5 := Tryd.zeroValue5
  t9 := Tryd.underlying9
  a9 := Tryd.isAgg9
  z9 := Tryd.sizeOf9
  v9 := Tryd.zeroValue9
  t20 := Tryd.underlying20
  a20 := Tryd.isAgg20
  z20 := Tryd.sizeOf20
  v20 := Tryd.zeroValue20
  t37 := Tryd.underlying39
  a37 := Tryd.isAgg39
  z37 := Tryd.sizeOf39
  v37 := Tryd.zeroValue39
  t46 := Tryd.underlying87
  a46 := Tryd.isAgg87
  z46 := Tryd.sizeOf87
  v46 := Tryd.zeroValue87
  t51 := Tryd.underlying115
  a51 := Tryd.isAgg115
  z51 := Tryd.sizeOf115
  v51 := Tryd.zeroValue115
  t53 := Tryd.underlying75
  a53 := Tryd.isAgg75
  z53 := Tryd.sizeOf75
  v53 := Tryd.zeroValue75
  t171 := Tryd.underlying106
  a171 := Tryd.isAgg106
  z171 := Tryd.sizeOf106
  v171 := Tryd.zeroValue106
  t173 := Tryd.underlying109
  a173 := Tryd.isAgg109
  z173 := Tryd.sizeOf109
  v173 := Tryd.zeroValue109
  t212 := Tryd.underlying114
  a212 := Tryd.isAgg114
  z212 := Tryd.sizeOf114
  v212 := Tryd.zeroValue114
  t213 := Tryd.underlying116
  a213 := Tryd.isAgg116
  z213 := Tryd.sizeOf116
  t232 := Tryd.underlying131
  a232 := Tryd.isAgg131
  z232 := Tryd.sizeOf131
  v232 := Tryd.zeroValue131
  t233 := Tryd.underlying132
  a233 := Tryd.isAgg132
  z233 := Tryd.sizeOf132
  v233 := Tryd.zeroValue132
  g17 := by kernel_rfl
  g18 := by kernel_rfl
  g19 := by kernel_rfl
  i0 := by kernel_rfl
  i2 := by kernel_rfl
  i3 := by kernel_rfl
  i4 := by kernel_rfl
  i5 := by kernel_rfl
  i9 := by kernel_rfl
  i20 := by kernel_rfl
  i37 := by kernel_rfl
  i46 := by kernel_rfl
  i51 := by kernel_rfl
  i53 := by kernel_rfl
  i171 := by kernel_rfl
  i173 := by kernel_rfl
  i212 := by kernel_rfl
  i232 := by kernel_rfl
  i233 := by kernel_rfl
  m17 := by kernel_rfl
  m18 := by kernel_rfl
  m19 := by kernel_rfl }

/-- A number's digits behind a row of octets. -/
theorem Tryd.append_int (B n : Nat) (i : Int) (h0 : -9223372036854775808 ≤ i) (h1 : i ≤ 9223372036854775807) (sv : Value) (xs : List Value) (w : World) (hown : w.ownsRow B 5 1 sv n xs) (hBw : B ≤ w.heap.size) (hlim : n + 21 ≤ 140737488355328)
    (htab : Lib.TabBelow Tryd.prog B w "internal/strconv.uint64pow10" .u64 Lib.pow10Tab) :
    Calls Tryd.prog 59 #[sv, .int .i64 i, .int .i64 10] w fun e w' => ∃ v', e = .returned v' ∧ w'.ownsRow B 5 1 v' (n + (Lib.itoa i).length) (xs ++ Lib.byteCells (Lib.itoa i)) ∧ RowKit.Below B w w' ∧ Lib.OthersKept 5 none w w' :=
  Any.strconv_AppendInt_10 Tryd.appendInt B n i h0 h1 sv xs w hown hBw hlim htab
end Go.Proofs
/- The document's digits of a number. -/
namespace Go.Proofs.YtajnedkjmgjjbaaDoor
open Go Go.RowKit
set_option linter.unusedVariables false
set_option maxRecDepth 20000

theorem strB_size (l : List UInt8) : (strB l).size = l.length := by simp [strB, ByteArray.size]
theorem strB_append (a b : List UInt8) : strB a ++ strB b = strB (a ++ b) := by
  apply ByteArray.ext
  simp [strB]
theorem nDigits_le {u : Nat} (h : u < 18446744073709551616) : Lib.nDigits u ≤ 20 := by
  rcases Nat.lt_or_ge 20 (Lib.nDigits u) with h1 | h1
  · have h2 : ∀ (k u : Nat), k < Lib.nDigits u → 10 ^ k ≤ u ∨ k = 0 := by
      intro k
      induction k with
      | zero => intro u _; exact .inr rfl
      | succ k ih =>
        intro u hk
        by_cases h : u < 10
        · rw [Lib.nDigits_small h] at hk; omega
        · rw [Lib.nDigits_big h] at hk
          rcases ih (u / 10) (by omega) with h3 | h3
          · left
            rw [Nat.pow_succ]
            omega
          · subst h3
            left
            simp
            omega
    rcases h2 20 u h1 with h3 | h3
    · have : (10 : Nat) ^ 20 = 100000000000000000000 := by decide
      omega
    · omega
  · exact h1
theorem decDigits_small {u : Nat} (h : u < 10) : Lib.decDigits u = [UInt8.ofNat (48 + u)] := by rw [Lib.decDigits, dif_pos h]
theorem decDigits_big {u : Nat} (h : ¬ u < 10) : Lib.decDigits u = Lib.decDigits (u / 10) ++ Lib.decDigits (u % 10) := by
  rw [Lib.decDigits, dif_neg h, decDigits_small (Nat.mod_lt u (by decide))]
theorem str1B (g : Nat) (u : Nat) (hu : u < 10) (w : World) (hg : g = w.heap.size) : (convert 39 9 (.slice (some ⟨g, 0, none⟩) 1 1)).run Tryd.prog (w.alloc (.cells #[.int .u8 (48 + (u : Int))] 5)) = .ok (.string (strB (Lib.decDigits u))) (w.alloc (.cells #[.int .u8 (48 + (u : Int))] 5)) := by
  subst hg
  have e : strB (Lib.decDigits u) = strOfNums [48 + (u : Int)] := by
    rw [decDigits_small hu]
    apply ByteArray.ext
    apply Array.toList_inj.1
    rw [strOfNums_data]
    simp [strB]
    apply UInt8.toNat_inj.1
    simp
    omega
  rw [e]
  exact run_convert_bytes_arg (P := Tryd.prog) _ 39 5 Tryd.underlying39 Tryd.underlying5 w.heap.size 0 1 1 [48 + (u : Int)] rfl (fun i hi => by
    obtain rfl : i = 0 := by omega
    simp) 9 Tryd.underlying9

theorem rdig_small (u : Nat) (hs : u < 10) (W : World) :
    Calls Tryd.prog 27 #[.int .i64 (u : Int)] W fun e w' => e = .returned (.string (strB (Lib.decDigits u))) ∧ Below W.heap.size W w' := by
  have n0 : ¬ (u : Int) < 0 := by omega
  have h1 := str1B W.heap.size u hs W rfl
  have hw : IntKind.i64.wrap (48 + (u : Int)) = 48 + u := by rw [IntKind.wrap_i64]; omega
  have hw2 : IntKind.u8.wrap (48 + (u : Int)) = 48 + u := by simp [IntKind.wrap, IntKind.bits, IntKind.signed]; omega
  have n1 : (u : Int) < 10 := by omega
  go_enter Tryd.func27, Tryd.ntmps27
  go_wp2
  go_ret
  exact ⟨rfl, by go_grown⟩

set_option maxHeartbeats 1000000 in
theorem rdig_nat (N : Nat) : ∀ (u : Nat), u ≤ N → u < 9223372036854775808 → ∀ (W : World),
    Calls Tryd.prog 27 #[.int .i64 (u : Int)] W fun e w' => e = .returned (.string (strB (Lib.decDigits u))) ∧ Below W.heap.size W w' := by
  induction N with
  | zero =>
    intro u hu h63 W
    exact rdig_small u (by omega) W
  | succ N ih =>
    intro u hu h63 W
    have n0 : ¬ (u : Int) < 0 := by omega
    by_cases hs : u < 10
    · exact rdig_small u hs W
    · have n1 : ¬ (u : Int) < 10 := by omega
      have H1 := Lib.hid (ih (u / 10) (by omega) (by omega))
      have H2 := Lib.hid (ih (u % 10) (by omega) (by omega))
      have q1 : (u : Int).tdiv 10 = ((u / 10 : Nat) : Int) := by rw [Int.tdiv_eq_ediv_of_nonneg (by omega)]; rfl
      have q2 : (u : Int).tmod 10 = ((u % 10 : Nat) : Int) := by rw [Int.tmod_eq_emod_of_nonneg (by omega)]; rfl
      obtain ⟨a, ha⟩ : ∃ a, a = u / 10 := ⟨_, rfl⟩
      obtain ⟨b, hb⟩ : ∃ b, b = u % 10 := ⟨_, rfl⟩
      rw [← ha] at H1 q1
      rw [← hb] at H2 q2
      have HD := Lib.hid (show Lib.decDigits u = Lib.decDigits a ++ Lib.decDigits b by rw [ha, hb]; exact decDigits_big hs)
      have s1 : (strB (Lib.decDigits a)).size ≤ 20 := by rw [strB_size, Lib.decDigits_length]; exact nDigits_le (by omega)
      have s2 : (strB (Lib.decDigits b)).size ≤ 20 := by rw [strB_size, Lib.decDigits_length]; exact nDigits_le (by omega)
      have s3 : ¬ 9223372036854775807 < (strB (Lib.decDigits a)).size + (strB (Lib.decDigits b)).size := by omega
      have a63 : a < 9223372036854775808 := by omega
      have b63 : b < 9223372036854775808 := by omega
      clear ih ha hb s1 s2 hs
      go_enter Tryd.func27, Tryd.ntmps27
      go_wp2_with (first
        | (go_at_call 27; (with_reducible refine (H1.out _).mono ?_); rintro e w1 ⟨rfl, hb1⟩; have HB1 := Lib.hid hb1; clear hb1)
        | (go_at_call 27; (with_reducible refine (H2.out _).mono ?_); rintro e w2 ⟨rfl, hb2⟩; have HB2 := Lib.hid hb2; clear hb2))
      go_ret
      exact ⟨by rw [HD.out, ← strB_append]; rfl, then_ HB1.out HB2.out⟩

set_option maxHeartbeats 1000000 in
/-- The document's digits. -/
theorem rdig_any (n : Int) (h0 : -9223372036854775808 ≤ n) (h1 : n ≤ 9223372036854775807) (W : World) :
    Calls Tryd.prog 27 #[.int .i64 n] W fun e w' => e = .returned (.string (digB n)) ∧ Below W.heap.size W w' := by
  by_cases hn : n < 0
  · obtain ⟨u, hu⟩ : ∃ u : Nat, n = -(u : Int) := ⟨n.natAbs, by omega⟩
    have HD := Lib.hid (show digB n = strB [45] ++ strB (Lib.decDigits u) by
      unfold digB Lib.itoa
      rw [if_pos hn, strB_append, show n.natAbs = u by omega]
      rfl)
    obtain ⟨V, hV⟩ : ∃ V : Int, V = 18446744073709551616 - u := ⟨_, rfl⟩
    have w1 : IntKind.u64.wrap n = V := by simp [IntKind.wrap, IntKind.bits, IntKind.signed]; omega
    have w2 : IntKind.u64.wrap (-V) = u := by simp [IntKind.wrap, IntKind.bits, IntKind.signed]; omega
    have u64 : u ≤ 9223372036854775808 := by omega
    clear hV hu
    by_cases h9 : u ≤ 9
    · have H1 := Lib.hid (rdig_small u (by omega))
      have g9 : ¬ (u : Int) > 9 := by omega
      have w3 : IntKind.i64.wrap (u : Int) = u := by rw [IntKind.wrap_i64]; omega
      have s1 : (strB (Lib.decDigits u)).size ≤ 20 := by rw [strB_size, Lib.decDigits_length]; exact nDigits_le (by omega)
      have s4 : ¬ 9223372036854775807 < 1 + (strB (Lib.decDigits u)).size := by omega
      clear s1
      go_enter Tryd.func27, Tryd.ntmps27
      go_wp2_with (go_at_call 27; (with_reducible refine (H1.out _).mono ?_); rintro e w1 ⟨rfl, hb1⟩; have HB1 := Lib.hid hb1; clear hb1)
      go_ret
      exact ⟨by rw [HD.out]; rfl, HB1.out⟩
    · have g9 : (u : Int) > 9 := by omega
      have q1 : (u : Int).tdiv 10 = ((u / 10 : Nat) : Int) := by rw [Int.tdiv_eq_ediv_of_nonneg (by omega)]; rfl
      have q2 : (u : Int).tmod 10 = ((u % 10 : Nat) : Int) := by rw [Int.tmod_eq_emod_of_nonneg (by omega)]; rfl
      have H1 := Lib.hid (rdig_nat (u / 10) (u / 10) (Nat.le_refl _) (by omega))
      have H2 := Lib.hid (rdig_small (u % 10) (by omega))
      obtain ⟨a, ha⟩ : ∃ a, a = u / 10 := ⟨_, rfl⟩
      obtain ⟨b, hb⟩ : ∃ b, b = u % 10 := ⟨_, rfl⟩
      rw [← ha] at H1 q1
      rw [← hb] at H2 q2
      have HU := Lib.hid (show Lib.decDigits u = Lib.decDigits a ++ Lib.decDigits b by rw [ha, hb]; exact decDigits_big (by omega))
      have s1 : (strB (Lib.decDigits a)).size ≤ 20 := by rw [strB_size, Lib.decDigits_length]; exact nDigits_le (by omega)
      have s2 : (strB (Lib.decDigits b)).size ≤ 20 := by rw [strB_size, Lib.decDigits_length]; exact nDigits_le (by omega)
      have s4 : ¬ 9223372036854775807 < 1 + (strB (Lib.decDigits a)).size := by omega
      have s5 : ¬ 9223372036854775807 < 1 + (strB (Lib.decDigits a)).size + (strB (Lib.decDigits b)).size := by omega
      have a63 : a < 9223372036854775808 := by omega
      have b63 : b < 9223372036854775808 := by omega
      clear s1 s2 ha hb
      go_enter Tryd.func27, Tryd.ntmps27
      go_wp2_with (first
        | (go_at_call 27; (with_reducible refine (H1.out _).mono ?_); rintro e w1 ⟨rfl, hb1⟩; have HB1 := Lib.hid hb1; clear hb1)
        | (go_at_call 27; (with_reducible refine (H2.out _).mono ?_); rintro e w2 ⟨rfl, hb2⟩; have HB2 := Lib.hid hb2; clear hb2))
      go_ret
      exact ⟨by rw [HD.out, HU.out, ← strB_append, ← ba_assoc]; rfl, then_ HB1.out HB2.out⟩
  · obtain ⟨u, rfl⟩ : ∃ u : Nat, n = (u : Int) := ⟨n.toNat, by omega⟩
    have e : digB (u : Int) = strB (Lib.decDigits u) := by unfold digB Lib.itoa; rw [if_neg hn]; rfl
    rw [e]
    exact rdig_nat u u (Nat.le_refl _) (by omega) W
end Go.Proofs.YtajnedkjmgjjbaaDoor
/- How long what is shown may be. -/
namespace Go.Proofs.YtajnedkjmgjjbaaDoor
open Go Go.RowKit
set_option linter.unusedVariables false

/-- A whole number of 64 bits. -/
def In64 (n : Int) : Prop := -9223372036854775808 ≤ n ∧ n ≤ 9223372036854775807
/-- All numbers of a tree are. -/
def WfW : Wood → Prop
  | .nil => True
  | .cons op s mn mx k x => (In64 op ∧ In64 mn ∧ In64 mx ∧ ∀ p ∈ s, In64 p.1 ∧ In64 p.2) ∧ WfW k ∧ WfW x
theorem wfW_nth : ∀ (a : Wood) (j : Nat), j < a.len → WfW a → WfW (a.nth j)
  | .nil, _, h, _ => by simp [Wood.len] at h
  | .cons .., 0, _, ⟨h1, h2, _⟩ => ⟨h1, h2, trivial⟩
  | .cons _ _ _ _ _ x, j + 1, h, ⟨_, _, h3⟩ => wfW_nth x j (by simp only [Wood.len] at h; omega) h3
theorem ba_size (a b : ByteArray) : (a ++ b).size = a.size + b.size := ByteArray.size_append
theorem digB_size {n : Int} (h : In64 n) : (digB n).size ≤ 21 := by
  unfold In64 at h
  have e : (digB n).size = (Lib.itoa n).length := strB_size _
  rw [e]
  unfold Lib.itoa
  split
  · rw [List.length_cons, Lib.decDigits_length]
    have := nDigits_le (u := n.natAbs) (by omega)
    omega
  · rw [Lib.decDigits_length]
    have := nDigits_le (u := n.toNat) (by omega)
    omega
theorem joinB_size (sep : ByteArray) : ∀ l : List ByteArray, (joinB sep l).size ≤ (l.map ByteArray.size).sum + sep.size * l.length
  | [] => Nat.zero_le _
  | [x] => by simp [joinB]
  | x :: y :: l => by
    have ih := joinB_size sep (y :: l)
    rw [joinB, ba_size, ba_size, List.map_cons, List.sum_cons, List.length_cons, Nat.mul_add, Nat.mul_one]
    omega
theorem rngB_size {p : Int × Int} (h : In64 p.1 ∧ In64 p.2) : (rngB p).size ≤ 43 := by
  have h1 := digB_size h.1
  have h2 := digB_size h.2
  unfold rngB
  split
  · omega
  · rw [ba_size, ba_size, strB_size]
    simp only [List.length_cons, List.length_nil]
    omega
theorem setB_size : ∀ {s : List (Int × Int)}, (∀ p ∈ s, In64 p.1 ∧ In64 p.2) → (setB s).size ≤ 44 * s.length := by
  intro s h
  have h1 := joinB_size (strB [32]) (s.map rngB)
  rw [strB_size, List.length_map] at h1
  have h2 : ((s.map rngB).map ByteArray.size).sum ≤ 43 * s.length := by
    clear h1
    induction s with
    | nil => exact Nat.le_refl _
    | cons p s ih =>
      have := rngB_size (h p (by simp))
      have := ih fun q hq => h q (List.mem_cons_of_mem _ hq)
      rw [List.map_cons, List.map_cons, List.sum_cons, List.length_cons]
      omega
  have e : setB s = joinB (strB [32]) (s.map rngB) := rfl
  rw [e]
  simp only [List.length_cons, List.length_nil] at h1
  omega
theorem nodeB_size {op : Int} {s : List (Int × Int)} {mn mx : Int} (K : ByteArray) (h1 : In64 mn) (h2 : In64 mx) (h3 : ∀ p ∈ s, In64 p.1 ∧ In64 p.2) : (nodeB op s mn mx K).size ≤ 56 + 44 * s.length + K.size := by
  have d1 := digB_size h1
  have d2 := digB_size h2
  have d3 := setB_size h3
  unfold nodeB
  (repeat' split) <;> simp only [ba_size, strB_size, List.length_cons, List.length_nil] <;> omega
theorem showW_size : ∀ {a : Wood}, WfW a → ((showW a).map ByteArray.size).sum + a.len ≤ 64 * heavy a
  | .nil, _ => Nat.le_refl _
  | .cons op s mn mx k x, ⟨⟨_, h1, h2, h3⟩, h4, h5⟩ => by
    have i1 := showW_size h4
    have i2 := showW_size h5
    have j1 := joinB_size (strB [44]) (showW k)
    rw [strB_size, showW_len] at j1
    simp only [List.length_cons, List.length_nil] at j1
    have n1 := nodeB_size (op := op) (joinB (strB [44]) (showW k)) h1 h2 h3
    simp only [showW, List.map_cons, List.sum_cons, Wood.len, heavy]
    omega
theorem kidsB_size {a : Wood} (h : WfW a) : (kidsB a).size ≤ 64 * heavy a := by
  have h1 := showW_size h
  have j1 := joinB_size (strB [44]) (showW a)
  rw [strB_size, showW_len] at j1
  simp only [List.length_cons, List.length_nil] at j1
  have e : kidsB a = joinB (strB [44]) (showW a) := rfl
  rw [e]
  omega
theorem wfW_take : ∀ (a : Wood) (j : Nat), WfW a → WfW (a.take j)
  | .nil, j, _ => by cases j <;> trivial
  | .cons .., 0, _ => trivial
  | .cons _ _ _ _ _ x, j + 1, ⟨h1, h2, h3⟩ => ⟨h1, h2, wfW_take x j h3⟩
theorem heavy_take : ∀ (a : Wood) (j : Nat), heavy (a.take j) ≤ heavy a
  | .nil, j => by cases j <;> exact Nat.le_refl _
  | .cons .., 0 => Nat.zero_le _
  | .cons _ _ _ _ _ x, j + 1 => by have := heavy_take x j; simp only [Wood.take, heavy]; omega
end Go.Proofs.YtajnedkjmgjjbaaDoor
