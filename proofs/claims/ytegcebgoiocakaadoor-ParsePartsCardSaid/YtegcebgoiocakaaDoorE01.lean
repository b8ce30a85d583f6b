/- ParseParts: the walk. -/
import Derived.Test.YtegcebgoiocakaaDoorA15
import Derived.Test.YtegcebgoiocakaaDoorA16
import Derived.Test.YtegcebgoiocakaaDoorA19
import Derived.Test.YtegcebgoiocakaaDoorB02
import Derived.Test.YtegcebgoiocakaaDoorC02
namespace Go.Proofs.YtegcebgoiocakaaDoor
open Go Go.RowKit
set_option linter.unusedVariables false
set_option maxRecDepth 20000

theorem partsLeaf (F : Nat → Prop) (w : World) (op : Int) : NodesIn F w [⟨op, none, 0, 0, 0, 0, none, 0, 0⟩] (leaf op []) := by
  exact ⟨⟨rfl, rfl, rfl⟩, rowF_nil F w, kids_nil F w, trivial⟩
theorem parts_then {w a b : World} (h1 : Below w.heap.size w a) (h2 : Below a.heap.size a b) : Below w.heap.size w b := h1.trans (h2.mono h1.size)
theorem NodesIn.belowP {F : Nat → Prop} {w w' : World} {xs : List NV} {T : Wood} (h : NodesIn F w xs T) (hb : Below w.heap.size w w') : NodesIn F w' xs T := h.move hb.size fun b hF hlt => ⟨hF, hb.block b hlt⟩
theorem nums_app (a b : ByteArray) : nums (a ++ b) = nums a ++ nums b := by simp [nums]
/-- A node in a box. -/
def Box (w : World) (r : Nat) (x : NV) : Prop := w.heap[r]? = some (.cells #[.int .i64 x.op, .slice x.A x.ns x.cs, .int .i64 x.mn, .int .i64 x.mx, .slice x.D x.nk x.ck] 26 (0, 0))
theorem Box.lt {w : World} {r : Nat} {x : NV} (h : Box w r x) : r < w.heap.size := (Array.getElem?_eq_some_iff.1 h).1
theorem Box.below {w w' : World} {r : Nat} {x : NV} (h : Box w r x) (hb : Below w.heap.size w w') : Box w' r x := (hb.block _ h.lt).trans h
theorem Box.new (w : World) (x : NV) : Box (w.alloc (.cells #[.int .i64 x.op, .slice x.A x.ns x.cs, .int .i64 x.mn, .int .i64 x.mx, .slice x.D x.nk x.ck] 26)) w.heap.size x := heap_alloc_new w _
theorem Box.up {w : World} {r : Nat} {x : NV} (h : Box w r x) (o : Obj) : Box (w.alloc o) r x := h.below ((Below.refl _ _).alloc (Nat.le_refl _) o)
theorem parts_step {w w' : World} {o : Obj} (hb : Below (w.alloc o).heap.size (w.alloc o) w') : Below w.heap.size w w' := parts_then ((Below.refl _ _).alloc (Nat.le_refl _) o) hb
/-- Two nodes in a row, under a node that is made. -/
theorem pair_node (op : Int) {w : World} {a b : NV} {S T : Wood} (hA : NodesIn (fun _ => True) w [a] S) (hB : NodesIn (fun _ => True) w [b] T) :
    NodeIn (fun _ => True) (w.alloc (.cells #[.int .i64 a.op, .slice a.A a.ns a.cs, .int .i64 a.mn, .int .i64 a.mx, .slice a.D a.nk a.ck, .int .i64 b.op, .slice b.A b.ns b.cs, .int .i64 b.mn, .int .i64 b.mx, .slice b.D b.nk b.ck] 26)) (.agg #[.int .i64 op, .slice none 0 0, .int .i64 0, .int .i64 0, .slice (some ⟨w.heap.size, 0, none⟩) 2 2]) (.cons op [] 0 0 (S.app T) .nil) := by
  have hnew := heap_alloc_new w (.cells #[.int .i64 a.op, .slice a.A a.ns a.cs, .int .i64 a.mn, .int .i64 a.mx, .slice a.D a.nk a.ck, .int .i64 b.op, .slice b.A b.ns b.cs, .int .i64 b.mn, .int .i64 b.mx, .slice b.D b.nk b.ck] 26)
  have hb : Below w.heap.size w (w.alloc (.cells #[.int .i64 a.op, .slice a.A a.ns a.cs, .int .i64 a.mn, .int .i64 a.mx, .slice a.D a.nk a.ck, .int .i64 b.op, .slice b.A b.ns b.cs, .int .i64 b.mn, .int .i64 b.mx, .slice b.D b.nk b.ck] 26)) := (Below.refl _ _).alloc (Nat.le_refl _) _
  have hAB := (hA.belowP hb).app (hB.belowP hb)
  refine ⟨op, [], 0, 0, S.app T, none, some ⟨w.heap.size, 0, none⟩, 0, 0, 2, 2, rfl, rfl, rowF_nil _ _, hAB.len, fun _ => ⟨w.heap.size, 0, rfl, trivial, by simp, hAB.wood fun j x hj i v hv => ?_⟩⟩
  rw [cell_of_row _ w.heap.size _ _ _ (0, 0) hnew]
  rcases j with _ | _ | j
  · have e : a = x := by simpa using hj
    subst e
    rcases i with _ | _ | _ | _ | _ | i
    · simpa [NV.cells, nodeV] using hv
    · simpa [NV.cells, nodeV] using hv
    · simpa [NV.cells, nodeV] using hv
    · simpa [NV.cells, nodeV] using hv
    · simpa [NV.cells, nodeV] using hv
    · simp [NV.cells, nodeV] at hv
  · have e : b = x := by simpa using hj
    subst e
    rcases i with _ | _ | _ | _ | _ | i
    · simpa [NV.cells, nodeV] using hv
    · simpa [NV.cells, nodeV] using hv
    · simpa [NV.cells, nodeV] using hv
    · simpa [NV.cells, nodeV] using hv
    · simpa [NV.cells, nodeV] using hv
    · simp [NV.cells, nodeV] at hv
  · simp at hj
theorem same_pair (op : Int) {w : World} {x a b : NV} {S T : Wood} (hX : NodesIn (fun _ => True) w [x] (.cons op [] 0 0 (S.app T) .nil)) (hA : NodesIn (fun _ => True) w [a] S) (hB : NodesIn (fun _ => True) w [b] T) (hh : heavy (.cons op [] 0 0 (S.app T) .nil) ≤ 1000000) :
    Calls Tryd.prog 7 #[.agg #[.int .i64 x.op, .slice x.A x.ns x.cs, .int .i64 x.mn, .int .i64 x.mx, .slice x.D x.nk x.ck], .agg #[.int .i64 op, .slice none 0 0, .int .i64 0, .int .i64 0, .slice (some ⟨w.heap.size, 0, none⟩) 2 2]] (w.alloc (.cells #[.int .i64 a.op, .slice a.A a.ns a.cs, .int .i64 a.mn, .int .i64 a.mx, .slice a.D a.nk a.ck, .int .i64 b.op, .slice b.A b.ns b.cs, .int .i64 b.mn, .int .i64 b.mx, .slice b.D b.nk b.ck] 26)) fun e w' => e = .returned (.bool true) ∧ Below w.heap.size w w' := by
  have hb : Below w.heap.size w (w.alloc (.cells #[.int .i64 a.op, .slice a.A a.ns a.cs, .int .i64 a.mn, .int .i64 a.mx, .slice a.D a.nk a.ck, .int .i64 b.op, .slice b.A b.ns b.cs, .int .i64 b.mn, .int .i64 b.mx, .slice b.D b.nk b.ck] 26)) := (Below.refl _ _).alloc (Nat.le_refl _) _
  have h := rsame_any _ _ (Nat.le_refl _) _ _ _ _ _ _ ((hX.belowP hb).one) (pair_node op hA hB) hh hh
  rw [Wood.same_refl] at h
  exact h.mono fun e w' hv => ⟨hv.1, parts_step hv.2⟩
theorem same_one {w : World} {z a : NV} {S : Wood} (hZ : NodesIn (fun _ => True) w [z] S) (hA : NodesIn (fun _ => True) w [a] S) (hh : heavy S ≤ 1000000) :
    Calls Tryd.prog 7 #[.agg #[.int .i64 z.op, .slice z.A z.ns z.cs, .int .i64 z.mn, .int .i64 z.mx, .slice z.D z.nk z.ck], .agg #[.int .i64 a.op, .slice a.A a.ns a.cs, .int .i64 a.mn, .int .i64 a.mx, .slice a.D a.nk a.ck]] w fun e w' => e = .returned (.bool true) ∧ Below w.heap.size w w' := by
  have h := rsame_any _ _ (Nat.le_refl _) _ _ _ _ _ _ hZ.one hA.one hh hh
  rw [Wood.same_refl] at h
  exact h
section
variable (s t : ByteArray) (w : World) (HA0 : ∀ w', Below w.heap.size w w' → Calls Tryd.prog 4 #[] w' fun e w2 => e = .returned (.bool true) ∧ Below w'.heap.size w' w2)
include HA0
set_option maxHeartbeats 2000000 in
theorem parts_out (h : 60 < s.size ∨ 60 < t.size) :
    Calls Tryd.prog 3 #[.string s, .string t] w fun e w' => e = .returned (.bool true) ∧ Below w.heap.size w w' := by
  have HA := Lib.hid (HA0 w (Below.refl _ _))
  have HM := Lib.hid HA0
  rcases (show 60 < s.size ∨ (¬ 60 < s.size ∧ 60 < t.size) by omega) with h1 | ⟨h1, h2⟩
  all_goals
    clear h
    clear HA0
    go_enter Tryd.func3, Tryd.ntmps3
    go_wp2_with (first
      | (go_at_call 4; (with_reducible refine HA.out.mono ?_); rintro e w1 ⟨rfl, hb⟩; have HB := Lib.hid hb; have HA2 := Lib.hid (HM.out w1 hb); clear hb)
      | (go_at_call 4; (with_reducible refine HA2.out.mono ?_); rintro e w2 ⟨rfl, hb⟩; have HB2 := Lib.hid hb; clear hb))
    go_ret
    exact ⟨rfl, parts_then HB.out HB2.out⟩
end
section
variable (FS : FacesS)
include FS
/-- What Parse answers: a tree, or the zero tree. -/
theorem parse_got (q : ByteArray) (hq : q.size ≤ 200) (w : World) :
    Calls Tryd.prog 5 #[.string q] w fun e w' => ∃ x : NV, e = .returned (.tuple #[x.val, .int .i64 (match parseT q with | some _ => 0 | none => 15)]) ∧ NodesIn (fun _ => True) w' [x] (match parseT q with | some T => T | none => zeroN) ∧ Below w.heap.size w w' := by
  refine (parse_any FS q w).mono fun e w' hv => ?_
  obtain ⟨hb, ⟨h1, rfl⟩ | ⟨h1, h2, rfl⟩ | ⟨x, n, h1, h2, rfl, hN⟩⟩ := hv
  · omega
  · rw [h2]; exact ⟨_, rfl, partsLeaf _ _ 0, hb⟩
  · rw [h2]; exact ⟨x, rfl, hN.move (Nat.le_refl _) (fun b _ _ => ⟨trivial, rfl⟩), hb⟩
variable (s t : ByteArray) (w : World) (HA0 : ∀ w', Below w.heap.size w w' → Calls Tryd.prog 4 #[] w' fun e w2 => e = .returned (.bool true) ∧ Below w'.heap.size w' w2)
include HA0
set_option maxHeartbeats 2000000 in
theorem parts_no (h1 : ¬ 60 < s.size) (h2 : ¬ 60 < t.size) (h : parseT s = none ∨ parseT t = none) :
    Calls Tryd.prog 3 #[.string s, .string t] w fun e w' => e = .returned (.bool true) ∧ Below w.heap.size w w' := by
  have HA := Lib.hid (HA0 w (Below.refl _ _))
  have HS := Lib.hid (parse_got FS s (by omega))
  have HT := Lib.hid (parse_got FS t (by omega))
  obtain ⟨E, hE⟩ : ∃ E : Int, E = (match parseT s with | some _ => 0 | none => 15) := ⟨_, rfl⟩
  obtain ⟨F, hF⟩ : ∃ F : Int, F = (match parseT t with | some _ => 0 | none => 15) := ⟨_, rfl⟩
  rw [← hE] at HS
  rw [← hF] at HT
  have hEF : E ≠ 0 ∨ (E = 0 ∧ F ≠ 0) := by
    rcases hs : parseT s with _ | S
    · left; rw [hE, hs]; decide
    · rcases ht : parseT t with _ | T
      · right; rw [hE, hF, hs, ht]; exact ⟨rfl, by decide⟩
      · rw [hs, ht] at h; rcases h with h | h <;> cases h
  clear HA0 FS hE hF h
  rcases hEF with h0 | ⟨rfl, h0⟩
  all_goals
    go_enter Tryd.func3, Tryd.ntmps3
    go_wp2_with (first
      | (go_at_call 4; (with_reducible refine HA.out.mono ?_); rintro e w1 ⟨rfl, hb⟩; have HB := Lib.hid hb; clear hb)
      | (go_at_call 5; (with_reducible refine (HS.out _).mono ?_); rintro e w2 ⟨x, rfl, hN, hb⟩; have HB2 := Lib.hid hb; clear hb hN; clear HS; simp only [NV.val])
      | (go_at_call 5; (with_reducible refine (HT.out _).mono ?_); rintro e w3 ⟨y, rfl, hN, hb⟩; have HB3 := Lib.hid hb; clear hb hN; simp only [NV.val]))
    go_ret
    have k2 := parts_then HB.out HB2.out
    have k3 := parts_then (k2.alloc k2.size (.cells #[.int .i64 x.op, .slice x.A x.ns x.cs, .int .i64 x.mn, .int .i64 x.mx, .slice x.D x.nk x.ck] 26)) HB3.out
    exact ⟨rfl, k3.alloc k3.size _⟩
end
end Go.Proofs.YtegcebgoiocakaaDoor
/- ParseParts: the walk, where all is met. -/
namespace Go.Proofs.YtegcebgoiocakaaDoor
open Go Go.RowKit
set_option linter.unusedVariables false
set_option maxRecDepth 20000

section
variable (FS : FacesS)
include FS
variable (s t : ByteArray) (w : World) (HA0 : ∀ w', Below w.heap.size w w' → Calls Tryd.prog 4 #[] w' fun e w2 => e = .returned (.bool true) ∧ Below w'.heap.size w' w2)
include HA0
set_option maxHeartbeats 4000000 in
theorem parts_all {S T : Wood} {xs ys : List Int} {ts us : List TokL} (h1 : ¬ 60 < s.size) (h2 : ¬ 60 < t.size) (hS : parseT s = some S) (hT : parseT t = some T) (pS : PatT s S xs ts) (pT : PatT t T ys us) (d1 : depT 0 ts ≤ 9) (d2 : depT 0 us ≤ 9) :
    Calls Tryd.prog 3 #[.string s, .string t] w fun e w' => e = .returned (.bool true) ∧ Below w.heap.size w w' := by
  have HA := Lib.hid (HA0 w (Below.refl _ _))
  have k1 : (⟨#[40]⟩ : ByteArray).size = 1 := rfl
  have k2 : (⟨#[41, 40]⟩ : ByteArray).size = 2 := rfl
  have k3 : (⟨#[41, 124, 40]⟩ : ByteArray).size = 3 := rfl
  have k4 : (⟨#[41]⟩ : ByteArray).size = 1 := rfl
  have hX := parse_two pS pT (q := (((⟨#[40]⟩ ++ s) ++ ⟨#[41, 40]⟩) ++ t) ++ ⟨#[41]⟩) (by rw [nums_app, nums_app, nums_app, nums_app]; show (([40] ++ nums s) ++ [41, 40]) ++ nums t ++ [41] = _; simp)
  have hY := parse_alt pS pT (q := (((⟨#[40]⟩ ++ s) ++ ⟨#[41, 124, 40]⟩) ++ t) ++ ⟨#[41]⟩) (by rw [nums_app, nums_app, nums_app, nums_app]; show (([40] ++ nums s) ++ [41, 124, 40]) ++ nums t ++ [41] = _; simp)
  have hZ := parse_one pS (q := (⟨#[40]⟩ ++ s) ++ ⟨#[41]⟩) (by rw [nums_app, nums_app]; show ([40] ++ nums s) ++ [41] = _; simp)
  rw [if_pos (by omega)] at hX hY hZ
  have hDS : deepL (nums s) 0 0 = (depT 0 ts : Int) := deep_pat pS
  have hDT : deepL (nums t) 0 0 = (depT 0 us : Int) := deep_pat pT
  have HDS := Lib.hid (fun W => deep_any s (by omega) W)
  have HDT := Lib.hid (fun W => deep_any t (by omega) W)
  rw [hDS] at HDS
  rw [hDT] at HDT
  have HS := Lib.hid (parse_got FS s (by omega))
  have HT := Lib.hid (parse_got FS t (by omega))
  have HX := Lib.hid (parse_got FS ((((⟨#[40]⟩ ++ s) ++ ⟨#[41, 40]⟩) ++ t) ++ ⟨#[41]⟩) (by rw [ba_size, ba_size, ba_size, ba_size]; omega))
  have HY := Lib.hid (parse_got FS ((((⟨#[40]⟩ ++ s) ++ ⟨#[41, 124, 40]⟩) ++ t) ++ ⟨#[41]⟩) (by rw [ba_size, ba_size, ba_size, ba_size]; omega))
  have HZ := Lib.hid (parse_got FS ((⟨#[40]⟩ ++ s) ++ ⟨#[41]⟩) (by rw [ba_size, ba_size]; omega))
  rw [hS] at HS
  rw [hT] at HT
  rw [hX] at HX
  rw [hY] at HY
  rw [hZ] at HZ
  dsimp only at HS HT HX HY HZ
  have HVX := Lib.hid (parseT_good (by rw [ba_size, ba_size, ba_size, ba_size]; omega) hX).2.2
  have HVY := Lib.hid (parseT_good (by rw [ba_size, ba_size, ba_size, ba_size]; omega) hY).2.2
  have HVZ := Lib.hid (parseT_good (by omega) hS).2.2
  have g1 : ¬ 9223372036854775807 < (⟨#[40]⟩ : ByteArray).size + s.size := by omega
  have g2 : ¬ 9223372036854775807 < (⟨#[40]⟩ ++ s : ByteArray).size + (⟨#[41, 40]⟩ : ByteArray).size := by rw [ba_size]; omega
  have g3 : ¬ 9223372036854775807 < ((⟨#[40]⟩ ++ s) ++ ⟨#[41, 40]⟩ : ByteArray).size + t.size := by rw [ba_size, ba_size]; omega
  have g4 : ¬ 9223372036854775807 < (((⟨#[40]⟩ ++ s) ++ ⟨#[41, 40]⟩) ++ t : ByteArray).size + (⟨#[41]⟩ : ByteArray).size := by rw [ba_size, ba_size, ba_size]; omega
  have g5 : ¬ 9223372036854775807 < (⟨#[40]⟩ ++ s : ByteArray).size + (⟨#[41, 124, 40]⟩ : ByteArray).size := by rw [ba_size]; omega
  have g6 : ¬ 9223372036854775807 < ((⟨#[40]⟩ ++ s) ++ ⟨#[41, 124, 40]⟩ : ByteArray).size + t.size := by rw [ba_size, ba_size]; omega
  have g7 : ¬ 9223372036854775807 < (((⟨#[40]⟩ ++ s) ++ ⟨#[41, 124, 40]⟩) ++ t : ByteArray).size + (⟨#[41]⟩ : ByteArray).size := by rw [ba_size, ba_size, ba_size]; omega
  have g8 : ¬ 9223372036854775807 < (⟨#[40]⟩ ++ s : ByteArray).size + (⟨#[41]⟩ : ByteArray).size := by rw [ba_size]; omega
  obtain ⟨D1, hD1⟩ : ∃ D : Nat, D = depT 0 ts := ⟨_, rfl⟩
  obtain ⟨D2, hD2⟩ : ∃ D : Nat, D = depT 0 us := ⟨_, rfl⟩
  rw [← hD1] at HDS d1
  rw [← hD2] at HDT d2
  clear HA0 FS k1 k2 k3 k4 hX hY hZ hDS hDT pS pT hD1 hD2 hS hT
  go_enter Tryd.func3, Tryd.ntmps3
  go_wp2_with (first
      | (go_at_call 4; (with_reducible refine HA.out.mono ?_); rintro e w1 ⟨rfl, hb⟩; have HB := Lib.hid hb; clear hb)
      | (go_at_call 5; (with_reducible refine (HS.out _).mono ?_); rintro e w2 ⟨a, rfl, hN, hb⟩; have HBA := Lib.hid hb; have HNA := Lib.hid hN; clear hb hN; clear HS; simp only [NV.val])
      | (go_at_call 5; (with_reducible refine (HT.out _).mono ?_); rintro e w3 ⟨b, rfl, hN, hb⟩; have HBB := Lib.hid hb; have HNB := Lib.hid hN; clear hb hN; clear HT; simp only [NV.val])
      | (go_at_call 5; (with_reducible refine (HX.out _).mono ?_); rintro e w4 ⟨x, rfl, hN, hb⟩; have HBX := Lib.hid hb; have HNX := Lib.hid hN; clear hb hN; clear HX; simp only [NV.val])
      | (go_at_call 5; (with_reducible refine (HY.out _).mono ?_); rintro e w5 ⟨y, rfl, hN, hb⟩; have HBY := Lib.hid hb; have HNY := Lib.hid hN; clear hb hN; clear HY; simp only [NV.val])
      | (go_at_call 5; (with_reducible refine (HZ.out _).mono ?_); rintro e w6 ⟨z, rfl, hN, hb⟩; have HBZ := Lib.hid hb; have HNZ := Lib.hid hN; clear hb hN; clear HZ; simp only [NV.val])
      | (go_at_call 6; (with_reducible refine (HDT.out _).mono ?_); rintro e w7 ⟨rfl, hb⟩; have HB7 := Lib.hid hb; clear hb HDT)
      | (go_at_call 6; (with_reducible refine (HDS.out _).mono ?_); rintro e w8 ⟨rfl, hb⟩; have HB8 := Lib.hid hb; have HZ8 := Lib.hid ((((Box.new w6 z).below HB7.out).below hb)); have HY8 := Lib.hid ((((((Box.new w5 y).below HBZ.out).up (.cells #[.int .i64 z.op, .slice z.A z.ns z.cs, .int .i64 z.mn, .int .i64 z.mx, .slice z.D z.nk z.ck] 26)).below HB7.out).below hb)); have HX8 := Lib.hid ((((((((Box.new w4 x).below HBY.out).up (.cells #[.int .i64 y.op, .slice y.A y.ns y.cs, .int .i64 y.mn, .int .i64 y.mx, .slice y.D y.nk y.ck] 26)).below HBZ.out).up (.cells #[.int .i64 z.op, .slice z.A z.ns z.cs, .int .i64 z.mn, .int .i64 z.mx, .slice z.D z.nk z.ck] 26)).below HB7.out).below hb)); have HB8b := Lib.hid ((((((((((Box.new w3 b).below HBX.out).up (.cells #[.int .i64 x.op, .slice x.A x.ns x.cs, .int .i64 x.mn, .int .i64 x.mx, .slice x.D x.nk x.ck] 26)).below HBY.out).up (.cells #[.int .i64 y.op, .slice y.A y.ns y.cs, .int .i64 y.mn, .int .i64 y.mx, .slice y.D y.nk y.ck] 26)).below HBZ.out).up (.cells #[.int .i64 z.op, .slice z.A z.ns z.cs, .int .i64 z.mn, .int .i64 z.mx, .slice z.D z.nk z.ck] 26)).below HB7.out).below hb)); have HA8 := Lib.hid ((((((((((((Box.new w2 a).below HBB.out).up (.cells #[.int .i64 b.op, .slice b.A b.ns b.cs, .int .i64 b.mn, .int .i64 b.mx, .slice b.D b.nk b.ck] 26)).below HBX.out).up (.cells #[.int .i64 x.op, .slice x.A x.ns x.cs, .int .i64 x.mn, .int .i64 x.mx, .slice x.D x.nk x.ck] 26)).below HBY.out).up (.cells #[.int .i64 y.op, .slice y.A y.ns y.cs, .int .i64 y.mn, .int .i64 y.mx, .slice y.D y.nk y.ck] 26)).below HBZ.out).up (.cells #[.int .i64 z.op, .slice z.A z.ns z.cs, .int .i64 z.mn, .int .i64 z.mx, .slice z.D z.nk z.ck] 26)).below HB7.out).below hb)); have fx := box_facts HX8.out; have x0 := fx.1; have x1 := fx.2.1; have x2 := fx.2.2.1; have x3 := fx.2.2.2.1; have x4 := fx.2.2.2.2.1; clear fx; have fy := box_facts HY8.out; have y0 := fy.1; have y1 := fy.2.1; have y2 := fy.2.2.1; have y3 := fy.2.2.2.1; have y4 := fy.2.2.2.2.1; clear fy; have fz := box_facts HZ8.out; have z0 := fz.1; have z1 := fz.2.1; have z2 := fz.2.2.1; have z3 := fz.2.2.2.1; have z4 := fz.2.2.2.2.1; clear fz; have fa := box_facts HA8.out; have a0 := fa.1; have a1 := fa.2.1; have a2 := fa.2.2.1; have a3 := fa.2.2.2.1; have a4 := fa.2.2.2.2.1; clear fa; have fb := box_facts HB8b.out; have b0 := fb.1; have b1 := fb.2.1; have b2 := fb.2.2.1; have b3 := fb.2.2.2.1; have b4 := fb.2.2.2.2.1; clear fb; have c68 := parts_then (parts_step HB7.out) hb; have c58 := parts_then (parts_step HBZ.out) c68; have c48 := parts_then (parts_step HBY.out) c58; have c38 := parts_then (parts_step HBX.out) c48; have c28 := parts_then (parts_step HBB.out) c38; have NX8 := Lib.hid (HNX.out.belowP c48); have NY8 := Lib.hid (HNY.out.belowP c58); have NZ8 := Lib.hid (HNZ.out.belowP c68); have NA8 := Lib.hid (HNA.out.belowP c28); have NB8 := Lib.hid (HNB.out.belowP c38); have C8 := Lib.hid (parts_then HB.out (parts_then HBA.out c28)); clear c68 c58 c48 c38 c28; have SX := Lib.hid (same_pair 4 NX8.out NA8.out NB8.out HVX.out); clear hb HDS)
      | (go_at_call 7; (with_reducible refine SX.out.mono ?_); rintro e w9 ⟨rfl, hb⟩; clear x0 x1 x2 x3 x4 y0 y1 y2 y3 y4 z0 z1 z2 z3 z4 a0 a1 a2 a3 a4 b0 b1 b2 b3 b4; have HY9 := Lib.hid (HY8.out.below hb); have HZ9 := Lib.hid (HZ8.out.below hb); have HA9 := Lib.hid (HA8.out.below hb); have HB9 := Lib.hid (HB8b.out.below hb); have fy := box_facts HY9.out; have y0 := fy.1; have y1 := fy.2.1; have y2 := fy.2.2.1; have y3 := fy.2.2.2.1; have y4 := fy.2.2.2.2.1; clear fy; have fz := box_facts HZ9.out; have z0 := fz.1; have z1 := fz.2.1; have z2 := fz.2.2.1; have z3 := fz.2.2.2.1; have z4 := fz.2.2.2.2.1; clear fz; have fa := box_facts HA9.out; have a0 := fa.1; have a1 := fa.2.1; have a2 := fa.2.2.1; have a3 := fa.2.2.2.1; have a4 := fa.2.2.2.2.1; clear fa; have fb := box_facts HB9.out; have b0 := fb.1; have b1 := fb.2.1; have b2 := fb.2.2.1; have b3 := fb.2.2.2.1; have b4 := fb.2.2.2.2.1; clear fb; have NY9 := Lib.hid (NY8.out.belowP hb); have NZ9 := Lib.hid (NZ8.out.belowP hb); have NA9 := Lib.hid (NA8.out.belowP hb); have NB9 := Lib.hid (NB8.out.belowP hb); have C9 := Lib.hid (parts_then C8.out hb); have SY := Lib.hid (same_pair 5 NY9.out NA9.out NB9.out HVY.out); clear hb SX)
      | (go_at_call 7; (with_reducible refine SY.out.mono ?_); rintro e w10 ⟨rfl, hb⟩; clear y0 y1 y2 y3 y4 z0 z1 z2 z3 z4 a0 a1 a2 a3 a4 b0 b1 b2 b3 b4; have HZ10 := Lib.hid (HZ9.out.below hb); have HA10 := Lib.hid (HA9.out.below hb); have fz := box_facts HZ10.out; have z0 := fz.1; have z1 := fz.2.1; have z2 := fz.2.2.1; have z3 := fz.2.2.2.1; have z4 := fz.2.2.2.2.1; clear fz; have fa := box_facts HA10.out; have a0 := fa.1; have a1 := fa.2.1; have a2 := fa.2.2.1; have a3 := fa.2.2.2.1; have a4 := fa.2.2.2.2.1; clear fa; have NZ10 := Lib.hid (NZ9.out.belowP hb); have NA10 := Lib.hid (NA9.out.belowP hb); have C10 := Lib.hid (parts_then C9.out hb); have SZ := Lib.hid (same_one NZ10.out NA10.out HVZ.out); clear hb SY)
      | (go_at_call 7; (with_reducible refine SZ.out.mono ?_); rintro e w11 ⟨rfl, hb⟩; have C11 := Lib.hid (parts_then C10.out hb); clear hb SZ))
  go_ret
  exact ⟨rfl, C11.out⟩
end
end Go.Proofs.YtegcebgoiocakaaDoor
/- ParseParts: the walk, where it is too deep. -/
namespace Go.Proofs.YtegcebgoiocakaaDoor
open Go Go.RowKit
set_option linter.unusedVariables false
set_option maxRecDepth 20000

section
variable (FS : FacesS)
include FS
variable (s t : ByteArray) (w : World) (HA0 : ∀ w', Below w.heap.size w w' → Calls Tryd.prog 4 #[] w' fun e w2 => e = .returned (.bool true) ∧ Below w'.heap.size w' w2)
include HA0
set_option maxHeartbeats 4000000 in
theorem parts_right {S T : Wood} {xs ys : List Int} {ts us : List TokL} (h1 : ¬ 60 < s.size) (h2 : ¬ 60 < t.size) (hS : parseT s = some S) (hT : parseT t = some T) (pS : PatT s S xs ts) (pT : PatT t T ys us) (d1 : depT 0 ts ≤ 9) (d2 : ¬ depT 0 us ≤ 9) :
    Calls Tryd.prog 3 #[.string s, .string t] w fun e w' => e = .returned (.bool true) ∧ Below w.heap.size w w' := by
  have HA := Lib.hid (HA0 w (Below.refl _ _))
  have k1 : (⟨#[40]⟩ : ByteArray).size = 1 := rfl
  have k2 : (⟨#[41, 40]⟩ : ByteArray).size = 2 := rfl
  have k3 : (⟨#[41, 124, 40]⟩ : ByteArray).size = 3 := rfl
  have k4 : (⟨#[41]⟩ : ByteArray).size = 1 := rfl
  have hX := parse_two pS pT (q := (((⟨#[40]⟩ ++ s) ++ ⟨#[41, 40]⟩) ++ t) ++ ⟨#[41]⟩) (by rw [nums_app, nums_app, nums_app, nums_app]; show (([40] ++ nums s) ++ [41, 40]) ++ nums t ++ [41] = _; simp)
  have hY := parse_alt pS pT (q := (((⟨#[40]⟩ ++ s) ++ ⟨#[41, 124, 40]⟩) ++ t) ++ ⟨#[41]⟩) (by rw [nums_app, nums_app, nums_app, nums_app]; show (([40] ++ nums s) ++ [41, 124, 40]) ++ nums t ++ [41] = _; simp)
  have hZ := parse_one pS (q := (⟨#[40]⟩ ++ s) ++ ⟨#[41]⟩) (by rw [nums_app, nums_app]; show ([40] ++ nums s) ++ [41] = _; simp)
  rw [if_neg (by omega)] at hX hY
  rw [if_pos (by omega)] at hZ
  have hDS : deepL (nums s) 0 0 = (depT 0 ts : Int) := deep_pat pS
  have hDT : deepL (nums t) 0 0 = (depT 0 us : Int) := deep_pat pT
  have HDS := Lib.hid (fun W => deep_any s (by omega) W)
  have HDT := Lib.hid (fun W => deep_any t (by omega) W)
  rw [hDS] at HDS
  rw [hDT] at HDT
  have HS := Lib.hid (parse_got FS s (by omega))
  have HT := Lib.hid (parse_got FS t (by omega))
  have HX := Lib.hid (parse_got FS ((((⟨#[40]⟩ ++ s) ++ ⟨#[41, 40]⟩) ++ t) ++ ⟨#[41]⟩) (by rw [ba_size, ba_size, ba_size, ba_size]; omega))
  have HY := Lib.hid (parse_got FS ((((⟨#[40]⟩ ++ s) ++ ⟨#[41, 124, 40]⟩) ++ t) ++ ⟨#[41]⟩) (by rw [ba_size, ba_size, ba_size, ba_size]; omega))
  have HZ := Lib.hid (parse_got FS ((⟨#[40]⟩ ++ s) ++ ⟨#[41]⟩) (by rw [ba_size, ba_size]; omega))
  rw [hS] at HS
  rw [hT] at HT
  rw [hX] at HX
  rw [hY] at HY
  rw [hZ] at HZ
  dsimp only at HS HT HX HY HZ
  have HVZ := Lib.hid (parseT_good (by omega) hS).2.2
  have g1 : ¬ 9223372036854775807 < (⟨#[40]⟩ : ByteArray).size + s.size := by omega
  have g2 : ¬ 9223372036854775807 < (⟨#[40]⟩ ++ s : ByteArray).size + (⟨#[41, 40]⟩ : ByteArray).size := by rw [ba_size]; omega
  have g3 : ¬ 9223372036854775807 < ((⟨#[40]⟩ ++ s) ++ ⟨#[41, 40]⟩ : ByteArray).size + t.size := by rw [ba_size, ba_size]; omega
  have g4 : ¬ 9223372036854775807 < (((⟨#[40]⟩ ++ s) ++ ⟨#[41, 40]⟩) ++ t : ByteArray).size + (⟨#[41]⟩ : ByteArray).size := by rw [ba_size, ba_size, ba_size]; omega
  have g5 : ¬ 9223372036854775807 < (⟨#[40]⟩ ++ s : ByteArray).size + (⟨#[41, 124, 40]⟩ : ByteArray).size := by rw [ba_size]; omega
  have g6 : ¬ 9223372036854775807 < ((⟨#[40]⟩ ++ s) ++ ⟨#[41, 124, 40]⟩ : ByteArray).size + t.size := by rw [ba_size, ba_size]; omega
  have g7 : ¬ 9223372036854775807 < (((⟨#[40]⟩ ++ s) ++ ⟨#[41, 124, 40]⟩) ++ t : ByteArray).size + (⟨#[41]⟩ : ByteArray).size := by rw [ba_size, ba_size, ba_size]; omega
  have g8 : ¬ 9223372036854775807 < (⟨#[40]⟩ ++ s : ByteArray).size + (⟨#[41]⟩ : ByteArray).size := by rw [ba_size]; omega
  obtain ⟨D1, hD1⟩ : ∃ D : Nat, D = depT 0 ts := ⟨_, rfl⟩
  obtain ⟨D2, hD2⟩ : ∃ D : Nat, D = depT 0 us := ⟨_, rfl⟩
  rw [← hD1] at HDS d1
  rw [← hD2] at HDT d2
  clear HA0 FS k1 k2 k3 k4 hX hY hZ hDS hDT pS pT hD1 hD2 hS hT
  go_enter Tryd.func3, Tryd.ntmps3
  go_wp2_with (first
      | (go_at_call 4; (with_reducible refine HA.out.mono ?_); rintro e w1 ⟨rfl, hb⟩; have HB := Lib.hid hb; clear hb)
      | (go_at_call 5; (with_reducible refine (HS.out _).mono ?_); rintro e w2 ⟨a, rfl, hN, hb⟩; have HBA := Lib.hid hb; have HNA := Lib.hid hN; clear hb hN; clear HS; simp only [NV.val])
      | (go_at_call 5; (with_reducible refine (HT.out _).mono ?_); rintro e w3 ⟨b, rfl, hN, hb⟩; have HBB := Lib.hid hb; have HNB := Lib.hid hN; clear hb hN; clear HT; simp only [NV.val])
      | (go_at_call 5; (with_reducible refine (HX.out _).mono ?_); rintro e w4 ⟨x, rfl, hN, hb⟩; have HBX := Lib.hid hb; have HNX := Lib.hid hN; clear hb hN; clear HX; simp only [NV.val])
      | (go_at_call 5; (with_reducible refine (HY.out _).mono ?_); rintro e w5 ⟨y, rfl, hN, hb⟩; have HBY := Lib.hid hb; have HNY := Lib.hid hN; clear hb hN; clear HY; simp only [NV.val])
      | (go_at_call 5; (with_reducible refine (HZ.out _).mono ?_); rintro e w6 ⟨z, rfl, hN, hb⟩; have HBZ := Lib.hid hb; have HNZ := Lib.hid hN; clear hb hN; clear HZ; simp only [NV.val])
      | (go_at_call 6; (with_reducible refine (HDT.out _).mono ?_); rintro e w7 ⟨rfl, hb⟩; have HB7 := Lib.hid hb; clear hb HDT)
      | (go_at_call 6; (with_reducible refine (HDS.out _).mono ?_); rintro e w8 ⟨rfl, hb⟩; have HZ8 := Lib.hid (((Box.new w6 z).below HB7.out).below hb); have HA8 := Lib.hid ((((((((((((Box.new w2 a).below HBB.out).up (.cells #[.int .i64 b.op, .slice b.A b.ns b.cs, .int .i64 b.mn, .int .i64 b.mx, .slice b.D b.nk b.ck] 26)).below HBX.out).up (.cells #[.int .i64 x.op, .slice x.A x.ns x.cs, .int .i64 x.mn, .int .i64 x.mx, .slice x.D x.nk x.ck] 26)).below HBY.out).up (.cells #[.int .i64 y.op, .slice y.A y.ns y.cs, .int .i64 y.mn, .int .i64 y.mx, .slice y.D y.nk y.ck] 26)).below HBZ.out).up (.cells #[.int .i64 z.op, .slice z.A z.ns z.cs, .int .i64 z.mn, .int .i64 z.mx, .slice z.D z.nk z.ck] 26)).below HB7.out).below hb)); have fz := box_facts HZ8.out; have z0 := fz.1; have z1 := fz.2.1; have z2 := fz.2.2.1; have z3 := fz.2.2.2.1; have z4 := fz.2.2.2.2.1; clear fz; have fa := box_facts HA8.out; have a0 := fa.1; have a1 := fa.2.1; have a2 := fa.2.2.1; have a3 := fa.2.2.2.1; have a4 := fa.2.2.2.2.1; clear fa; have c68 := parts_then (parts_step HB7.out) hb; have c58 := parts_then (parts_step HBZ.out) c68; have c48 := parts_then (parts_step HBY.out) c58; have c38 := parts_then (parts_step HBX.out) c48; have c28 := parts_then (parts_step HBB.out) c38; have NZ8 := Lib.hid (HNZ.out.belowP c68); have NA8 := Lib.hid (HNA.out.belowP c28); have C8 := Lib.hid (parts_then HB.out (parts_then HBA.out c28)); clear c68 c58 c48 c38 c28; have SZ := Lib.hid (same_one NZ8.out NA8.out HVZ.out); clear hb HDS)
      | (go_at_call 7; (with_reducible refine SZ.out.mono ?_); rintro e w11 ⟨rfl, hb⟩; have CE := Lib.hid (parts_then C8.out hb); clear hb SZ))
  go_ret
  exact ⟨rfl, CE.out⟩
set_option maxHeartbeats 4000000 in
theorem parts_left {S T : Wood} {xs ys : List Int} {ts us : List TokL} (h1 : ¬ 60 < s.size) (h2 : ¬ 60 < t.size) (hS : parseT s = some S) (hT : parseT t = some T) (pS : PatT s S xs ts) (pT : PatT t T ys us) (d1 : ¬ depT 0 ts ≤ 9) :
    Calls Tryd.prog 3 #[.string s, .string t] w fun e w' => e = .returned (.bool true) ∧ Below w.heap.size w w' := by
  have HA := Lib.hid (HA0 w (Below.refl _ _))
  have k1 : (⟨#[40]⟩ : ByteArray).size = 1 := rfl
  have k2 : (⟨#[41, 40]⟩ : ByteArray).size = 2 := rfl
  have k3 : (⟨#[41, 124, 40]⟩ : ByteArray).size = 3 := rfl
  have k4 : (⟨#[41]⟩ : ByteArray).size = 1 := rfl
  have hX := parse_two pS pT (q := (((⟨#[40]⟩ ++ s) ++ ⟨#[41, 40]⟩) ++ t) ++ ⟨#[41]⟩) (by rw [nums_app, nums_app, nums_app, nums_app]; show (([40] ++ nums s) ++ [41, 40]) ++ nums t ++ [41] = _; simp)
  have hY := parse_alt pS pT (q := (((⟨#[40]⟩ ++ s) ++ ⟨#[41, 124, 40]⟩) ++ t) ++ ⟨#[41]⟩) (by rw [nums_app, nums_app, nums_app, nums_app]; show (([40] ++ nums s) ++ [41, 124, 40]) ++ nums t ++ [41] = _; simp)
  have hZ := parse_one pS (q := (⟨#[40]⟩ ++ s) ++ ⟨#[41]⟩) (by rw [nums_app, nums_app]; show ([40] ++ nums s) ++ [41] = _; simp)
  rw [if_neg (by omega)] at hX hY
  rw [if_neg (by omega)] at hZ
  have hDS : deepL (nums s) 0 0 = (depT 0 ts : Int) := deep_pat pS
  have hDT : deepL (nums t) 0 0 = (depT 0 us : Int) := deep_pat pT
  have HDS := Lib.hid (fun W => deep_any s (by omega) W)
  have HDT := Lib.hid (fun W => deep_any t (by omega) W)
  rw [hDS] at HDS
  rw [hDT] at HDT
  have HS := Lib.hid (parse_got FS s (by omega))
  have HT := Lib.hid (parse_got FS t (by omega))
  have HX := Lib.hid (parse_got FS ((((⟨#[40]⟩ ++ s) ++ ⟨#[41, 40]⟩) ++ t) ++ ⟨#[41]⟩) (by rw [ba_size, ba_size, ba_size, ba_size]; omega))
  have HY := Lib.hid (parse_got FS ((((⟨#[40]⟩ ++ s) ++ ⟨#[41, 124, 40]⟩) ++ t) ++ ⟨#[41]⟩) (by rw [ba_size, ba_size, ba_size, ba_size]; omega))
  have HZ := Lib.hid (parse_got FS ((⟨#[40]⟩ ++ s) ++ ⟨#[41]⟩) (by rw [ba_size, ba_size]; omega))
  rw [hS] at HS
  rw [hT] at HT
  rw [hX] at HX
  rw [hY] at HY
  rw [hZ] at HZ
  dsimp only at HS HT HX HY HZ
  have HVZ := Lib.hid (parseT_good (by omega) hS).2.2
  have g1 : ¬ 9223372036854775807 < (⟨#[40]⟩ : ByteArray).size + s.size := by omega
  have g2 : ¬ 9223372036854775807 < (⟨#[40]⟩ ++ s : ByteArray).size + (⟨#[41, 40]⟩ : ByteArray).size := by rw [ba_size]; omega
  have g3 : ¬ 9223372036854775807 < ((⟨#[40]⟩ ++ s) ++ ⟨#[41, 40]⟩ : ByteArray).size + t.size := by rw [ba_size, ba_size]; omega
  have g4 : ¬ 9223372036854775807 < (((⟨#[40]⟩ ++ s) ++ ⟨#[41, 40]⟩) ++ t : ByteArray).size + (⟨#[41]⟩ : ByteArray).size := by rw [ba_size, ba_size, ba_size]; omega
  have g5 : ¬ 9223372036854775807 < (⟨#[40]⟩ ++ s : ByteArray).size + (⟨#[41, 124, 40]⟩ : ByteArray).size := by rw [ba_size]; omega
  have g6 : ¬ 9223372036854775807 < ((⟨#[40]⟩ ++ s) ++ ⟨#[41, 124, 40]⟩ : ByteArray).size + t.size := by rw [ba_size, ba_size]; omega
  have g7 : ¬ 9223372036854775807 < (((⟨#[40]⟩ ++ s) ++ ⟨#[41, 124, 40]⟩) ++ t : ByteArray).size + (⟨#[41]⟩ : ByteArray).size := by rw [ba_size, ba_size, ba_size]; omega
  have g8 : ¬ 9223372036854775807 < (⟨#[40]⟩ ++ s : ByteArray).size + (⟨#[41]⟩ : ByteArray).size := by rw [ba_size]; omega
  obtain ⟨D1, hD1⟩ : ∃ D : Nat, D = depT 0 ts := ⟨_, rfl⟩
  obtain ⟨D2, hD2⟩ : ∃ D : Nat, D = depT 0 us := ⟨_, rfl⟩
  rw [← hD1] at HDS d1
  rw [← hD2] at HDT
  clear HA0 FS k1 k2 k3 k4 hX hY hZ hDS hDT pS pT hD1 hD2 hS hT
  go_enter Tryd.func3, Tryd.ntmps3
  go_wp2_with (first
      | (go_at_call 4; (with_reducible refine HA.out.mono ?_); rintro e w1 ⟨rfl, hb⟩; have HB := Lib.hid hb; clear hb)
      | (go_at_call 5; (with_reducible refine (HS.out _).mono ?_); rintro e w2 ⟨a, rfl, hN, hb⟩; have HBA := Lib.hid hb; have HNA := Lib.hid hN; clear hb hN; clear HS; simp only [NV.val])
      | (go_at_call 5; (with_reducible refine (HT.out _).mono ?_); rintro e w3 ⟨b, rfl, hN, hb⟩; have HBB := Lib.hid hb; have HNB := Lib.hid hN; clear hb hN; clear HT; simp only [NV.val])
      | (go_at_call 5; (with_reducible refine (HX.out _).mono ?_); rintro e w4 ⟨x, rfl, hN, hb⟩; have HBX := Lib.hid hb; have HNX := Lib.hid hN; clear hb hN; clear HX; simp only [NV.val])
      | (go_at_call 5; (with_reducible refine (HY.out _).mono ?_); rintro e w5 ⟨y, rfl, hN, hb⟩; have HBY := Lib.hid hb; have HNY := Lib.hid hN; clear hb hN; clear HY; simp only [NV.val])
      | (go_at_call 5; (with_reducible refine (HZ.out _).mono ?_); rintro e w6 ⟨z, rfl, hN, hb⟩; have HBZ := Lib.hid hb; have HNZ := Lib.hid hN; clear hb hN; clear HZ; simp only [NV.val])
      | (go_at_call 6; (with_reducible refine (HDS.out _).mono ?_); rintro e w8 ⟨rfl, hb⟩; have CE := Lib.hid (parts_then HB.out (parts_then HBA.out (parts_then (parts_step HBB.out) (parts_then (parts_step HBX.out) (parts_then (parts_step HBY.out) (parts_then (parts_step HBZ.out) (parts_step hb))))))); clear hb HDS))
  · rename_i hx
    simp only [Bool.not_eq_true', decide_eq_false_iff_not] at hx
    omega
  go_ret
  exact ⟨rfl, CE.out⟩
theorem parts_any : Calls Tryd.prog 3 #[.string s, .string t] w fun e w' => e = .returned (.bool true) ∧ Below w.heap.size w w' := by
  by_cases h : 60 < s.size ∨ 60 < t.size
  · exact parts_out s t w HA0 h
  · have h1 : ¬ 60 < s.size := fun x => h (.inl x)
    have h2 : ¬ 60 < t.size := fun x => h (.inr x)
    rcases hS : parseT s with _ | S
    · exact parts_no FS s t w HA0 h1 h2 (.inl hS)
    rcases hT : parseT t with _ | T
    · exact parts_no FS s t w HA0 h1 h2 (.inr hT)
    obtain ⟨xs, ts, pS⟩ := pat_of hS
    obtain ⟨ys, us, pT⟩ := pat_of hT
    by_cases d1 : depT 0 ts ≤ 9
    · by_cases d2 : depT 0 us ≤ 9
      · exact parts_all FS s t w HA0 h1 h2 hS hT pS pT d1 d2
      · exact parts_right FS s t w HA0 h1 h2 hS hT pS pT d1 d2
    · exact parts_left FS s t w HA0 h1 h2 hS hT pS pT d1
end
end Go.Proofs.YtegcebgoiocakaaDoor
/- ParseParts: all of it. -/
namespace Go.Proofs.YtegcebgoiocakaaDoor
open Go Go.RowKit
theorem partsW_any (s t : ByteArray) (w : World) (hM : Pow w) : Calls Tryd.prog 3 #[.string s, .string t] w fun e w' => e = .returned (.bool true) ∧ Below w.heap.size w w' :=
  parts_any facesS s t w fun w' hb => awake_any w' ((hM.on hb).up hb.size)
end Go.Proofs.YtegcebgoiocakaaDoor
